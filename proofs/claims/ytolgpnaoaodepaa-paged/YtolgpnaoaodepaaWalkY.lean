/- The walks of pages' cutBody and readSection. -/
import Derived.Test.YtolgpnaoaodepaaWalkX
namespace Go.Proofs.Ytolgpnaoaodepaa
open Go.RowKit

theorem row_but {B b : Nat} {w w' : World} {v : Value} {T : TypeId} {s n : Nat} {xs : List Value} (h : w.ownsRow B T s v n xs) (hg : But b w w') (hb : b < B) : w'.ownsRow B T s v n xs := by
  refine World.ownsRow.kept h hg ?_
  cases e : v.ownBlock with
  | none => exact .inl rfl
  | some k => exact .inr (fun e' => by have := (World.ownsRow.lt h k e).1; simp at e'; omega)
theorem but_to_below {b B : Nat} {a w w' : World} (h : Below B a w) (hb : But b w w') (hB : B ≤ b) (hs : B ≤ w.heap.size) : Below B a w' :=
  h.trans ⟨hb.os, hb.tape, hb.output, hb.size, fun k hk => hb.block k (by omega) (by simp; omega)⟩
theorem Rd.grown {w w' : World} {b : Nat} {t : List UInt8} {row : Option Nat} (h : Rd w b t) (hg : w.grownBy w' row) (hne : some b ≠ row) : Rd w' b t := (hg.block b h.lt hne).trans h
/-- How a call ends that tells something new, or gives up. -/
def CutQ (w : World) (o : Option (List (List UInt8))) (r : Ending) (w' : World) : Prop := Below w.heap.size w w' ∧ ((o = none ∧ r = gaveUp) ∨ ∃ l v, o = some (lists l) ∧ r = .returned v ∧ OwnsS w.heap.size w' v l)
theorem ownsS_shrink {B C : Nat} {w : World} {v : Value} {l : List ByteArray} (h : OwnsS B w v l) (hc : C ≤ B) : OwnsS C w v l := by
  refine ⟨h.1, ?_⟩
  rcases h.2 with hn | ⟨g, cap, cur, hv, hb', r⟩
  · exact .inl hn
  · exact .inr ⟨g, cap, cur, hv, Nat.le_trans hc hb', r⟩

set_option maxHeartbeats 2000000 in
set_option maxRecDepth 20000 in
theorem cutBody_any (t : List UInt8) (v : Value) (ss : List Nat) (w : World) (hv : IsRow w v ss.length (ncells ss)) (hl : ss.length ≤ 1000) :
    Calls Try.prog 44 #[.string ⟨t.toArray⟩, v] w fun r w' => CutQ w (Pr.cutR t ss) r w' := by
  obtain ⟨va, vc, rfl, -, hrow⟩ := hv
  have HV := hid hrow
  clear hrow
  go_enter Try.func44, Try.ntmps44
  go_wp2_with fail
  refine (newReader_any t _).mono ?_
  rintro r w1 ⟨rfl, rfl⟩
  have HRD := hid (rd_new w t)
  have HB0 := hid ((Below.refl w.heap.size w).alloc (Nat.le_refl _) (.cells #[.string ⟨t.toArray⟩] 104))
  have hs0 : w.heap.size < (w.alloc (.cells #[.string ⟨t.toArray⟩] 104)).heap.size := by simp
  generalize w.alloc (.cells #[.string ⟨t.toArray⟩] 104) = w0 at *
  have HC := hid (rtake_any w.heap.size 68 t w0 HRD.out)
  go_wp2_with fail
  refine HC.out.mono ?_
  rintro r w1 ⟨hb1, ⟨hn, rfl⟩ | ⟨x, u, hs, rfl, hr1⟩⟩
  · have HT : Hid (Pr.cutR t ss = none) := by show _ = _; unfold Pr.cutR; rw [hn]; rfl
    have HB := hid (but_to_below HB0.out hb1 (Nat.le_refl _) (by omega))
    clear hb1 hn
    unfold gaveUp
    go_wp2_with fail
    exact ⟨rfl, HB.out, .inl ⟨HT.out, rfl⟩⟩
  · have HT : Hid (Pr.cutR t ss = (Pr.cutsR ss u).bind fun r => if r.2 = [] then some r.1 else none) := by show _ = _; unfold Pr.cutR; rw [hs]; rfl
    have HB := hid (but_to_below HB0.out hb1 (Nat.le_refl _) (by omega))
    have HR1 := hid hr1
    have hs1 := hb1.size
    clear hb1 hs hr1 HC HRD
    unfold sv
    go_wp2_with fail
    go_loopw [6, 15] (fun y i wr => ∃ (k : Nat) (l : List ByteArray) (q : List UInt8), k ≤ ss.length ∧ i = .int .i64 k ∧ l.length ≤ k ∧ OwnsS (w.heap.size + 1) wr y l ∧ Rd wr w.heap.size q ∧ Below w.heap.size w wr ∧ w.heap.size < wr.heap.size ∧ (Pr.cutsR (ss.drop k) q).map (fun r => (lists l ++ r.1, r.2)) = Pr.cutsR ss u) (fun _ i _ => ss.length - (intOf i).toNat)
    case atStart => exact ⟨0, [], u, Nat.zero_le _, rfl, by simp, OwnsS.nil _ _, HR1.out, HB.out, by omega, by simp [lists]⟩
    case round =>
      clear HR1 HB hs1 hs0 HB0
      obtain ⟨k, l, q, hk, rfl, hlk, ho, hr, hb, hsz, heq⟩ := hrel
      have HO := hid ho
      have HR := hid hr
      have HB := hid hb
      have HEQ := hid heq
      obtain ⟨ya, yc, rfl⟩ := ho.shape
      clear ho hr hb heq
      by_cases hkl : k < ss.length
      · obtain ⟨b, off, hve, hbw, hcs⟩ := HV.out.resolve_left (by omega)
        subst hve
        have c0 := rowAtN (pl := ss) hcs HB.out hbw k hkl
        clear hcs
        have HNX : Hid (Pr.cutsR (ss.drop k) q = (Pr.takeR (ss[k]'hkl) q).bind fun x => (Pr.cutsR (ss.drop (k + 1)) x.2).map fun r => (x.1 :: r.1, r.2)) := by
          show _ = _; rw [List.drop_eq_getElem_cons hkl]; rfl
        generalize ss[k]'hkl = s at *
        have HC := hid (rtake_any w.heap.size s q wr HR.out)
        go_wp2_with fail
        refine HC.out.mono ?_
        rintro r w2 ⟨hb2, ⟨hn, rfl⟩ | ⟨x, u2, hs, rfl, hr2⟩⟩
        · have HF : Hid (Pr.cutR t ss = none) := by
            show _ = _; rw [HT.out, ← HEQ.out, HNX.out, hn]; rfl
          have HB2 := hid (but_to_below HB.out hb2 (Nat.le_refl _) (by omega))
          clear hb2 hn
          unfold gaveUp
          go_wp2_with fail
          exact ⟨rfl, HB2.out, .inl ⟨HF.out, rfl⟩⟩
        · have HG : Hid ((Pr.cutsR (ss.drop (k + 1)) u2).map (fun r => (lists (l ++ [⟨x.toArray⟩]) ++ r.1, r.2)) = Pr.cutsR ss u) := by
            show _ = _; rw [← HEQ.out, HNX.out, hs]
            simp only [Option.bind_some, Option.map_map]
            congr 1
            funext r
            simp [lists]
          have HB2 := hid (but_to_below HB.out hb2 (Nat.le_refl _) (by omega))
          have HR2 := hid hr2
          have HO2 : Hid (OwnsS (w.heap.size + 1) w2 (.slice ya l.length yc) l) := row_but HO.out hb2 (by omega)
          have hs2 := hb2.size
          clear hb2 hs hr2 HC c0
          unfold sv
          go_wp2_with (first
            | (at_builtin; refine wpApT w2 rfl (.tmp 19) (.tmp 23) rfl (w.heap.size + 1) (.slice ya l.length yc) l rfl HO2.out ⟨x.toArray⟩ rfl (by omega) (by omega) ?_))
          intro v3 w3 ho3 hg3 hat3
          have HO3 := hid ho3
          have HR3 := hid (HR2.out.grown hg3 (fun e => by have := (World.ownsRow.lt HO2.out _ e.symm).1; omega))
          have HB3 := hid (HB2.out.trans (((Below.refl (w.heap.size + 1) w2).grown hg3 (by omega) fun k hk => (World.ownsRow.lt HO2.out k hk).1).mono (by omega)))
          have hs3 := hg3.size
          obtain ⟨ya', yc', rfl⟩ := ho3.shape
          clear ho3 hg3 hat3
          go_wp2_with fail
          go_roundw
          case rel => exact ⟨k + 1, _, u2, by omega, by go_num, by rw [List.length_append]; simp; omega, HO3.out, HR3.out, HB3.out, by omega, HG.out⟩
          case measure => simp [intOf]; omega
      · have HE1 : Hid (Pr.cutsR ss u = some (lists l, q)) := by
          show _ = _; rw [← HEQ.out, List.drop_eq_nil_of_le (by omega)]; simp [Pr.cutsR]
        have HC := hid (rend_any w.heap.size q wr HR.out)
        go_wp2_with fail
        refine HC.out.mono ?_
        rintro r w2 ⟨rfl, rfl⟩
        clear HC
        by_cases hq : q = []
        · have HF : Hid (Pr.cutR t ss = some (lists l)) := by
            show _ = _; rw [HT.out, HE1.out]; simp [hq]
          rw [if_pos hq]
          clear hq
          go_wp2_with fail
          go_ret
          exact ⟨HB.out, .inr ⟨l, _, HF.out, rfl, ownsS_shrink HO.out (by omega)⟩⟩
        · have HF : Hid (Pr.cutR t ss = none) := by
            show _ = _; rw [HT.out, HE1.out]; simp [hq]
          rw [if_neg hq]
          clear hq
          unfold gaveUp
          go_wp2_with fail
          exact ⟨rfl, HB.out, .inl ⟨HF.out, rfl⟩⟩
end Go.Proofs.Ytolgpnaoaodepaa
