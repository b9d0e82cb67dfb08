/- The walks of pages' cutBody and readSection. -/
import Derived.Test.YtolgpnaoaodepaaGreatWalkVm
import Derived.Lib.ConvBytes
import Derived.RegionDies
namespace Go.Proofs.YtolgpnaoaodepaaGreat
open Go.RowKit

theorem row_but {B b : Nat} {w w' : World} {v : Value} {T : TypeId} {s n : Nat} {xs : List Value} (h : w.ownsRow B T s v n xs) (hg : But b w w') (hb : b < B) : w'.ownsRow B T s v n xs := by
  refine World.ownsRow.kept h hg ?_
  cases e : v.ownBlock with
  | none => exact .inl rfl
  | some k => exact .inr (fun e' => by have := (World.ownsRow.lt h k e).1; simp at e'; omega)
theorem but_to_below {b B : Nat} {a w w' : World} (h : Below B a w) (hb : But b w w') (hB : B ≤ b) (hs : B ≤ w.heap.size) : Below B a w' :=
  h.trans ⟨hb.os, hb.tape, hb.output, hb.size, fun k hk => hb.block k (by omega) (by simp; omega)⟩
theorem Rd.grown {w w' : World} {b : Nat} {t : List UInt8} {row : Option Nat} (h : Rd w b t) (hg : w.grownBy w' row) (hne : some b ≠ row) : Rd w' b t := (hg.block b h.lt hne).trans h
/-- How a call ends that tells something new, or gives up. -/
def CutQ (w : World) (o : Option (List (List UInt8))) (r : Ending) (w' : World) : Prop := Below w.heap.size w w' ∧ ((o = none ∧ r = gaveUp) ∨ ∃ l v, o = some (lists l) ∧ r = .returned v ∧ OwnsS w.heap.size w' v l)
theorem ownsS_shrink {B C : Nat} {w : World} {v : Value} {l : List ByteArray} (h : OwnsS B w v l) (hc : C ≤ B) : OwnsS C w v l := by
  refine ⟨h.1, ?_⟩
  rcases h.2 with hn | ⟨g, cap, cur, hv, hb', r⟩
  · exact .inl hn
  · exact .inr ⟨g, cap, cur, hv, Nat.le_trans hc hb', r⟩

set_option maxHeartbeats 2000000 in
set_option maxRecDepth 20000 in
theorem cutBody_any (t : List UInt8) (v : Value) (ss : List Nat) (w : World) (hv : IsRow w v ss.length (ncells ss)) (hl : ss.length ≤ 1000) :
    Calls Tryz.prog 215 #[.string ⟨t.toArray⟩, v] w fun r w' => CutQ w (Pr.cutR t ss) r w' := by
  obtain ⟨va, vc, rfl, -, hrow⟩ := hv
  have HV := hid hrow
  clear hrow
  go_enter Tryz.func215, Tryz.ntmps215
  go_wp2_with fail
  refine (newReader_any t _).mono ?_
  rintro r w1 ⟨rfl, rfl⟩
  have HRD := hid (rd_new w t)
  have HB0 := hid ((Below.refl w.heap.size w).alloc (Nat.le_refl _) (.cells #[.string ⟨t.toArray⟩] 298))
  have hs0 : w.heap.size < (w.alloc (.cells #[.string ⟨t.toArray⟩] 298)).heap.size := by simp
  generalize w.alloc (.cells #[.string ⟨t.toArray⟩] 298) = w0 at *
  have HC := hid (rtake_any w.heap.size 68 t w0 HRD.out)
  go_wp2_with fail
  refine HC.out.mono ?_
  rintro r w1 ⟨hb1, ⟨hn, rfl⟩ | ⟨x, u, hs, rfl, hr1⟩⟩
  · have HT : Hid (Pr.cutR t ss = none) := by show _ = _; unfold Pr.cutR; rw [hn]; rfl
    have HB := hid (but_to_below HB0.out hb1 (Nat.le_refl _) (by omega))
    clear hb1 hn
    unfold gaveUp
    go_wp2_with fail
    exact ⟨rfl, HB.out, .inl ⟨HT.out, rfl⟩⟩
  · have HT : Hid (Pr.cutR t ss = (Pr.cutsR ss u).bind fun r => if r.2 = [] then some r.1 else none) := by show _ = _; unfold Pr.cutR; rw [hs]; rfl
    have HB := hid (but_to_below HB0.out hb1 (Nat.le_refl _) (by omega))
    have HR1 := hid hr1
    have hs1 := hb1.size
    clear hb1 hs hr1 HC HRD
    unfold sv
    go_wp2_with fail
    go_loopw [6, 15] (fun y i wr => ∃ (k : Nat) (l : List ByteArray) (q : List UInt8), k ≤ ss.length ∧ i = .int .i64 k ∧ l.length ≤ k ∧ OwnsS (w.heap.size + 1) wr y l ∧ Rd wr w.heap.size q ∧ Below w.heap.size w wr ∧ w.heap.size < wr.heap.size ∧ (Pr.cutsR (ss.drop k) q).map (fun r => (lists l ++ r.1, r.2)) = Pr.cutsR ss u) (fun _ i _ => ss.length - (intOf i).toNat)
    case atStart => exact ⟨0, [], u, Nat.zero_le _, rfl, by simp, OwnsS.nil _ _, HR1.out, HB.out, by omega, by simp [lists]⟩
    case round =>
      clear HR1 HB hs1 hs0 HB0
      obtain ⟨k, l, q, hk, rfl, hlk, ho, hr, hb, hsz, heq⟩ := hrel
      have HO := hid ho
      have HR := hid hr
      have HB := hid hb
      have HEQ := hid heq
      obtain ⟨ya, yc, rfl⟩ := ho.shape
      clear ho hr hb heq
      by_cases hkl : k < ss.length
      · obtain ⟨b, off, hve, hbw, hcs⟩ := HV.out.resolve_left (by omega)
        subst hve
        have c0 := rowAtN (pl := ss) hcs HB.out hbw k hkl
        clear hcs
        have HNX : Hid (Pr.cutsR (ss.drop k) q = (Pr.takeR (ss[k]'hkl) q).bind fun x => (Pr.cutsR (ss.drop (k + 1)) x.2).map fun r => (x.1 :: r.1, r.2)) := by
          show _ = _; rw [List.drop_eq_getElem_cons hkl]; rfl
        generalize ss[k]'hkl = s at *
        have HC := hid (rtake_any w.heap.size s q wr HR.out)
        go_wp2_with fail
        refine HC.out.mono ?_
        rintro r w2 ⟨hb2, ⟨hn, rfl⟩ | ⟨x, u2, hs, rfl, hr2⟩⟩
        · have HF : Hid (Pr.cutR t ss = none) := by
            show _ = _; rw [HT.out, ← HEQ.out, HNX.out, hn]; rfl
          have HB2 := hid (but_to_below HB.out hb2 (Nat.le_refl _) (by omega))
          clear hb2 hn
          unfold gaveUp
          go_wp2_with fail
          exact ⟨rfl, HB2.out, .inl ⟨HF.out, rfl⟩⟩
        · have HG : Hid ((Pr.cutsR (ss.drop (k + 1)) u2).map (fun r => (lists (l ++ [⟨x.toArray⟩]) ++ r.1, r.2)) = Pr.cutsR ss u) := by
            show _ = _; rw [← HEQ.out, HNX.out, hs]
            simp only [Option.bind_some, Option.map_map]
            congr 1
            funext r
            simp [lists]
          have HB2 := hid (but_to_below HB.out hb2 (Nat.le_refl _) (by omega))
          have HR2 := hid hr2
          have HO2 : Hid (OwnsS (w.heap.size + 1) w2 (.slice ya l.length yc) l) := row_but HO.out hb2 (by omega)
          have hs2 := hb2.size
          clear hb2 hs hr2 HC c0
          unfold sv
          go_wp2_with (first
            | (at_builtin; refine wpApT w2 rfl (.tmp 19) (.tmp 23) rfl (w.heap.size + 1) (.slice ya l.length yc) l rfl HO2.out ⟨x.toArray⟩ rfl (by omega) (by omega) ?_))
          intro v3 w3 ho3 hg3 hat3
          have HO3 := hid ho3
          have HR3 := hid (HR2.out.grown hg3 (fun e => by have := (World.ownsRow.lt HO2.out _ e.symm).1; omega))
          have HB3 := hid (HB2.out.trans (((Below.refl (w.heap.size + 1) w2).grown hg3 (by omega) fun k hk => (World.ownsRow.lt HO2.out k hk).1).mono (by omega)))
          have hs3 := hg3.size
          obtain ⟨ya', yc', rfl⟩ := ho3.shape
          clear ho3 hg3 hat3
          go_wp2_with fail
          go_roundw
          case rel => exact ⟨k + 1, _, u2, by omega, by go_num, by rw [List.length_append]; simp; omega, HO3.out, HR3.out, HB3.out, by omega, HG.out⟩
          case measure => simp [intOf]; omega
      · have HE1 : Hid (Pr.cutsR ss u = some (lists l, q)) := by
          show _ = _; rw [← HEQ.out, List.drop_eq_nil_of_le (by omega)]; simp [Pr.cutsR]
        have HC := hid (rend_any w.heap.size q wr HR.out)
        go_wp2_with fail
        refine HC.out.mono ?_
        rintro r w2 ⟨rfl, rfl⟩
        clear HC
        by_cases hq : q = []
        · have HF : Hid (Pr.cutR t ss = some (lists l)) := by
            show _ = _; rw [HT.out, HE1.out]; simp [hq]
          rw [if_pos hq]
          clear hq
          go_wp2_with fail
          go_ret
          exact ⟨HB.out, .inr ⟨l, _, HF.out, rfl, ownsS_shrink HO.out (by omega)⟩⟩
        · have HF : Hid (Pr.cutR t ss = none) := by
            show _ = _; rw [HT.out, HE1.out]; simp [hq]
          rw [if_neg hq]
          clear hq
          unfold gaveUp
          go_wp2_with fail
          exact ⟨rfl, HB.out, .inl ⟨HF.out, rfl⟩⟩
end Go.Proofs.YtolgpnaoaodepaaGreat
/- The walk of pages' readSection. -/
namespace Go.Proofs.YtolgpnaoaodepaaGreat
open Go.RowKit

def secEnd (o : Option (List UInt8)) : Ending := match o with
  | some c => .returned (.string ⟨c.toArray⟩)
  | none => gaveUp
theorem back_bytes (w w' : World) (s : ByteArray) (cap : Nat) (he : w'.heap = (Lib.bytesWorld w 5 s).heap) : (convert 108 9 (.slice (some ⟨w.heap.size, 0, none⟩) s.size cap)).run Tryz.prog w' = .ok (.string s) w' := by
  have := run_convert_bytes_back (P := Tryz.prog) w' 108 9 5 ⟨w.heap.size, 0, none⟩ cap s.data.toList Tryz.underlying108 Tryz.underlying5 Tryz.underlying9 (fun j hj => by
    rw [add_at]
    have h1 : w'.cell? ⟨w.heap.size, j, none⟩ = (Lib.bytesWorld w 5 s).cell? ⟨w.heap.size, j, none⟩ := by unfold World.cell?; rw [he]
    rw [h1, Lib.bytesWorld_cell w 5 s j (by rw [← len_size]; exact hj), List.getD_eq_getElem?_getD, List.getElem?_eq_getElem hj]
    rfl)
  rw [len_size] at this
  exact this
theorem below_bytes (w : World) (s : ByteArray) : Below w.heap.size w (Lib.bytesWorld w 5 s) := by
  refine ⟨rfl, rfl, rfl, ?_, fun k hk => Lib.bytesWorld_at_old w 5 s k hk⟩
  rw [Lib.bytesWorld_size]; omega
theorem rd_keep {w w' : World} {b : Nat} {t : List UInt8} (h : Rd w b t) (hb : Below w.heap.size w w') : Rd w' b t := h.below hb h.lt

set_option maxHeartbeats 2000000 in
set_option maxRecDepth 20000 in
theorem readSection_any (k : UInt8) (s : List UInt8) (w : World) :
    Calls Tryz.prog 249 #[.int .u8 (k.toNat : Int), .string ⟨s.toArray⟩] w fun r w' => r = secEnd (Pr.secR k s) ∧ Below w.heap.size w w' := by
  generalize hE : secEnd (Pr.secR k s) = E
  have HE := hid hE
  clear hE
  have hkb : k.toNat < 256 := k.toNat_lt
  go_enter Tryz.func249, Tryz.ntmps249
  go_wp2_with fail
  refine (newReader_any s _).mono ?_
  rintro r w1 ⟨rfl, rfl⟩
  have HRD := hid (rd_new w s)
  have HB0 := hid ((Below.refl w.heap.size w).alloc (Nat.le_refl _) (.cells #[.string ⟨s.toArray⟩] 298))
  have hs0 : w.heap.size < (w.alloc (.cells #[.string ⟨s.toArray⟩] 298)).heap.size := by simp
  generalize w.alloc (.cells #[.string ⟨s.toArray⟩] 298) = w0 at *
  have HC := hid (rtake_any w.heap.size 1 s w0 HRD.out)
  go_wp2_with fail
  refine HC.out.mono ?_
  rintro r w1 ⟨hb1, ⟨hn, rfl⟩ | ⟨x, t1, hs1, rfl, hr1⟩⟩
  · have HT : Hid (gaveUp = E) := by show _ = _; rw [← HE.out]; unfold Pr.secR Pr.secW; rw [hn]; rfl
    have HB := hid (but_to_below HB0.out hb1 (Nat.le_refl _) (by omega))
    clear hb1 hn
    unfold gaveUp
    go_wp2_with fail
    exact ⟨rfl, HT.out, HB.out⟩
  have HW1 : Hid (Pr.secW s = (Pr.byteR t1).bind fun h => (Pr.numberR h.2).bind fun n => (Pr.numberR n.2).bind fun z => if 249 < z.1 then none else (Pr.takeR z.1 z.2).map fun c => (h.1, c.1)) := by
    show _ = _; unfold Pr.secW; rw [hs1]; rfl
  have HB1 := hid (but_to_below HB0.out hb1 (Nat.le_refl _) (by omega))
  have hz1 := hb1.size
  have HC2 := hid (rbyte_any w.heap.size t1 w1 hr1)
  clear hb1 hs1 hr1 HC HRD HB0
  unfold sv
  go_wp2_with fail
  refine HC2.out.mono ?_
  rintro r w2 ⟨hb2, ⟨hn, rfl⟩ | ⟨how, t2, hs2, rfl, hr2⟩⟩
  · have HT : Hid (gaveUp = E) := by show _ = _; rw [← HE.out]; unfold Pr.secR; rw [HW1.out, hn]; rfl
    have HB := hid (but_to_below HB1.out hb2 (Nat.le_refl _) (by omega))
    clear hb2 hn
    unfold gaveUp
    go_wp2_with fail
    exact ⟨rfl, HT.out, HB.out⟩
  have HW2 : Hid (Pr.secW s = (Pr.numberR t2).bind fun n => (Pr.numberR n.2).bind fun z => if 249 < z.1 then none else (Pr.takeR z.1 z.2).map fun c => (how, c.1)) := by
    show _ = _; rw [HW1.out, hs2]; rfl
  have HB2 := hid (but_to_below HB1.out hb2 (Nat.le_refl _) (by omega))
  have hz2 := hb2.size
  have HC3 := hid (rnumber_any w.heap.size t2 w2 hr2)
  clear hb2 hs2 hr2 HC2 HW1 HB1
  unfold bv
  go_wp2_with fail
  refine HC3.out.mono ?_
  rintro r w3 ⟨hb3, ⟨hn, rfl⟩ | ⟨n1, t3, hs3, rfl, hr3⟩⟩
  · have HT : Hid (gaveUp = E) := by show _ = _; rw [← HE.out]; unfold Pr.secR; rw [HW2.out, hn]; rfl
    have HB := hid (but_to_below HB2.out hb3 (Nat.le_refl _) (by omega))
    clear hb3 hn
    unfold gaveUp
    go_wp2_with fail
    exact ⟨rfl, HT.out, HB.out⟩
  have HW3 : Hid (Pr.secW s = (Pr.numberR t3).bind fun z => if 249 < z.1 then none else (Pr.takeR z.1 z.2).map fun c => (how, c.1)) := by
    show _ = _; rw [HW2.out, hs3]; rfl
  have HB3 := hid (but_to_below HB2.out hb3 (Nat.le_refl _) (by omega))
  have hz3 := hb3.size
  have HC4 := hid (rnumber_any w.heap.size t3 w3 hr3)
  clear hb3 hs3 hr3 HC3 HW2 HB2
  unfold nv
  go_wp2_with fail
  refine HC4.out.mono ?_
  rintro r w4 ⟨hb4, ⟨hn, rfl⟩ | ⟨z, t4, hs4, rfl, hr4⟩⟩
  · have HT : Hid (gaveUp = E) := by show _ = _; rw [← HE.out]; unfold Pr.secR; rw [HW3.out, hn]; rfl
    have HB := hid (but_to_below HB3.out hb4 (Nat.le_refl _) (by omega))
    clear hb4 hn
    unfold gaveUp
    go_wp2_with fail
    exact ⟨rfl, HT.out, HB.out⟩
  have HW4 : Hid (Pr.secW s = if 249 < z then none else (Pr.takeR z t4).map fun c => (how, c.1)) := by
    show _ = _; rw [HW3.out, hs4]; rfl
  have HB4 := hid (but_to_below HB3.out hb4 (Nat.le_refl _) (by omega))
  have hz4 := hb4.size
  have HC5 := hid (rtake_any w.heap.size z t4 w4 hr4)
  clear hb4 hs4 hr4 HC4 HW3 HB3
  unfold nv
  by_cases hz249 : 249 < z
  · have HT : Hid (gaveUp = E) := by show _ = _; rw [← HE.out]; unfold Pr.secR; rw [HW4.out, if_pos hz249]; rfl
    have hdz : decide ((z : Int) ≤ 249) = false := by simp; omega
    go_wp2_with fail
    refine (unless_no _).mono ?_
    rintro r w5 ⟨rfl, rfl⟩
    unfold gaveUp
    go_wp2_with fail
    exact ⟨rfl, HT.out, HB4.out⟩
  rw [if_neg hz249] at HW4
  have hdz : decide ((z : Int) ≤ 249) = true := by simp; omega
  go_wp2_with fail
  refine (unless_yes _).mono ?_
  rintro r w5 ⟨rfl, rfl⟩
  go_wp2_with fail
  refine HC5.out.mono ?_
  rintro r w5 ⟨hb5, ⟨hn, rfl⟩ | ⟨c, t5, hs5, rfl, hr5⟩⟩
  · have HT : Hid (gaveUp = E) := by show _ = _; rw [← HE.out]; unfold Pr.secR; rw [HW4.out, hn]; rfl
    have HB := hid (but_to_below HB4.out hb5 (Nat.le_refl _) (by omega))
    clear hb5 hn
    unfold gaveUp
    go_wp2_with fail
    exact ⟨rfl, HT.out, HB.out⟩
  have HSR : Hid (Pr.secR k s = (Pr.secU how c).bind fun u => if Pg.section_ [k] u = s then some u else none) := by
    show _ = _; unfold Pr.secR; rw [HW4.out, hs5]; rfl
  have hcl : c.length ≤ 249 := by rw [(Pr.takeR_len hs5).1]; omega
  have HB5 := hid (but_to_below HB4.out hb5 (Nat.le_refl _) (by omega))
  have hz5 := hb5.size
  clear hb5 hs5 hr5 HC5 HW4 HB4
  unfold sv
  by_cases hh : how = 1
  · subst hh
    have HSU : Hid (Pr.secU 1 c = Sq.spread c) := rfl
    go_wp2_with fail
    refine (pkgSpread_any ⟨c.toArray⟩ _ (by rw [size_mk]; omega)).mono ?_
    rintro r w6 ⟨rfl, hb6⟩
    rw [show (⟨c.toArray⟩ : ByteArray).data.toList = c from rfl]
    have HB6 := hid (HB5.out.trans (hb6.mono (by omega)))
    have hz6 := hb6.size
    clear hb6
    cases hsp : Sq.spread c with
    | none =>
      have HT : Hid (gaveUp = E) := by show _ = _; rw [← HE.out, HSR.out, HSU.out, hsp]; rfl
      rw [show spreadEnd c = gaveUp by unfold spreadEnd; rw [hsp]]
      clear hsp
      unfold gaveUp
      go_wp2_with fail
      exact ⟨rfl, HT.out, HB6.out⟩
    | some u =>
      have hul : u.length ≤ 20000 := by
        unfold Sq.spread at hsp
        split at hsp
        · rename_i t ht'
          have := Sq.decode_le _ _ _ ht'
          split at hsp
          · simp at hsp; subst hsp; simp at this; omega
          · simp at hsp
        · simp at hsp
      have HSP : Hid (Pr.secU 1 c = some u) := by show _ = _; rw [HSU.out, hsp]
      rw [show spreadEnd c = .returned (.string ⟨u.toArray⟩) by unfold spreadEnd; rw [hsp]]
      clear hsp
      have hul2 := size_mk u
      have hcv := Lib.run_convert_string_bytes (P := Tryz.prog) w6 9 108 5 ⟨u.toArray⟩ Tryz.underlying9 Tryz.underlying108 Tryz.underlying5
      rw [size_mk] at hcv
      have HBB := hid (HB6.out.trans ((below_bytes w6 ⟨u.toArray⟩).mono (by omega)))
      have HBK : Hid (∀ (w' : World) (cap : Nat), w'.heap = (Lib.bytesWorld w6 5 ⟨u.toArray⟩).heap → (convert 108 9 (.slice (some ⟨w6.heap.size, 0, none⟩) u.length cap)).run Tryz.prog w' = .ok (.string ⟨u.toArray⟩) w') := fun w' cap he => by have := back_bytes w6 w' ⟨u.toArray⟩ cap he; rw [size_mk] at this; exact this
      have hsw : w6.heap.size ≤ (Lib.bytesWorld w6 5 ⟨u.toArray⟩).heap.size := (below_bytes w6 ⟨u.toArray⟩).size
      go_wp2_with fail
      clear hcv
      refine (writeSec_cv k _ u _ ⟨_, _, rfl⟩ (fun w' he => HBK.out w' _ he) (by omega)).mono ?_
      rintro r w7 ⟨rfl, hb7⟩
      have HB7 := hid (HBB.out.trans (hb7.mono (by omega)))
      clear hb7 HBK
      by_cases he : Pg.section_ [k] u = s
      · have HT : Hid (.returned (.string ⟨u.toArray⟩) = E) := by show _ = _; rw [← HE.out, HSR.out, HSP.out]; simp [he, secEnd]
        go_wp2_with fail
        refine (unless_yes _).mono ?_
        rintro r w8 ⟨rfl, rfl⟩
        go_wp2_with fail
        go_ret
        exact ⟨HT.out, HB7.out⟩
      · have HT : Hid (gaveUp = E) := by show _ = _; rw [← HE.out, HSR.out, HSP.out]; simp [he, secEnd]
        have hne : (Pg.section_ [k] u == s) = false := by simpa using he
        go_wp2_with fail
        refine (unless_no _).mono ?_
        rintro r w8 ⟨rfl, rfl⟩
        unfold gaveUp
        go_wp2_with fail
        exact ⟨rfl, HT.out, HB7.out⟩
  · have HSP : Hid (Pr.secU how c = some c) := by show _ = _; unfold Pr.secU; rw [if_neg hh]
    have hhn : ((how.toNat : Int) == 1) = false := by
      simp only [beq_eq_false_iff_ne, ne_eq]
      intro e
      exact hh (UInt8.toNat_inj.1 (by simpa using (by omega : how.toNat = 1)))
    have hul2 := size_mk c
    have hcv := Lib.run_convert_string_bytes (P := Tryz.prog) w5 9 108 5 ⟨c.toArray⟩ Tryz.underlying9 Tryz.underlying108 Tryz.underlying5
    rw [size_mk] at hcv
    have HBB := hid (HB5.out.trans ((below_bytes w5 ⟨c.toArray⟩).mono (by omega)))
    have HBK : Hid (∀ (w' : World) (cap : Nat), w'.heap = (Lib.bytesWorld w5 5 ⟨c.toArray⟩).heap → (convert 108 9 (.slice (some ⟨w5.heap.size, 0, none⟩) c.length cap)).run Tryz.prog w' = .ok (.string ⟨c.toArray⟩) w') := fun w' cap he => by have := back_bytes w5 w' ⟨c.toArray⟩ cap he; rw [size_mk] at this; exact this
    have hsw : w5.heap.size ≤ (Lib.bytesWorld w5 5 ⟨c.toArray⟩).heap.size := (below_bytes w5 ⟨c.toArray⟩).size
    go_wp2_with fail
    clear hcv
    refine (writeSec_cv k _ c _ ⟨_, _, rfl⟩ (fun w' he => HBK.out w' _ he) (by omega)).mono ?_
    rintro r w7 ⟨rfl, hb7⟩
    have HB7 := hid (HBB.out.trans (hb7.mono (by omega)))
    clear hb7 HBK
    by_cases he : Pg.section_ [k] c = s
    · have HT : Hid (.returned (.string ⟨c.toArray⟩) = E) := by show _ = _; rw [← HE.out, HSR.out, HSP.out]; simp [he, secEnd]
      go_wp2_with fail
      refine (unless_yes _).mono ?_
      rintro r w8 ⟨rfl, rfl⟩
      go_wp2_with fail
      go_ret
      exact ⟨HT.out, HB7.out⟩
    · have HT : Hid (gaveUp = E) := by show _ = _; rw [← HE.out, HSR.out, HSP.out]; simp [he, secEnd]
      have hne : (Pg.section_ [k] c == s) = false := by simpa using he
      go_wp2_with fail
      refine (unless_no _).mono ?_
      rintro r w8 ⟨rfl, rfl⟩
      unfold gaveUp
      go_wp2_with fail
      exact ⟨rfl, HT.out, HB7.out⟩
end Go.Proofs.YtolgpnaoaodepaaGreat
/- The walk of pages' readItems. -/
namespace Go.Proofs.YtolgpnaoaodepaaGreat
open Go.RowKit

theorem rdq_no {α : Type} {f : α → Value} {b : Nat} {w : World} {o : Option (α × List UInt8)} {r : Ending} {w' : World} (h : RdQ f b w o r w') (ho : o = none) : r = gaveUp ∧ But b w w' := by
  obtain ⟨h1, ⟨_, h2⟩ | ⟨x, u, h2, _⟩⟩ := h
  · exact ⟨h2, h1⟩
  · rw [ho] at h2; simp at h2
theorem rdq_yes {α : Type} {f : α → Value} {b : Nat} {w : World} {o : Option (α × List UInt8)} {r : Ending} {w' : World} {x : α} {u : List UInt8} (h : RdQ f b w o r w') (ho : o = some (x, u)) : r = .returned (f x) ∧ Rd w' b u ∧ But b w w' := by
  obtain ⟨h1, ⟨h2, _⟩ | ⟨x', u', h2, h3, h4⟩⟩ := h
  · rw [ho] at h2; simp at h2
  · rw [ho] at h2; simp only [Option.some.injEq, Prod.mk.injEq] at h2
    rw [h2.1, h2.2]; exact ⟨h3, h4, h1⟩
theorem rtext_no (b : Nat) (t : List UInt8) (w : World) (hr : Rd w b t) (ht : t.length ≤ 35184372088832) (h : Pr.textR t = none) : Calls Tryz.prog 268 #[.pointer (some ⟨b, 0, none⟩)] w fun r w' => r = gaveUp ∧ But b w w' := (rtext_any b t w hr ht).mono fun _ _ q => rdq_no q h
theorem rtext_yes (b : Nat) (t : List UInt8) (w : World) (hr : Rd w b t) (ht : t.length ≤ 35184372088832) {x u : List UInt8} (h : Pr.textR t = some (x, u)) : Calls Tryz.prog 268 #[.pointer (some ⟨b, 0, none⟩)] w fun r w' => r = .returned (.string ⟨x.toArray⟩) ∧ Rd w' b u ∧ But b w w' := (rtext_any b t w hr ht).mono fun _ _ q => rdq_yes (f := sv) q h
theorem but_drew {b : Nat} {w w' : World} (h : But b w.drew w') : But b w w' := ⟨h.os, h.tape, h.output, h.size, h.block⟩
def ItemsQ (w : World) (o : Option (List (List UInt8 × List UInt8))) (r : Ending) (w' : World) : Prop := Below w.heap.size w w' ∧ ((o = none ∧ r = gaveUp) ∨ ∃ l v, o = some (plain l) ∧ r = .returned v ∧ OwnsI w.heap.size w' v l ∧ l.length ≤ 255 ∧ ∀ x ∈ l, x.1.size ≤ 10000000 ∧ x.2.size ≤ 10000000)
theorem ownsI_items {B : Nat} {w : World} {v : Value} {l : List (ByteArray × ByteArray)} (h : OwnsI B w v l) : IsItems w v l := by
  rcases h.2 with ⟨rfl, hn⟩ | ⟨g, cap, cur, rfl, hb, hg, hc, hm, hcs, htk⟩
  · exact .inl ⟨none, 0, rfl, List.length_eq_zero_iff.1 hn⟩
  · rcases h.isItems with ⟨a, c, h1, h2⟩ | ⟨g', c', h1, h2, h3, h4, h5⟩
    · exact .inl ⟨a, c, h1, h2⟩
    · injection h1 with e1 e2 e3
      subst e3
      simp only [Option.some.injEq, Addr.mk.injEq, and_true] at e1
      subst e1
      exact .inr ⟨g, 0, cap, rfl, h2, by unfold maxLen at hm; omega, h4, h5⟩
theorem ownsI_shrink {B C : Nat} {w : World} {v : Value} {l : List (ByteArray × ByteArray)} (h : OwnsI B w v l) (hc : C ≤ B) : OwnsI C w v l := by
  refine ⟨h.1, ?_⟩
  rcases h.2 with hn | ⟨g, cap, cur, hv, hb', r⟩
  · exact .inl hn
  · exact .inr ⟨g, cap, cur, hv, Nat.le_trans hc hb', r⟩
theorem plain_snoc (l : List (ByteArray × ByteArray)) (x : ByteArray × ByteArray) : plain (l ++ [x]) = plain l ++ [(x.1.data.toList, x.2.data.toList)] := by simp [plain]

set_option maxHeartbeats 4000000 in
set_option maxRecDepth 20000 in
theorem readItems_any (c : List UInt8) (w : World) (hc : c.length ≤ 1000000) :
    Calls Tryz.prog 255 #[.string ⟨c.toArray⟩] w fun r w' => ItemsQ w (Pr.basR c) r w' := by
  go_enter Tryz.func255, Tryz.ntmps255
  go_wp2_with fail
  refine (newReader_any c _).mono ?_
  rintro r w1 ⟨rfl, rfl⟩
  have HRD := hid (rd_new w c)
  have HB0 := hid ((Below.refl w.heap.size w).alloc (Nat.le_refl _) (.cells #[.string ⟨c.toArray⟩] 298))
  have hs0 : w.heap.size < (w.alloc (.cells #[.string ⟨c.toArray⟩] 298)).heap.size := by simp
  generalize w.alloc (.cells #[.string ⟨c.toArray⟩] 298) = w0 at *
  have HC := hid (rbyte_any w.heap.size c w0 HRD.out)
  go_wp2_with fail
  refine HC.out.mono ?_
  rintro r w1 ⟨hb1, ⟨hn, rfl⟩ | ⟨bn, t1, hs1, rfl, hr1⟩⟩
  · have HT : Hid (Pr.basR c = none) := by show _ = _; unfold Pr.basR; rw [hn]; rfl
    have HB := hid (but_to_below HB0.out hb1 (Nat.le_refl _) (by omega))
    clear hb1 hn
    unfold gaveUp
    go_wp2_with fail
    exact ⟨rfl, HB.out, .inl ⟨HT.out, rfl⟩⟩
  have HT1 : Hid (Pr.basR c = (Pr.itemsR bn.toNat [] t1).bind fun r => if Pg.basement r.1 = c then some r.1 else none) := by
    show _ = _; unfold Pr.basR; rw [hs1]; rfl
  have ht1 : t1.length ≤ c.length := by rw [Pr.byteR_len hs1]; simp
  have HB1 := hid (but_to_below HB0.out hb1 (Nat.le_refl _) (by omega))
  have HR1 := hid hr1
  have hz1 := hb1.size
  have hbn : bn.toNat < 256 := bn.toNat_lt
  clear hb1 hs1 hr1 HC HRD HB0
  unfold bv
  generalize bn.toNat = n at *
  go_wp2_with fail
  go_loopw [4, 5, 12] (fun y ah i wr => ∃ (k : Nat) (l : List (ByteArray × ByteArray)) (q : List UInt8) (lb : ByteArray), k ≤ n ∧ i = .int .u8 k ∧ ah = .string lb ∧ lb.size ≤ 2000000 ∧ l.length ≤ k ∧ q.length ≤ c.length ∧ OwnsI (w.heap.size + 1) wr y l ∧ Rd wr w.heap.size q ∧ Below w.heap.size w wr ∧ w.heap.size < wr.heap.size ∧ (∀ x ∈ l, x.1.size ≤ 10000000 ∧ x.2.size ≤ 10000000) ∧ (Pr.itemsR (n - k) lb.data.toList q).map (fun r => (plain l ++ r.1, r.2)) = Pr.itemsR n [] t1) (fun _ _ i _ => n - (intOf i).toNat)
  case atStart => exact ⟨0, [], t1, ⟨#[]⟩, Nat.zero_le _, rfl, rfl, by decide, by simp, ht1, World.ownsRow_nil _ _ _ _, HR1.out, HB1.out, by omega, by simp, by simp [plain]⟩
  case round =>
    clear HR1 HB1 hz1 hs0
    obtain ⟨k, l, q, lb, hk, rfl, rfl, hlb, hlk, hq, ho, hr, hb, hsz, hls, heq⟩ := hrel
    have HO := hid ho
    have HR := hid hr
    have HB := hid hb
    have HEQ := hid heq
    have HLS := hid hls
    obtain ⟨ya, yc, rfl⟩ := rowShape ho
    clear ho hr hb heq hls
    by_cases hkn : k < n
    · obtain ⟨m, hm⟩ : ∃ m, n - k = m + 1 := ⟨n - k - 1, by omega⟩
      have HMK : Hid (m = n - (k + 1)) := by show _ = _; omega
      have HNX : Hid (Pr.itemsR (n - k) lb.data.toList q = (Pr.byteR q).bind fun b => if lb.data.toList.length < b.1.toNat then none else (Pr.textR b.2).bind fun x => (Pr.textR x.2).bind fun v => (Pr.itemsR m (lb.data.toList.take b.1.toNat ++ x.1) v.2).map fun r => ((lb.data.toList.take b.1.toNat ++ x.1, v.1) :: r.1, r.2)) := by
        show _ = _; rw [hm]; rfl
      clear hm
      have HC := hid (rbyte_any w.heap.size q wr HR.out)
      go_wp2_with fail
      refine HC.out.mono ?_
      rintro r w2 ⟨hb2, ⟨hn, rfl⟩ | ⟨sb, q2, hs2, rfl, hr2⟩⟩
      · have HF : Hid (Pr.basR c = none) := by
          show _ = _; rw [HT1.out, ← HEQ.out, HNX.out, hn]; rfl
        have HB2 := hid (but_to_below HB.out hb2 (Nat.le_refl _) (by omega))
        clear hb2 hn
        unfold gaveUp
        go_wp2_with fail
        exact ⟨rfl, HB2.out, .inl ⟨HF.out, rfl⟩⟩
      have HN2 : Hid (Pr.itemsR (n - k) lb.data.toList q = if lb.size < sb.toNat then none else (Pr.textR q2).bind fun x => (Pr.textR x.2).bind fun v => (Pr.itemsR m (lb.data.toList.take sb.toNat ++ x.1) v.2).map fun r => ((lb.data.toList.take sb.toNat ++ x.1, v.1) :: r.1, r.2)) := by
        show _ = _; rw [HNX.out, hs2]; simp only [Option.bind_some, len_size]
      have hq2 : q2.length ≤ c.length := by have := Pr.byteR_len hs2; rw [this] at hq; simp at hq; omega
      have HB2 := hid (but_to_below HB.out hb2 (Nat.le_refl _) (by omega))
      have HR2 := hid hr2
      have HO2 : Hid (OwnsI (w.heap.size + 1) w2 (.slice ya l.length yc) l) := row_but HO.out hb2 (by omega)
      have hz2 := hb2.size
      have hsb : sb.toNat < 256 := sb.toNat_lt
      clear hb2 hs2 hr2 HC HNX
      unfold bv
      generalize sb.toNat = sm at *
      by_cases hsm : lb.size < sm
      · have HF : Hid (Pr.basR c = none) := by
          show _ = _; rw [HT1.out, ← HEQ.out, HN2.out, if_pos hsm]; rfl
        have hd : decide (sm ≤ lb.size) = false := decide_eq_false (by omega)
        go_wp2_with fail
        refine (unless_no _).mono ?_
        rintro r w3 ⟨rfl, rfl⟩
        unfold gaveUp
        go_wp2_with fail
        exact ⟨rfl, HB2.out, .inl ⟨HF.out, rfl⟩⟩
      rw [if_neg hsm] at HN2
      have hi1 : (0 : Int) ≤ (sm : Int) := by omega
      have hi2 : (sm : Int) ≤ (lb.size : Int) := by omega
      go_wp2_with fail
      refine (unless_yes _).mono ?_
      rintro r w3 ⟨rfl, rfl⟩
      cases htx : Pr.textR q2 with
      | none =>
        have HF : Hid (Pr.basR c = none) := by
          show _ = _; rw [HT1.out, ← HEQ.out, HN2.out, htx]; rfl
        have HC := hid (fun W hW => rtext_no w.heap.size q2 W hW (by omega) htx)
        clear htx
        go_wp2_with fail
        go_region_dies
        all_goals
          refine (HC.out (World.drew w3) HR2.out).mono ?_
          rintro r w4 ⟨rfl, hb4⟩
          have HB4 := hid (but_to_below HB2.out (but_drew hb4) (Nat.le_refl _) (by omega))
          clear hb4
          unfold gaveUp
          go_wp2_with fail
          exact ⟨rfl, HB4.out, .inl ⟨HF.out, rfl⟩⟩
      | some xu =>
        obtain ⟨x, q3⟩ := xu
        have HN3 : Hid (Pr.itemsR (n - k) lb.data.toList q = (Pr.textR q3).bind fun v => (Pr.itemsR m (lb.data.toList.take sm ++ x) v.2).map fun r => ((lb.data.toList.take sm ++ x, v.1) :: r.1, r.2)) := by
          show _ = _; rw [HN2.out, htx]; rfl
        have hxl := Pr.textR_len htx
        have HC := hid (fun W hW => rtext_yes w.heap.size q2 W hW (by omega) htx)
        clear htx HN2
        have hzx := size_mk x
        have hes : (lb.extract 0 sm).size ≤ 300 := by rw [ByteArray.size_extract]; omega
        have e1 : ∀ w, (Op.stringOp .add (lb.extract 0 sm) ⟨x.toArray⟩).run Tryz.prog w = .ok (.string (lb.extract 0 sm ++ ⟨x.toArray⟩)) w := fun w => run_string_add_sum w _ _ (by omega)
        go_wp2_with fail
        go_region_law (first
          | (go_simp
             refine (HC.out (World.drew w3) HR2.out).mono ?_
             rintro r w4 ⟨rfl, hr4, hb4⟩
             have HR4 := hid hr4
             have HB4 := hid (but_to_below HB2.out (but_drew hb4) (Nat.le_refl _) (by omega))
             have HO4 : Hid (OwnsI (w.heap.size + 1) w4 (.slice ya l.length yc) l) := row_but HO2.out (but_drew hb4) (by omega)
             have hz4 : w3.heap.size ≤ w4.heap.size := (but_drew hb4).size
             clear hr4 hb4))
        all_goals
          go_wp2_with fail
          have HC2 := hid (rtext_any w.heap.size q3 w4 HR4.out (by omega))
          generalize hkb : lb.extract 0 sm ++ (⟨x.toArray⟩ : ByteArray) = kb at *
          have hkbs : kb.size ≤ 1000400 := by rw [← hkb, ByteArray.size_append']; omega
          have HKB : Hid (kb.data.toList = lb.data.toList.take sm ++ x) := by
            show _ = _; rw [← hkb]; simp
          clear hkb e1
          refine HC2.out.mono ?_
          rintro r w5 ⟨hb5, ⟨hn, rfl⟩ | ⟨v, q4, hs5, rfl, hr5⟩⟩
          · have HF : Hid (Pr.basR c = none) := by
              show _ = _; rw [HT1.out, ← HEQ.out, HN3.out, hn]; rfl
            have HB5 := hid (but_to_below HB4.out hb5 (Nat.le_refl _) (by omega))
            clear hb5 hn
            unfold gaveUp
            go_wp2_with fail
            exact ⟨rfl, HB5.out, .inl ⟨HF.out, rfl⟩⟩
          · have hvl := Pr.textR_len hs5
            have HG : Hid ((Pr.itemsR (n - (k + 1)) kb.data.toList q4).map (fun r => (plain (l ++ [(kb, ⟨v.toArray⟩)]) ++ r.1, r.2)) = Pr.itemsR n [] t1) := by
              show _ = _; rw [← HEQ.out, HN3.out, hs5, ← HMK.out, HKB.out, plain_snoc]
              simp only [Option.bind_some, Option.map_map]
              congr 1
              funext r
              simp [HKB.out]
            have HB5 := hid (but_to_below HB4.out hb5 (Nat.le_refl _) (by omega))
            have HR5 := hid hr5
            have HO5 : Hid (OwnsI (w.heap.size + 1) w5 (.slice ya l.length yc) l) := row_but HO4.out hb5 (by omega)
            have hz5 := hb5.size
            have hzv := size_mk v
            clear hb5 hs5 hr5 HC2 HC
            unfold sv
            go_wp2_with (first
              | (at_builtin; refine wpApG w5 rfl (.tmp 28) (.tmp 33) 30 51 Tryz.underlying30 _ 2 32 info_item rfl (by decide) (by decide) rfl (w.heap.size + 1) (.slice ya l.length yc) l.length (icells l) rfl HO5.out [.string kb, .string ⟨v.toArray⟩] rfl (by intro u hu; simp at hu; rcases hu with rfl | rfl <;> rfl) rfl (by omega) (by omega) ?_))
            intro v6 w6 ho6 hg6 hat6
            have HO6 : Hid (OwnsI (w.heap.size + 1) w6 v6 (l ++ [(kb, ⟨v.toArray⟩)])) := by
              show OwnsI _ _ _ _; unfold OwnsI; rw [List.length_append, icells_snoc]; exact ho6
            have HR6 := hid (HR5.out.grown hg6 (fun e => by have := (World.ownsRow.lt HO5.out _ e.symm).1; omega))
            have HB6 := hid (HB5.out.trans (((Below.refl (w.heap.size + 1) w5).grown hg6 (by omega) fun k hk => (World.ownsRow.lt HO5.out k hk).1).mono (by omega)))
            have hz6 := hg6.size
            obtain ⟨ya', yc', rfl⟩ := rowShape ho6
            clear ho6 hg6 hat6
            go_wp2_with fail
            go_roundw
            case rel =>
              refine ⟨k + 1, _, q4, kb, by omega, by go_num, rfl, by omega, by rw [List.length_append]; simp; omega, by omega, HO6.out, HR6.out, HB6.out, by omega, ?_, HG.out⟩
              intro y hy
              rcases List.mem_append.1 hy with h | h
              · exact HLS.out y h
              · rw [List.mem_singleton.1 h]; exact ⟨by simp only; omega, by simp only; omega⟩
            case measure => simp [intOf]; omega
    · have HE1 : Hid (Pr.itemsR n [] t1 = some (plain l, q)) := by
        show _ = _; rw [← HEQ.out, show n - k = 0 by omega]; simp [Pr.itemsR]
      have HIT := hid (ownsI_items HO.out)
      go_wp2_with fail
      refine (base_any _ l _ HIT.out (by omega) HLS.out).mono ?_
      rintro r w2 ⟨v2, rfl, ho2, hb2⟩
      have hcv := ho2.str
      have HB2 := hid (HB.out.trans (hb2.mono (by omega)))
      have HO2 : Hid (OwnsI w.heap.size w2 (.slice ya l.length yc) l) := ownsI_shrink (row_below HO.out hb2 (Nat.le_refl _)) (by omega)
      clear ho2 hb2
      by_cases he : Pg.basement (plain l) = c
      · have HF : Hid (Pr.basR c = some (plain l)) := by
          show _ = _; rw [HT1.out, HE1.out]; simp [he]
        go_wp2_with fail
        refine (unless_yes _).mono ?_
        rintro r w3 ⟨rfl, rfl⟩
        go_wp2_with fail
        go_ret
        exact ⟨HB2.out, .inr ⟨l, _, HF.out, rfl, HO2.out, by omega, HLS.out⟩⟩
      · have HF : Hid (Pr.basR c = none) := by
          show _ = _; rw [HT1.out, HE1.out]; simp [he]
        have hne : (Pg.basement (plain l) == c) = false := by simpa using he
        go_wp2_with fail
        refine (unless_no _).mono ?_
        rintro r w3 ⟨rfl, rfl⟩
        unfold gaveUp
        go_wp2_with fail
        exact ⟨rfl, HB2.out, .inl ⟨HF.out, rfl⟩⟩
end Go.Proofs.YtolgpnaoaodepaaGreat
