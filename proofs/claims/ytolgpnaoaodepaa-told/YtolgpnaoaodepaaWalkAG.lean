/- The walks of pages' readChildren and readBranch. -/
import Derived.Test.YtolgpnaoaodepaaWalkAF
namespace Go.Proofs.Ytolgpnaoaodepaa
open Go.RowKit

def KidQ (w : World) (o : Option (List Nat × List (List UInt8))) (r : Ending) (w' : World) : Prop := Below w.heap.size w w' ∧ ((o = none ∧ r = gaveUp) ∨ ∃ cl pl v1 v2, o = some (cl, lists pl) ∧ r = .returned (.tuple #[v1, v2]) ∧ w'.ownsRow w.heap.size 3 1 v1 cl.length (ncells cl) ∧ OwnsS w.heap.size w' v2 pl ∧ cl.length ≤ 255 ∧ pl.length ≤ 255)
theorem row_shrink {B C : Nat} {w : World} {v : Value} {T : TypeId} {s n : Nat} {xs : List Value} (h : w.ownsRow B T s v n xs) (hc : C ≤ B) : w.ownsRow C T s v n xs := by
  refine ⟨h.1, ?_⟩
  rcases h.2 with hn | ⟨g, cap, cur, hv, hb', r⟩
  · exact .inl hn
  · exact .inr ⟨g, cap, cur, hv, Nat.le_trans hc hb', r⟩

set_option maxHeartbeats 2000000 in
set_option maxRecDepth 20000 in
theorem readChildren_any (c : List UInt8) (n : Nat) (w : World) (hn : n ≤ 255) (hc : c.length ≤ 1000000) :
    Calls Try.prog 79 #[.string ⟨c.toArray⟩, .int .i64 n] w fun r w' => KidQ w (Pr.childrenR c n) r w' := by
  go_enter Try.func79, Try.ntmps79
  go_wp2_with fail
  refine (newReader_any c _).mono ?_
  rintro r w1 ⟨rfl, rfl⟩
  have HRD := hid (rd_new w c)
  have HB0 := hid ((Below.refl w.heap.size w).alloc (Nat.le_refl _) (.cells #[.string ⟨c.toArray⟩] 104))
  have hs0 : w.heap.size < (w.alloc (.cells #[.string ⟨c.toArray⟩] 104)).heap.size := by simp
  generalize w.alloc (.cells #[.string ⟨c.toArray⟩] 104) = w0 at *
  go_wp2_with fail
  go_loopw [4, 10] (fun y i wr => ∃ (k : Nat) (l : List Nat) (q : List UInt8), k ≤ n ∧ i = .int .i64 k ∧ l.length ≤ k ∧ q.length ≤ c.length ∧ wr.ownsRow (w.heap.size + 1) 3 1 y l.length (ncells l) ∧ Rd wr w.heap.size q ∧ Below w.heap.size w wr ∧ w.heap.size < wr.heap.size ∧ (Pr.numsR (n - k) q).map (fun r => (l ++ r.1, r.2)) = Pr.numsR n c) (fun _ i _ => n - (intOf i).toNat)
  case atStart => exact ⟨0, [], c, Nat.zero_le _, rfl, by simp, Nat.le_refl _, World.ownsRow_nil _ _ _ _, HRD.out, HB0.out, hs0, by simp⟩
  case round =>
    clear HRD HB0 hs0
    obtain ⟨k, l, q, hk, rfl, hlk, hq, ho, hr, hb, hsz, heq⟩ := hrel
    have HO := hid ho
    have HR := hid hr
    have HB := hid hb
    have HEQ := hid heq
    obtain ⟨ya, yc, rfl⟩ := rowShape ho
    clear ho hr hb heq
    by_cases hkn : k < n
    · obtain ⟨m, hm⟩ : ∃ m, n - k = m + 1 := ⟨n - k - 1, by omega⟩
      have HMK : Hid (m = n - (k + 1)) := by show _ = _; omega
      have HNX : Hid (Pr.numsR (n - k) q = (Pr.numberR q).bind fun x => (Pr.numsR m x.2).map fun r => (x.1 :: r.1, r.2)) := by show _ = _; rw [hm]; rfl
      clear hm
      have HC := hid (rnumber_any w.heap.size q wr HR.out)
      go_wp2_with fail
      refine HC.out.mono ?_
      rintro r w2 ⟨hb2, ⟨hn2, rfl⟩ | ⟨x, q2, hs2, rfl, hr2⟩⟩
      · have HF : Hid (Pr.childrenR c n = none) := by show _ = _; unfold Pr.childrenR; rw [← HEQ.out, HNX.out, hn2]; rfl
        have HB2 := hid (but_to_below HB.out hb2 (Nat.le_refl _) (by omega))
        clear hb2 hn2
        unfold gaveUp
        go_wp2_with fail
        exact ⟨rfl, HB2.out, .inl ⟨HF.out, rfl⟩⟩
      · have hxl := Pr.numberR_le hs2
        have HG : Hid ((Pr.numsR (n - (k + 1)) q2).map (fun r => (l ++ [x] ++ r.1, r.2)) = Pr.numsR n c) := by
          show _ = _; rw [← HEQ.out, HNX.out, hs2, ← HMK.out]
          simp only [Option.bind_some, Option.map_map]
          congr 1
          funext r
          simp
        have HB2 := hid (but_to_below HB.out hb2 (Nat.le_refl _) (by omega))
        have HR2 := hid hr2
        have HO2 : Hid (w2.ownsRow (w.heap.size + 1) 3 1 (.slice ya l.length yc) l.length (ncells l)) := row_but HO.out hb2 (by omega)
        have hs2' := hb2.size
        clear hb2 hs2 hr2 HC
        unfold nv
        go_wp2_with (first
          | (at_builtin; refine wpApG w2 rfl (.tmp 12) (.tmp 15) 29 3 Try.underlying29 _ 1 8 info_int rfl (by decide) (by decide) rfl (w.heap.size + 1) (.slice ya l.length yc) l.length (ncells l) rfl HO2.out [.int .i64 (x : Int)] rfl (by intro u hu; simp at hu; subst hu; rfl) rfl (by omega) (by omega) ?_))
        intro v3 w3 ho3 hg3 hat3
        have HO3 : Hid (w3.ownsRow (w.heap.size + 1) 3 1 v3 (l ++ [x]).length (ncells (l ++ [x]))) := by
          show World.ownsRow _ _ _ _ _ _ _; rw [List.length_append, show ncells (l ++ [x]) = ncells l ++ [.int .i64 (x : Int)] by simp [ncells]]; exact ho3
        have HR3 := hid (HR2.out.grown hg3 (fun e => by have := (World.ownsRow.lt HO2.out _ e.symm).1; omega))
        have HB3 := hid (HB2.out.trans (((Below.refl (w.heap.size + 1) w2).grown hg3 (by omega) fun k hk => (World.ownsRow.lt HO2.out k hk).1).mono (by omega)))
        have hs3 := hg3.size
        obtain ⟨ya', yc', rfl⟩ := rowShape ho3
        clear ho3 hg3 hat3
        go_wp2_with fail
        go_roundw
        case rel => exact ⟨k + 1, _, q2, by omega, by go_num, by rw [List.length_append]; simp; omega, by omega, HO3.out, HR3.out, HB3.out, by omega, HG.out⟩
        case measure => simp [intOf]; omega
    · have HE1 : Hid (Pr.numsR n c = some (l, q)) := by
        show _ = _; rw [← HEQ.out, show n - k = 0 by omega]; simp [Pr.numsR]
      have HE2 : Hid (Pr.childrenR c n = (Pr.pivotsR (n - 1) q).bind fun p => if p.2 = [] then some (l, p.1) else none) := by show _ = _; unfold Pr.childrenR; rw [HE1.out]; rfl
      have HC := hid (readPivots_any w.heap.size n q wr HR.out hn (by omega))
      go_wp2_with fail
      refine HC.out.mono ?_
      rintro r w2 ⟨hb2, ⟨hn2, rfl⟩ | ⟨pl, v2, u2, hs2, rfl, ho2, hpl, hr2⟩⟩
      · have HF : Hid (Pr.childrenR c n = none) := by show _ = _; rw [HE2.out, hn2]; rfl
        have HB2 := hid (but_to_below HB.out hb2 (Nat.le_refl _) (by omega))
        clear hb2 hn2
        unfold gaveUp
        go_wp2_with fail
        exact ⟨rfl, HB2.out, .inl ⟨HF.out, rfl⟩⟩
      · have HE3 : Hid (Pr.childrenR c n = if u2 = [] then some (l, lists pl) else none) := by show _ = _; rw [HE2.out, hs2]; rfl
        have HB2 := hid (but_to_below HB.out hb2 (Nat.le_refl _) (by omega))
        have HO2 : Hid (w2.ownsRow (w.heap.size + 1) 3 1 (.slice ya l.length yc) l.length (ncells l)) := row_but HO.out hb2 (by omega)
        have HP2 := hid ho2
        have HC2 := hid (rend_any w.heap.size u2 w2 hr2)
        obtain ⟨pa, pc, rfl⟩ := ho2.shape
        clear hb2 hs2 hr2 ho2 HC HE2 HE1
        go_wp2_with fail
        refine HC2.out.mono ?_
        rintro r w3 ⟨rfl, rfl⟩
        clear HC2
        by_cases hu : u2 = []
        · rw [if_pos hu] at HE3 ⊢
          clear hu
          go_wp2_with fail
          go_ret2
          exact ⟨HB2.out, .inr ⟨l, pl, _, _, HE3.out, rfl, row_shrink HO2.out (by omega), row_shrink HP2.out (by omega), by omega, hpl⟩⟩
        · rw [if_neg hu] at HE3 ⊢
          clear hu
          unfold gaveUp
          go_wp2_with fail
          exact ⟨rfl, HB2.out, .inl ⟨HE3.out, rfl⟩⟩
end Go.Proofs.Ytolgpnaoaodepaa
