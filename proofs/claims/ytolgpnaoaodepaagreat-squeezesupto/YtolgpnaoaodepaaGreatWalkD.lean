/- The walk of the program's Squeeze. -/
import Derived.Test.YtolgpnaoaodepaaGreatWalkC
namespace Go.Proofs.YtolgpnaoaodepaaGreat
open Go.RowKit

theorem blen_zero (l : List UInt8) (a : Nat) (h : blen l a = 0) : (Sq.best l a).2 = 0 := by
  unfold blen at h
  by_cases e : (Sq.best l a).2 = 0
  · exact e
  · rw [if_neg e] at h; have := Sq.best_len l a e; omega
theorem blen_pos (l : List UInt8) (a : Nat) (h : blen l a ≠ 0) : (Sq.best l a).2 ≠ 0 ∧ blen l a = (Sq.best l a).1 := by
  unfold blen at *
  by_cases e : (Sq.best l a).2 = 0
  · rw [if_pos e] at h; exact absurd rfl h
  · exact ⟨e, if_neg e⟩
theorem blen_bd (l : List UInt8) (a : Nat) (ha : a ≤ l.length) : blen l a ≤ 66 ∧ a + blen l a ≤ l.length ∧ bfar l a ≤ 255 := by
  have hf := (Sq.best_far l a).1
  unfold blen bfar
  by_cases e : (Sq.best l a).2 = 0
  · rw [if_pos e]; omega
  · rw [if_neg e]; have := Sq.best_len l a e; omega
theorem part_single (l : List UInt8) (k a : Nat) (h1 : k ≤ a) (h2 : a < l.length) : (l.drop k).take (a + 1 - k) = (l.drop k).take (a - k) ++ [l[a]] := by
  rw [show a + 1 - k = (a - k) + 1 by omega, List.take_succ_eq_append_getElem (by simp; omega)]
  simp [show k + (a - k) = a by omega]

set_option maxHeartbeats 1000000 in
theorem squeeze_any (s : ByteArray) (w : World) (hs : s.size ≤ 35184372088832) :
    Calls Tryz.prog 146 #[.string s] w fun r w' => r = .returned (.string ⟨(Sq.squeeze s.data.toList).toArray⟩) ∧ Below w.heap.size w w' := by
  have HL := hid (len_size s)
  go_enter Tryz.func146, Tryz.ntmps146
  go_wp2_with fail
  go_loopw [3, 4, 5] (fun u k i wr => ∃ (out : List UInt8) (p a : Nat), p ≤ a ∧ a ≤ s.size ∧ k = .int .i64 p ∧ i = .int .i64 a ∧ Owns w.heap.size wr u out ∧ Below w.heap.size w wr ∧ out.length ≤ 2 * p ∧ out ++ Sq.rest s.data.toList a ((s.data.toList.drop p).take (a - p)) = Sq.squeeze s.data.toList) (fun _ _ i _ => s.size - (intOf i).toNat)
  case atStart => exact ⟨[], 0, 0, Nat.le_refl _, Nat.zero_le _, rfl, rfl, Owns.nil _ _, Below.refl _ _, by simp, by simp [Sq.squeeze]⟩
  case round =>
    obtain ⟨out, p, a, hpa, ha, rfl, rfl, hown, hbel, hout, heq⟩ := hrel
    have HEQ := hid heq
    have HOWN := hid hown
    have HBEL := hid hbel
    have hsz := hbel.size
    clear heq hown hbel
    by_cases hlt : a < s.size
    · have hbd := blen_bd s.data.toList a (by rw [HL.out]; omega)
      rw [HL.out] at hbd
      go_wp2_with fail
      refine (longest_any s a _ (by omega) (by omega)).mono ?_
      rintro r w1 ⟨rfl, q1, rfl⟩
      by_cases h0 : blen s.data.toList a = 0
      · have HB := hid (blen_zero _ _ h0)
        go_wp2_with fail
        go_roundw
        case rel =>
          refine ⟨out, p, a + 1, by omega, by omega, rfl, by go_num, HOWN.out.drewN _, below_drewN HBEL.out _, hout, ?_⟩
          rw [part_single _ _ _ hpa (by rw [HL.out]; exact hlt), ← Sq.rest_single _ _ _ (by rw [HL.out]; exact hlt) HB.out]
          exact HEQ.out
        case measure => simp [intOf]; omega
      · have HB := hid (blen_pos _ _ h0)
        have HF := hid (show (Sq.best s.data.toList a).2 = bfar s.data.toList a from rfl)
        have h3 := (Sq.best_len s.data.toList a (blen_pos _ _ h0).1).1
        rw [← (blen_pos _ _ h0).2] at h3
        generalize blen s.data.toList a = n at *
        generalize bfar s.data.toList a = f at *
        have h0' : ((n : Int) == 0) = false := by simpa using h0
        go_wp2_with fail
        refine (run_any w.heap.size (s.extract p a) u3 out _ (HOWN.out.drewN _) (by simpa using hsz) (by simp [ByteArray.size_extract]; omega)).mono ?_
        rintro r w2 ⟨v2, rfl, ho2, hb2⟩
        have HO2 := hid ho2
        have HB2 := hid ((below_drewN HBEL.out _).trans hb2)
        have hsz2 := HB2.out.size
        have hr2 := Sq.runOf_le _ (s.extract p a).data.toList (Nat.le_refl _)
        rw [len_size, ByteArray.size_extract] at hr2
        clear ho2 hb2
        generalize hru : Sq.runOf (s.extract p a).data.toList = ru at *
        have HRU := hid hru
        clear hru
        go_wp2_with (first
          | (at_builtin; refine wpAp2 w2 rfl (.tmp 28) (.tmp 34) rfl w.heap.size v2 _ rfl HO2.out (UInt8.ofNat (125 + n)) (UInt8.ofNat f) _ _ ?_ ?_ rfl ?_ ?_ ?_))
        · simp; omega
        · simp; omega
        · simp; omega
        · exact hsz2
        intro v3 w3 ho3 hg3 _
        have HO3 := hid ho3
        have HB3 := hid (HB2.out.trans (below_of_grown HO2.out hsz2 hg3))
        clear ho3 hg3
        go_wp2_with fail
        go_roundw
        case rel =>
          refine ⟨_, a + n, a + n, Nat.le_refl _, by omega, by go_num, by go_num, HO3.out, HB3.out, by simp; omega, ?_⟩
          rw [← HEQ.out, Sq.rest_match _ _ _ (by rw [HL.out]; exact hlt) HB.out.1, HF.out, ← HB.out.2, ← HRU.out, Lib.extract_data]
          simp
        case measure => simp [intOf]; omega
    · go_wp2_with fail
      refine (run_any w.heap.size (s.extract p s.size) u3 out _ HOWN.out hsz (by simp [ByteArray.size_extract]; omega)).mono ?_
      rintro r w2 ⟨v2, rfl, ho2, hb2⟩
      have HB2 := hid (HBEL.out.trans hb2)
      have HFIN : Hid (out ++ Sq.runOf (s.extract p s.size).data.toList = Sq.squeeze s.data.toList) := by
        show _ = _
        rw [← HEQ.out, Sq.rest_end _ _ _ (by rw [HL.out]; omega), drop_data, List.take_of_length_le (by rw [List.length_drop, HL.out]; omega)]
      rw [HFIN.out] at ho2
      have hcv := ho2.str
      clear ho2 hb2
      go_wp2_with fail
      go_ret
      exact ⟨rfl, HB2.out⟩
end Go.Proofs.YtolgpnaoaodepaaGreat
