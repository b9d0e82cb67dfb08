/- The walk of appendRun. -/
import Derived.Test.YtolgpnaoaodepaaGreatOwnA
namespace Go.Proofs.YtolgpnaoaodepaaGreat
open Go.RowKit

theorem len_size (t : ByteArray) : t.data.toList.length = t.size := by simp
theorem drop_data (t : ByteArray) (n : Nat) : (t.extract n t.size).data.toList = t.data.toList.drop n := by
  rw [Lib.extract_data, List.take_of_length_le (by rw [List.length_drop, len_size]; exact Nat.le_refl _)]
theorem run_step (t : ByteArray) (n : Nat) (hn : n = min t.size 128) (h : 0 < t.size) : Sq.runOf t.data.toList = UInt8.ofNat (n - 1) :: (t.data.toList.take n ++ Sq.runOf (t.extract n t.size).data.toList) := by
  have hl := len_size t
  rw [drop_data]
  generalize t.data.toList = l at *
  rw [Sq.runOf_cons l (by intro e; rw [e] at hl; simp at hl; omega), hl, ← hn]
  by_cases h2 : t.size ≤ 128
  · have e : n = t.size := by omega
    rw [List.take_of_length_le (show l.length ≤ 128 by omega), List.take_of_length_le (show l.length ≤ n by omega), List.drop_eq_nil_of_le (show l.length ≤ 128 by omega), List.drop_eq_nil_of_le (show l.length ≤ n by omega)]
  · have e : n = 128 := by omega
    rw [e]

set_option maxHeartbeats 1000000 in
theorem run_any (B : Nat) (s : ByteArray) (v : Value) (l : List UInt8) (w : World) (hown : Owns B w v l) (hB : B ≤ w.heap.size) (hb : l.length + 2 * s.size ≤ 140737488355328) :
    Calls Tryz.prog 203 #[v, .string s] w fun r w' => ∃ v', r = .returned v' ∧ Owns B w' v' (l ++ Sq.runOf s.data.toList) ∧ Below B w w' := by
  go_enter Tryz.func203, Tryz.ntmps203
  go_wp2_with fail
  go_loopw [0, 1] (fun u x wr => ∃ (t : ByteArray) (k : List UInt8), x = .string t ∧ Owns B wr u k ∧ Below B w wr ∧ k.length + 2 * t.size ≤ 140737488355328 ∧ k ++ Sq.runOf t.data.toList = l ++ Sq.runOf s.data.toList) (fun _ x _ => match x with | .string t => t.size | _ => 0)
  case atStart => exact ⟨s, l, rfl, hown, Below.refl _ _, hb, rfl⟩
  case round =>
    obtain ⟨t, k, rfl, hok, hbel, hkb, heq⟩ := hrel
    have HEQ := hid heq
    have HOK := hid hok
    clear heq hok
    have hsz := hbel.size
    by_cases hlt : 0 < t.size
    · obtain ⟨n, hn, HN⟩ : ∃ n : Nat, min (t.size : Int) 128 = (n : Int) ∧ Hid (n = min t.size 128) := ⟨min t.size 128, by omega, rfl⟩
      have hn1 : 1 ≤ n ∧ n ≤ 128 ∧ n ≤ t.size := by have := HN.out; omega
      have hn2 : (0 : Int) ≤ (n : Int) - 1 ∧ (n : Int) - 1 ≤ 255 := by omega
      go_wp2_with (first
        | (at_builtin; refine wpAp1 wr rfl (.tmp 12) (.tmp 16) rfl B u0 k rfl HOK.out (UInt8.ofNat (n - 1)) ((n : Int) - 1) ?_ rfl (by omega) (by omega) ?_))
      · simp; omega
      intro v1 w1 ho1 hg1 _
      have hb1 := hbel.trans (below_of_grown HOK.out (by omega) hg1)
      have HO1 := hid ho1
      have HB1 := hid hb1
      have hsz1 := hb1.size
      clear ho1 hg1 HOK hbel hb1
      go_wp2_with (first
        | (at_builtin; refine wpApS w1 rfl (.tmp 18) (.tmp 21) rfl B v1 _ rfl HO1.out _ rfl ?_ ?_ ?_))
      · simp [ByteArray.size_extract]; omega
      · omega
      intro v2 w2 ho2 hb2
      have HO2 := hid ho2
      have HB2 := hid (HB1.out.trans hb2)
      clear ho2 hb2
      go_wp2_with fail
      go_roundw
      case rel =>
        refine ⟨_, _, rfl, HO2.out, HB2.out, ?_, ?_⟩
        · simp [ByteArray.size_extract]; omega
        · rw [← HEQ.out, run_step t n HN.out hlt]; simp
      case measure => simp [ByteArray.size_extract]; omega
    · go_wp2_with fail
      go_ret
      refine ⟨u0, rfl, ?_, hbel⟩
      have : t.data.toList = [] := List.length_eq_zero_iff.1 (by rw [len_size]; omega)
      rw [← HEQ.out, this, Sq.runOf_nil, List.append_nil]
      exact HOK.out
end Go.Proofs.YtolgpnaoaodepaaGreat
