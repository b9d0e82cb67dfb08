/- The walks of longestMatch and appendRun. -/
import Derived.Test.YtolgpnaoaodepaaGreatWalkA
import Derived.Lib.AppendStr
import Derived.Maps.AppendAt
import Derived.Lib.MinMax
namespace Go.Proofs.YtolgpnaoaodepaaGreat
open Go.RowKit

/-- What longestMatch tells: the match's length, or 0. -/
def blen (l : List UInt8) (a : Nat) : Nat := if (Sq.best l a).2 = 0 then 0 else (Sq.best l a).1
def bfar (l : List UInt8) (a : Nat) : Nat := (Sq.best l a).2
theorem hid {p : Prop} (h : p) : Hid p := h
theorem int_eq {k : IntKind} {a b : Int} (h : a = b) : Value.int k a = Value.int k b := by rw [h]
theorem up_len (l : List UInt8) (a c : Nat) : 2 ≤ (Sq.up l a c).1 ∧ (Sq.up l a c).1 ≤ 66 ∧ (Sq.up l a c).2 ≤ c ∧ ((Sq.up l a c).2 = 0 → (Sq.up l a c).1 = 2) := by
  have := (Sq.up_spec l a c).2
  rcases this with h | h
  · rw [h]; simp
  · have := Sq.mat_le l a (Sq.up l a c).2; omega
theorem up_yes (l : List UInt8) (a c : Nat) (h : (Sq.up l a c).1 < Sq.mat l a (c + 1)) : Sq.up l a (c + 1) = (Sq.mat l a (c + 1), c + 1) := by rw [Sq.up, if_pos h]
theorem up_no (l : List UInt8) (a c : Nat) (h : ¬ (Sq.up l a c).1 < Sq.mat l a (c + 1)) : Sq.up l a (c + 1) = Sq.up l a c := by rw [Sq.up, if_neg h]
theorem best_at (l : List UInt8) (a c : Nat) (hc : c ≤ min a 255) (h : c = min a 255 ∨ min 66 (l.length - a) ≤ (Sq.up l a c).1) : Sq.best l a = Sq.up l a c := by
  unfold Sq.best
  rcases h with h | h
  · rw [h]
  · have := Sq.up_stays l a c h (min a 255 - c)
    rw [show c + (min a 255 - c) = min a 255 by omega] at this; exact this
theorem mat_com (l : List UInt8) (a d : Nat) : Sq.mat l a d = Sq.com l (a - d) a (min 66 (l.length - a)) := rfl

set_option maxHeartbeats 1000000 in
theorem longest_any (s : ByteArray) (a : Nat) (w : World) (hs : s.size ≤ 140737488355328) (ha : a ≤ s.size) :
    Calls Tryz.prog 202 #[.string s, .int .i64 a] w fun r w' => r = .returned (.tuple #[.int .i64 (blen s.data.toList a), .int .i64 (bfar s.data.toList a)]) ∧ ∃ q, w' = w.drewN q := by
  have HL : Hid (s.data.toList.length = s.size) := by exact (show s.data.toList.length = s.size by simp)
  obtain ⟨m, hm, HM⟩ : ∃ m : Nat, min ((s.size : Int) - (a : Int)) 66 = (m : Int) ∧ Hid (m = min 66 (s.size - a)) := ⟨min 66 (s.size - a), by omega, rfl⟩
  obtain ⟨e, he, HE⟩ : ∃ e : Nat, min (a : Int) 255 = (e : Int) ∧ Hid (e = min a 255) := ⟨min a 255, by omega, rfl⟩
  have hm1 : m ≤ 66 ∧ a + m ≤ s.size := by have := HM.out; omega
  have he1 : e ≤ 255 ∧ e ≤ a := by have := HE.out; omega
  go_enter Tryz.func202, Tryz.ntmps202
  go_wp2_with fail
  clear hm he
  go_loopw [4, 5, 8] (fun n f b wr => ∃ c : Nat, c ≤ e ∧ b = .int .i64 (c + 1 : Nat) ∧ n = .int .i64 (Sq.up s.data.toList a c).1 ∧ f = .int .i64 (Sq.up s.data.toList a c).2 ∧ ∃ q, wr = w.drewN q) (fun _ _ b _ => 300 - (intOf b).toNat)
  case atStart => exact ⟨0, Nat.zero_le _, rfl, rfl, rfl, 0, rfl⟩
  case round =>
    obtain ⟨c, hc, rfl, rfl, rfl, q, rfl⟩ := hrel
    have hu := up_len s.data.toList a c
    generalize hn : (Sq.up s.data.toList a c).1 = n at *
    generalize hf : (Sq.up s.data.toList a c).2 = f at *
    have HN : Hid ((Sq.up s.data.toList a c).1 = n) := hn
    have HF : Hid ((Sq.up s.data.toList a c).2 = f) := hf
    clear hn hf
    by_cases hlt : c < e ∧ n < m
    · obtain ⟨hlt1, hlt2⟩ := hlt
      go_wp2_with fail
      rw [show ((a : Int) - ((c : Int) + 1)) = ((a - (c + 1) : Nat) : Int) by omega]
      refine (common_any s (a - (c + 1)) a m _ hs (by omega) (by omega)).mono ?_
      rintro r w1 ⟨rfl, q1, rfl⟩
      have hk : Sq.com s.data.toList (a - (c + 1)) a m ≤ m := Sq.com_le _ _ _ _
      have HK : Hid (Sq.mat s.data.toList a (c + 1) = Sq.com s.data.toList (a - (c + 1)) a m) := by
        show _ = _; rw [mat_com, HL.out, ← HM.out]
      generalize Sq.com s.data.toList (a - (c + 1)) a m = k at *
      by_cases hk2 : n < k
      · go_wp2_with fail
        go_roundw
        case rel =>
          have hy := up_yes s.data.toList a c (by rw [HN.out, HK.out]; exact hk2)
          exact ⟨c + 1, by omega, by go_num, by rw [hy, HK.out], by rw [hy]; go_num, _, rfl⟩
        case measure => simp [intOf]; omega
      · go_wp2_with fail
        go_roundw
        case rel =>
          have hy := up_no s.data.toList a c (by rw [HN.out, HK.out]; exact hk2)
          exact ⟨c + 1, by omega, by go_num, by rw [hy, HN.out], by rw [hy, HF.out], _, rfl⟩
        case measure => simp [intOf]; omega
    · have HB : Hid (Sq.best s.data.toList a = Sq.up s.data.toList a c) := by
        refine best_at _ _ _ (by have := HE.out; omega) ?_
        have := HE.out; have := HM.out; have h3 := HL.out; have h4 := HN.out
        rw [h3, h4]; omega
      have F1 : Hid (f = 0 → blen s.data.toList a = 0 ∧ bfar s.data.toList a = 0) := fun h => by
        unfold blen bfar; rw [HB.out, HF.out, h]; exact ⟨rfl, rfl⟩
      have F2 : Hid (f ≠ 0 → blen s.data.toList a = n ∧ bfar s.data.toList a = f) := fun h => by
        unfold blen bfar; rw [HB.out, HF.out, HN.out, if_neg h]; exact ⟨rfl, rfl⟩
      by_cases hf : f = 0
      · have HF0 := hid hf
        go_wp2_with fail
        all_goals
          go_ret2
          exact ⟨by rw [(F1.out HF0.out).1, (F1.out HF0.out).2]; rfl, _, rfl⟩
      · have HF0 := hid hf
        go_wp2_with fail
        all_goals
          go_ret2
          exact ⟨by rw [(F2.out HF0.out).1, (F2.out HF0.out).2]; rfl, _, rfl⟩
end Go.Proofs.YtolgpnaoaodepaaGreat
