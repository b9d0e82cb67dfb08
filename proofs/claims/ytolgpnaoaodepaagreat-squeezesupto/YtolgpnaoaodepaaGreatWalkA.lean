/- The walks of the functions that look for matches: the program's commonLength. -/
import Derived.Test.YtolgpnaoaodepaaGreatRows
import Derived.Test.YtolgpnaoaodepaaGreatMathA
import Derived.WalkKit
import Derived.WalkSpells
import Derived.WalkLawsBesides
import Derived.Deep.QuietTactic
import Derived.BigQuiet
namespace Go.Proofs.YtolgpnaoaodepaaGreat
open Go.RowKit

theorem ret_int {k : IntKind} {a b : Int} (h : a = b) : Ending.returned (.int k a) = .returned (.int k b) := by rw [h]

theorem at_list (s : ByteArray) (i : Nat) (h : i < s.size) : s.data.toList[i]? = some s[i] := by
  rw [List.getElem?_eq_getElem (by simpa using h)]; rfl
theorem byte_eq (s : ByteArray) (i j : Nat) (hi : i < s.size) (hj : j < s.size) (h : (((s[i]'hi).toNat : Int) == ((s[j]'hj).toNat : Int)) = true) : s.data.toList[i]? = s.data.toList[j]? := by
  rw [at_list s i hi, at_list s j hj]
  have h' : ((s[i]'hi).toNat : Int) = ((s[j]'hj).toNat : Int) := by simpa using h
  rw [UInt8.toNat_inj.1 (by omega : (s[i]'hi).toNat = (s[j]'hj).toNat)]
theorem byte_ne (s : ByteArray) (i j : Nat) (hi : i < s.size) (hj : j < s.size) (h : (((s[i]'hi).toNat : Int) == ((s[j]'hj).toNat : Int)) = false) : ¬ s.data.toList[i]? = s.data.toList[j]? := by
  rw [at_list s i hi, at_list s j hj]
  intro e
  have e' : s[i]'hi = s[j]'hj := by simpa using e
  rw [e'] at h; simp at h

set_option maxHeartbeats 400000 in
theorem common_any (s : ByteArray) (e l m : Nat) (w : World) (hs : s.size ≤ 140737488355328) (hel : e ≤ l) (hlm : l + m ≤ s.size) :
    Calls Tryz.prog 252 #[.string s, .int .i64 e, .int .i64 l, .int .i64 m] w fun r w' => r = .returned (.int .i64 (Sq.com s.data.toList e l m)) ∧ ∃ q, w' = w.drewN q := by
  go_enter Tryz.func252, Tryz.ntmps252
  go_wp2
  go_loopw [9] (fun i wr => ∃ k : Nat, k ≤ m ∧ i = .int .i64 k ∧ (∀ j, j < k → s.data.toList[e + j]? = s.data.toList[l + j]?) ∧ ∃ q, wr = w.drewN q) (fun i _ => m - (intOf i).toNat)
  case atStart => exact ⟨0, Nat.zero_le _, rfl, fun j h => by omega, 0, rfl⟩
  case round =>
    obtain ⟨k, hk, rfl, hj, q, rfl⟩ := hrel
    have HJ : Hid (∀ j, j < k → s.data.toList[e + j]? = s.data.toList[l + j]?) := hj
    clear hj
    by_cases hlt : k < m
    · have h1 : (l : Int) + (k : Int) < (s.size : Int) := by omega
      have h2 : (e : Int) + (k : Int) < (s.size : Int) := by omega
      have h3 : (0 : Int) ≤ (l : Int) + (k : Int) := by omega
      have h4 : (0 : Int) ≤ (e : Int) + (k : Int) := by omega
      go_wp2
      go_quiet (fail)
      go_wp2
      · have hb := byte_eq s (e + k) (l + k) (by omega) (by omega) (by assumption)
        go_roundw
        case rel =>
          refine ⟨k + 1, by omega, by go_num, fun j hj => ?_, _, rfl⟩
          by_cases ej : j = k
          · rw [ej]; exact hb
          · exact HJ.out j (by omega)
        case measure => simp [intOf]; omega
      · have hb := byte_ne s (e + k) (l + k) (by omega) (by omega) (by assumption)
        go_ret
        exact ⟨ret_int (by rw [Sq.com_stop s.data.toList m e l k (by omega) (by simp; omega) HJ.out (.inr fun h => hb h.2)]), _, World.drewN_drewN _ _ _⟩
    · have hd : decide ((k : Int) < (m : Int)) = false := by simp; omega
      go_wp2
      go_quiet (fail)
      go_wp2
      go_ret
      exact ⟨ret_int (by rw [Sq.com_stop s.data.toList m e l k (by omega) (by simp; omega) HJ.out (.inl (by omega))]), _, World.drewN_drewN _ _ _⟩
end Go.Proofs.YtolgpnaoaodepaaGreat
