/- The walk of the reference's like. -/
import Derived.Test.YtolgpnaoaodepaaGreatWalkA
namespace Go.Proofs.YtolgpnaoaodepaaGreat
open Go.RowKit
set_option maxHeartbeats 400000 in
theorem like_any (s : ByteArray) (a d : Nat) (w : World) (hs : s.size ≤ 140737488355328) (hd1 : 1 ≤ d) (hda : d ≤ a) (ha : a ≤ s.size) :
    Calls Tryz.prog 147 #[.string s, .int .i64 a, .int .i64 d] w fun r w' => r = .returned (.int .i64 (Sq.mat s.data.toList a d)) ∧ ∃ q, w' = w.drewN q := by
  go_enter Tryz.func147, Tryz.ntmps147
  go_wp2
  go_loopw [7] (fun i wr => ∃ k : Nat, k ≤ min 66 (s.size - a) ∧ i = .int .i64 k ∧ (∀ j, j < k → s.data.toList[a - d + j]? = s.data.toList[a + j]?) ∧ ∃ q, wr = w.drewN q) (fun i _ => 66 - (intOf i).toNat)
  case atStart => exact ⟨0, Nat.zero_le _, rfl, fun j h => by omega, 0, rfl⟩
  case round =>
    obtain ⟨k, hk, rfl, hj, q, rfl⟩ := hrel
    have HJ : Hid (∀ j, j < k → s.data.toList[a - d + j]? = s.data.toList[a + j]?) := hj
    clear hj
    by_cases hlt : k < 66
    · by_cases hl2 : a + k < s.size
      · have h1 : (a : Int) + (k : Int) < (s.size : Int) := by omega
        have h2 : (a : Int) + (k : Int) - (d : Int) < (s.size : Int) := by omega
        have h3 : (0 : Int) ≤ (a : Int) + (k : Int) := by omega
        have h4 : (0 : Int) ≤ (a : Int) + (k : Int) - (d : Int) := by omega
        have h5 : (k : Int) < 66 := by omega
        have e1 : IntKind.i64.wrap ((a : Int) + (k : Int)) = (a : Int) + (k : Int) := IntWalk.i64_in _ ⟨by omega, by omega⟩
        have e2 : IntKind.i64.wrap ((a : Int) + (k : Int) - (d : Int)) = (a : Int) + (k : Int) - (d : Int) := IntWalk.i64_in _ ⟨by omega, by omega⟩
        have h7 : (d : Int) ≤ (a : Int) + (k : Int) := by omega
        have h8 : d ≤ a + k := by omega
        have h6 : decide ((a : Int) + (k : Int) < (s.size : Int)) = true := by simpa using h1
        go_wp2
        go_quiet (fail)
        go_wp2
        · have hb := byte_eq s (a + k) (a + k - d) (by omega) (by omega) (by assumption)
          go_roundw
          case rel =>
            refine ⟨k + 1, by omega, by go_num, fun j hj => ?_, _, rfl⟩
            by_cases ej : j = k
            · rw [ej, hb, show a - d + k = a + k - d by omega]
            · exact HJ.out j (by omega)
          case measure => simp [intOf]; omega
        · have hb := byte_ne s (a + k) (a + k - d) (by omega) (by omega) (by assumption)
          go_ret
          exact ⟨ret_int (by unfold Sq.mat; rw [Sq.com_stop s.data.toList _ (a - d) a k (by simp; omega) (by simp; omega) HJ.out (.inr fun h => hb (by rw [h.2.symm, show a - d + k = a + k - d by omega]))]), _, World.drewN_drewN _ _ _⟩
      · have h5 : (k : Int) < 66 := by omega
        have hd : decide ((a : Int) + (k : Int) < (s.size : Int)) = false := by simp; omega
        have e1 : IntKind.i64.wrap ((a : Int) + (k : Int)) = (a : Int) + (k : Int) := IntWalk.i64_in _ ⟨by omega, by omega⟩
        go_wp2
        go_quiet (fail)
        go_wp2
        go_ret
        exact ⟨ret_int (by unfold Sq.mat; rw [Sq.com_stop s.data.toList _ (a - d) a k (by simp; omega) (by simp; omega) HJ.out (.inl (by simp; omega))]), _, World.drewN_drewN _ _ _⟩
    · have hd : decide ((k : Int) < 66) = false := by simp; omega
      go_wp2
      go_quiet (fail)
      go_wp2
      go_ret
      exact ⟨ret_int (by unfold Sq.mat; rw [Sq.com_stop s.data.toList _ (a - d) a k (by simp; omega) (by simp; omega) HJ.out (.inl (by simp; omega))]), _, World.drewN_drewN _ _ _⟩
end Go.Proofs.YtolgpnaoaodepaaGreat
