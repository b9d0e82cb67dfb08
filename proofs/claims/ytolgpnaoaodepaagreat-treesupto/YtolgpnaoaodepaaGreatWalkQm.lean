/- The walks of package rules: AreKeys, areChildren, IsChange, areChanges. -/
import Derived.Test.YtolgpnaoaodepaaGreatTreZVm
namespace Go.Proofs.YtolgpnaoaodepaaGreat
open Go.RowKit
namespace Pg
end Pg

end Go.Proofs.YtolgpnaoaodepaaGreat
/- The walks of package rules: IsChange, areChanges, isLeaf, isBranch, IsNode. -/
namespace Go.Proofs.YtolgpnaoaodepaaGreat
open Go.RowKit

theorem empty_is (v : ByteArray) : v.toList.isEmpty = decide (v.size = 0) := by
  rw [toList_is]
  by_cases h : v.size = 0
  · rw [List.length_eq_zero_iff.1 (show v.data.toList.length = 0 by rw [len_size]; exact h), decide_eq_true h]; rfl
  · rw [decide_eq_false h, List.isEmpty_eq_false_iff]
    intro e; exact h (by rw [← len_size, e]; rfl)
set_option maxHeartbeats 1000000 in
set_option maxRecDepth 100000 in
theorem isChange_any (kd : Int) (k v : ByteArray) (w : World) :
    Calls Tryz.prog 36 #[.agg #[.int .i64 kd, .string k, .string v]] w fun r w' => r = .returned (.bool (Pg.isChange kd k.size v.size)) ∧ Below w.heap.size w w' := by
  have HB := hid ((Below.refl w.heap.size w).alloc (Nat.le_refl _) (.cells #[.int .i64 kd, .string k, .string v] 34))
  have CK : ∀ W, Calls Tryz.prog 60 #[.string k] W fun r w' => r = .returned (.bool (Pg.isKey k.size)) ∧ w' = W := fun W => isKey_any k W
  have CV : ∀ W, Calls Tryz.prog 61 #[.string v] W fun r w' => r = .returned (.bool (decide (v.size ≤ 16))) ∧ w' = W := fun W => isValue_any v W
  have HD : Hid (Pg.isChange kd k.size v.size = (Pg.isKey k.size && decide (v.size ≤ 16) && (decide (kd = 1) || decide (kd = 3) || (decide (kd = 2) && decide (v.size = 0))))) := rfl
  have HE := hid (empty_is v)
  generalize hkk : Pg.isKey k.size = kk at *
  clear hkk
  go_enter Tryz.func36, Tryz.ntmps36
  by_cases h13 : kd = 1 ∨ kd = 3
  · have HS : Hid (Pg.isChange kd k.size v.size = (kk && decide (v.size ≤ 16))) := by
      show _ = _; rw [HD.out]; rcases h13 with h | h <;> rw [h] <;> simp
    generalize hvv : decide (v.size ≤ 16) = vv at *
    clear hvv
    rcases h13 with h | h
    · subst h
      go_wp2_with fail
      refine (CK _).mono ?_
      rintro r w1 ⟨rfl, rfl⟩
      cases kk
      · go_wp2_with fail
        go_ret
        exact ⟨by rw [HS.out]; rfl, HB.out⟩
      · go_wp2_with fail
        refine (CV _).mono ?_
        rintro r w1 ⟨rfl, rfl⟩
        go_wp2_with fail
        go_ret
        exact ⟨by rw [HS.out]; rfl, HB.out⟩
    · subst h
      go_wp2_with fail
      refine (CK _).mono ?_
      rintro r w1 ⟨rfl, rfl⟩
      cases kk
      · go_wp2_with fail
        go_ret
        exact ⟨by rw [HS.out]; rfl, HB.out⟩
      · go_wp2_with fail
        refine (CV _).mono ?_
        rintro r w1 ⟨rfl, rfl⟩
        go_wp2_with fail
        go_ret
        exact ⟨by rw [HS.out]; rfl, HB.out⟩
  · have hn1 : ¬ kd = 1 := fun h => h13 (.inl h)
    have hn3 : ¬ kd = 3 := fun h => h13 (.inr h)
    clear h13
    have hb1 : (kd == 1) = false := by simpa using hn1
    have hb3 : (kd == 3) = false := by simpa using hn3
    by_cases h2 : kd = 2
    · have HS : Hid (Pg.isChange kd k.size v.size = (kk && decide (v.size = 0))) := by
        show _ = _; rw [HD.out, h2]
        by_cases h0 : v.size = 0
        · rw [h0]; cases kk <;> simp
        · rw [decide_eq_false h0]; simp
      subst h2
      go_wp2_with fail
      refine (CK _).mono ?_
      rintro r w1 ⟨rfl, rfl⟩
      cases kk
      · go_wp2_with fail
        go_ret
        exact ⟨by rw [HS.out]; rfl, HB.out⟩
      · go_wp2_with fail
        go_ret
        exact ⟨by rw [HS.out, ← HE.out]; rfl, HB.out⟩
    · have HS : Hid (Pg.isChange kd k.size v.size = false) := by
        show _ = _; rw [HD.out, decide_eq_false hn1, decide_eq_false hn3, decide_eq_false h2]; simp
      have hb2 : (kd == 2) = false := by simpa using h2
      go_wp2_with fail
      go_ret
      exact ⟨by rw [HS.out]; rfl, HB.out⟩

end Go.Proofs.YtolgpnaoaodepaaGreat
/- The walks of pages' childrenContent and changesContent. -/
namespace Go.Proofs.YtolgpnaoaodepaaGreat
open Go.RowKit

end Go.Proofs.YtolgpnaoaodepaaGreat
/- The walks of pages' writeBranch and Write, and of silt's Write. -/
namespace Go.Proofs.YtolgpnaoaodepaaGreat
open Go.RowKit

end Go.Proofs.YtolgpnaoaodepaaGreat
