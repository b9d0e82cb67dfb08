/- The walks of a cursor's number, text and ends. -/
import Derived.Test.YtolgpnaoaodepaaGreatRefCm
import Derived.Test.YtolgpnaoaodepaaGreatMathCm
import Derived.Lib.QuietBelow
namespace Go.Proofs.YtolgpnaoaodepaaGreat
open Go.RowKit
end Go.Proofs.YtolgpnaoaodepaaGreat
/- The walk of content. -/
namespace Go.Proofs.YtolgpnaoaodepaaGreat
open Go.RowKit
end Go.Proofs.YtolgpnaoaodepaaGreat
/- The walk of header. -/
namespace Go.Proofs.YtolgpnaoaodepaaGreat
open Go.RowKit
end Go.Proofs.YtolgpnaoaodepaaGreat
/- The walks of Key, Change and Well (of leaves). -/
namespace Go.Proofs.YtolgpnaoaodepaaGreat
open Go.RowKit
set_option maxHeartbeats 400000 in
theorem key_any (s : ByteArray) (w : World) :
    Calls Tryz.prog 206 #[.string s] w fun r w' => r = .returned (.bool (Pg.isKey s.size)) ∧ w' = w := by
  go_enter Tryz.func206, Tryz.ntmps206
  go_wp2_with fail
  all_goals
    go_ret
    refine ⟨?_, rfl⟩
    by_cases h1 : 1 ≤ s.size <;> by_cases h2 : s.size ≤ 12 <;> simp [Pg.isKey, h1, h2] <;> omega
set_option maxHeartbeats 400000 in
theorem change_any (k : Int) (s v : ByteArray) (w : World) :
    Calls Tryz.prog 161 #[.agg #[.int .i64 k, .string s, .string v]] w fun r w' => r = .returned (.bool (Pg.isChange k s.size v.size)) ∧ Below w.heap.size w w' := by
  go_enter Tryz.func161, Tryz.ntmps161
  go_wp2_with fail
  refine (key_any s _).mono ?_
  rintro r w1 ⟨rfl, rfl⟩
  generalize hkk : Pg.isKey s.size = kk
  have HEM : Hid (v.toList.isEmpty = decide (v.size = 0)) := by
    show _ = _; rw [toList_is, ← len_size]; cases v.data.toList <;> simp
  cases kk
  · go_wp2_with fail
    all_goals
      go_ret
      exact ⟨by simp [Pg.isChange, hkk], (Below.refl _ w).alloc (Nat.le_refl _) _⟩
  · go_wp2_with fail
    all_goals
      go_ret
      refine ⟨?_, (Below.refl _ w).alloc (Nat.le_refl _) _⟩
      simp [Pg.isChange, HEM.out, *]
      try omega
end Go.Proofs.YtolgpnaoaodepaaGreat
