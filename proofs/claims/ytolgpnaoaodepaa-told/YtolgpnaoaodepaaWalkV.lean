/- The walks of strings.Clone and of package wire's Reader. -/
import Derived.Test.YtolgpnaoaodepaaWalkU
import Derived.Lib.BufferWrite
import Derived.Lib.UnsafeStr
namespace Go.Proofs.Ytolgpnaoaodepaa
open Go.RowKit

theorem cells_u8 : Try.prog.cellsOf 5 = 1 := by kernel_rfl
set_option maxHeartbeats 1000000 in
set_option maxRecDepth 20000 in
theorem sliteClone_any (s : ByteArray) (w : World) (hs : s.size ≤ 35184372088832) :
    Calls Try.prog 86 #[.string s] w fun r w' => r = .returned (.string s) ∧ Below w.heap.size w w' := by
  by_cases h0 : s.size = 0
  · have he : s = ⟨#[]⟩ := ByteArray.ext (Array.eq_empty_of_size_eq_zero h0)
    subst he
    go_enter Try.func86, Try.ntmps86
    go_wp2_with fail
    go_ret
    exact ⟨rfl, Below.refl _ _⟩
  · obtain ⟨i, hi, hz0, hz1, hz2⟩ := info_parts info_u8
    obtain ⟨Z, hZ⟩ : ∃ Z, Z = madeCells (Value.int .u8 0).cells (((s.size : Nat) : Int).toNat * i.size) := ⟨_, rfl⟩
    have hZs : Z.size = s.size := by rw [hZ, size_madeCells, hz1]; simp
    have mk : ∀ W : World, (Instr.makeSlice 59 (.int .i64 (s.size : Int)) (.int .i64 (s.size : Int))).run Try.prog W = .ok (.slice (some ⟨W.heap.size, 0, none⟩) s.size s.size) (W.alloc (.cells Z 5)) := fun W => by
      have h := run_make (P := Try.prog) W 59 5 i (.int .u8 0) Try.underlying59 hi hz0 .i64 .i64 (s.size : Int) (s.size : Int) (by omega) (by omega) (by rw [hz2]; omega) (by omega)
      rw [← hZ] at h
      simpa using h
    clear hZ
    have cp := Lib.run_copy_row_string (P := Try.prog) (w.alloc (.cells Z 5)) 59 9 3 5 w.heap.size 0 s.size s.size s Z 5 Try.underlying59 (by rw [hi]; simp [hz1]) (heap_alloc_new w _) (Nat.le_refl _) (by omega)
    obtain ⟨Y, hY⟩ : ∃ Y, Y = (Z.toList.take 0 ++ Lib.byteCells s.data.toList ++ Z.toList.drop (0 + s.size)).toArray := ⟨_, rfl⟩
    have hYl : Y.toList = Lib.byteCells s.data.toList := by
      rw [hY, List.toList_toArray, List.take_zero, List.nil_append, List.drop_of_length_le (by rw [Array.length_toList]; omega), List.append_nil]
    have hYs : Y.size = s.size := by rw [← Array.length_toList, hYl, Lib.byteCells_length, len_size]
    rw [← hY] at cp
    have hg : ((w.alloc (.cells Z 5)).setRow w.heap.size Y).heap[w.heap.size]? = some (.cells Y 5 (0, 0)) := setRow_heap _ _ Z _ 5 (0, 0) (heap_alloc_new w _)
    have us := Lib.run_unsafeString_row (P := Try.prog) ((w.alloc (.cells Z 5)).setRow w.heap.size Y) 109 3 9 5 Try.underlying109 cells_u8 w.heap.size Y.size (by unfold World.shape?; rw [hg]) s.data.toList (fun e => h0 (by rw [← len_size, e]; rfl)) (by rw [len_size]; omega) (by rw [len_size]; omega)
      (fun j x hx => Lib.cells_of_row hg Y.size j _ (by rw [List.take_of_length_le (by rw [Array.length_toList]; exact Nat.le_refl _), hYl]; simp [Lib.byteCells, hx]))
    rw [len_size] at us
    have HB := hid (Lib.below_freeze (((Below.refl w.heap.size w).alloc (Nat.le_refl _) (.cells Z 5)).trans (⟨rfl, rfl, rfl, by simp, fun k hk => setRow_other _ _ _ _ (by omega)⟩ : Below w.heap.size (w.alloc (.cells Z 5)) ((w.alloc (.cells Z 5)).setRow w.heap.size Y))) (p := ⟨w.heap.size, 0, none⟩) (Nat.le_refl _) s.size)
    clear hY
    go_enter Try.func86, Try.ntmps86
    go_wp2_with fail
    go_ret
    exact ⟨rfl, HB.out⟩
set_option maxHeartbeats 1000000 in
theorem clone_any (s : ByteArray) (w : World) (hs : s.size ≤ 35184372088832) :
    Calls Try.prog 85 #[.string s] w fun r w' => r = .returned (.string s) ∧ Below w.heap.size w w' := by
  go_enter Try.func85, Try.ntmps85
  go_wp2_with fail
  refine (sliteClone_any s _ hs).mono ?_
  rintro r w1 ⟨rfl, hb1⟩
  go_wp2_with fail
  go_ret
  exact ⟨rfl, hb1⟩
end Go.Proofs.Ytolgpnaoaodepaa
