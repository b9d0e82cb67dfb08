/- The walks of pages' Write and of silt's Write. -/
import Derived.Test.YtolgpnaoaodepaaWalkT
namespace Go.Proofs.Ytolgpnaoaodepaa
open Go.RowKit

theorem writeB_any (v : Value) (il : List (ByteArray × ByteArray)) (cl : List Int) (pl : List ByteArray) (ml : List (Int × ByteArray × ByteArray)) (w : World) (h : IsNode w v 2 il cl pl ml) (hw : Pg.well 2 (plain il) cl (lists pl) (plainCh ml) = true) :
    Calls Try.prog 40 #[v] w fun r w' => r = .returned (.string ⟨(Pg.page 2 (plain il) cl (lists pl) (plainCh ml)).toArray⟩) ∧ Below w.heap.size w w' := by
  obtain ⟨v1, v2, v3, v4, rfl, h1, h2, h3, h4, h5⟩ := h
  unfold Pg.well at hw
  unfold Pg.page
  rw [if_pos rfl]
  rw [if_neg (by decide)] at hw
  simp only [Bool.and_eq_true, decide_eq_true_eq] at hw
  obtain ⟨⟨⟨⟨⟨⟨⟨⟨hp, hc⟩, hm⟩, hk2⟩, _⟩, _⟩, hc4⟩, hpc⟩, hm8⟩ := hw
  have hcc : ∀ c ∈ cl, 0 ≤ c ∧ c ≤ 2147483647 := fun c hcm => by
    have := List.all_eq_true.1 hc c hcm
    simpa [Pg.okChild] using this
  have e1 : cl.map (Value.int .i64) = ncells (cl.map Int.toNat) := by
    unfold ncells
    rw [List.map_map]
    exact List.map_congr_left fun c hcm => by have := hcc c hcm; simp; omega
  have e2 : cl.length = (cl.map Int.toNat).length := by simp
  rw [e1, e2] at h3
  have e3 : (lists pl).length = pl.length := by simp [lists]
  have e4 : (plainCh ml).length = ml.length := by simp [plainCh]
  obtain ⟨a1, p1, h1'⟩ := h1.shape
  refine writeBranch_any 2 v1 v2 v3 v4 (cl.map Int.toNat) pl ml w ⟨a1, _, p1, h1'⟩ h3 h4 h5 (by rw [← e2]; exact hc4) (fun c hcm => ?_) (by omega) (fun x hx => ?_) (by omega) (fun x hx => ?_)
  · obtain ⟨d, hd, rfl⟩ := List.mem_map.1 hcm
    have := hcc d hd; omega
  · have := Pg.okPivots_sz _ _ hp x.data.toList (List.mem_map.2 ⟨x, hx, rfl⟩)
    simpa only [len_size] using this
  · have := List.all_eq_true.1 hm (x.1, x.2.1.data.toList, x.2.2.data.toList) (List.mem_map.2 ⟨x, hx, rfl⟩)
    simp only [Pg.okChange, Pg.isChange, Bool.and_eq_true, Bool.or_eq_true, decide_eq_true_eq, len_size] at this
    have hky := Pg.isKey_le this.1.1
    omega
theorem well_kind {kd : Int} {il : List (List UInt8 × List UInt8)} {cl : List Int} {pl : List (List UInt8)} {ml : List (Int × List UInt8 × List UInt8)} (h : Pg.well kd il cl pl ml = true) : kd = 1 ∨ kd = 2 := by
  unfold Pg.well at h
  by_cases hk : kd = 1
  · exact .inl hk
  · rw [if_neg hk] at h
    simp only [Bool.and_eq_true, decide_eq_true_eq] at h
    exact .inr h.1.1.1.1.1.2
theorem well_leaf {il : List (ByteArray × ByteArray)} {cl : List Int} {pl : List (List UInt8)} {ml : List (Int × List UInt8 × List UInt8)} (h : Pg.well 1 (plain il) cl pl ml = true) : il.length ≤ 16 ∧ ∀ x ∈ il, x.1.size ≤ 12 ∧ x.2.size ≤ 16 := by
  unfold Pg.well at h
  rw [if_pos rfl] at h
  simp only [Bool.and_eq_true, decide_eq_true_eq] at h
  obtain ⟨⟨⟨⟨ho, hl⟩, _⟩, _⟩, _⟩ := h
  refine ⟨by simpa [plain] using hl, fun x hx => ?_⟩
  have := Pg.okList_sz _ _ ho (x.1.data.toList, x.2.data.toList) (List.mem_map.2 ⟨x, hx, rfl⟩)
  simpa only [len_size] using this

set_option maxHeartbeats 1000000 in
set_option maxRecDepth 100000 in
theorem pagesWrite_any (v : Value) (kd : Int) (il : List (ByteArray × ByteArray)) (cl : List Int) (pl : List ByteArray) (ml : List (Int × ByteArray × ByteArray)) (w : World) (h : IsNode w v kd il cl pl ml) (hw : Pg.well kd (plain il) cl (lists pl) (plainCh ml) = true) :
    Calls Try.prog 25 #[v] w fun r w' => r = .returned (.string ⟨(Pg.page kd (plain il) cl (lists pl) (plainCh ml)).toArray⟩) ∧ Below w.heap.size w w' := by
  have HH := hid h
  obtain ⟨v1, v2, v3, v4, rfl, h1, -, h3, h4, h5⟩ := h
  obtain ⟨a1, p1, rfl⟩ := h1.shape
  obtain ⟨a2, p2, rfl, -⟩ := h3
  obtain ⟨a3, p3, rfl, -⟩ := h4
  obtain ⟨a4, p4, rfl, -⟩ := h5
  have BA := (Below.refl w.heap.size w).alloc (Nat.le_refl _) (.cells #[.int .i64 kd, .slice a1 il.length p1, .slice a2 cl.length p2, .slice a3 pl.length p3, .slice a4 ml.length p4] 34)
  have HB0 := hid BA
  have H1 := hid (h1.below BA)
  have HH2 := hid (HH.out.below BA)
  clear BA h1
  go_enter Try.func25, Try.ntmps25
  rcases well_kind hw with hk | hk
  · subst hk
    obtain ⟨hl, hs⟩ := well_leaf hw
    have HS := hid hs
    have HP : Hid (Pg.page 1 (plain il) cl (lists pl) (plainCh ml) = Pg.leaf (plain il)) := by show _ = _; unfold Pg.page; rw [if_neg (by decide)]
    clear hs hw
    go_wp2_with fail
    refine (writeLeaf_any _ il _ H1.out hl HS.out).mono ?_
    rintro r w1 ⟨rfl, hb1⟩
    have HB1 := hid (HB0.out.trans (hb1.mono (by simp)))
    clear hb1
    rw [← HP.out]
    go_wp2_with fail
    go_ret
    exact ⟨rfl, HB1.out⟩
  · subst hk
    have HW := hid hw
    clear hw
    go_wp2_with fail
    refine (writeB_any _ il cl pl ml _ HH2.out HW.out).mono ?_
    rintro r w1 ⟨rfl, hb1⟩
    have HB1 := hid (HB0.out.trans (hb1.mono (by simp)))
    clear hb1
    go_wp2_with fail
    go_ret
    exact ⟨rfl, HB1.out⟩

set_option maxHeartbeats 1000000 in
set_option maxRecDepth 100000 in
theorem siltWrite_any (v : Value) (kd : Int) (il : List (ByteArray × ByteArray)) (cl : List Int) (pl : List ByteArray) (ml : List (Int × ByteArray × ByteArray)) (w : World) (h : IsNode w v kd il cl pl ml) :
    Calls Try.prog 11 #[v] w fun r w' => r = .returned (.tuple #[.string ⟨(Pg.write kd (plain il) cl (lists pl) (plainCh ml)).1.toArray⟩, .int .i64 (Pg.write kd (plain il) cl (lists pl) (plainCh ml)).2]) ∧ Below w.heap.size w w' := by
  have HH := hid h
  obtain ⟨v1, v2, v3, v4, rfl, h1, -, h3, h4, h5⟩ := h
  obtain ⟨a1, p1, rfl⟩ := h1.shape
  obtain ⟨a2, p2, rfl, -⟩ := h3
  obtain ⟨a3, p3, rfl, -⟩ := h4
  obtain ⟨a4, p4, rfl, -⟩ := h5
  have BA := (Below.refl w.heap.size w).alloc (Nat.le_refl _) (.cells #[.int .i64 kd, .slice a1 il.length p1, .slice a2 cl.length p2, .slice a3 pl.length p3, .slice a4 ml.length p4] 34)
  have HB0 := hid BA
  have HH2 := hid (HH.out.below BA)
  have HN : Hid ((w.alloc (.cells #[.int .i64 kd, .slice a1 il.length p1, .slice a2 cl.length p2, .slice a3 pl.length p3, .slice a4 ml.length p4] 34)).heap[w.heap.size]? = some (.cells #[.int .i64 kd, .slice a1 il.length p1, .slice a2 cl.length p2, .slice a3 pl.length p3, .slice a4 ml.length p4] 34 (0, 0))) := heap_alloc_new _ _
  have hws : w.heap.size < (w.alloc (.cells #[.int .i64 kd, .slice a1 il.length p1, .slice a2 cl.length p2, .slice a3 pl.length p3, .slice a4 ml.length p4] 34)).heap.size := by simp
  clear BA h1
  go_enter Try.func11, Try.ntmps11
  go_wp2_with fail
  generalize w.alloc (.cells #[.int .i64 kd, .slice a1 il.length p1, .slice a2 cl.length p2, .slice a3 pl.length p3, .slice a4 ml.length p4] 34) = w0 at *
  refine (isNode_any _ kd il cl pl ml _ HH2.out).mono ?_
  rintro r w1 ⟨rfl, hb1⟩
  have HN1 := hid ((hb1.block w.heap.size (by omega)).trans HN.out)
  have HH3 := hid (HH2.out.below hb1)
  have HB1 := hid (HB0.out.trans (hb1.mono (by omega)))
  have hs1 := hb1.size
  obtain ⟨m0, m1, m2, m3, m4⟩ := node_cells HN1.out
  clear hb1
  cases hw : Pg.well kd (plain il) cl (lists pl) (plainCh ml)
  · have HR : Hid (Pg.write kd (plain il) cl (lists pl) (plainCh ml) = ([], 1)) := by
      show _ = _; unfold Pg.write; rw [hw]; rfl
    clear hw
    go_wp2_with fail
    go_ret2
    exact ⟨by rw [HR.out]; rfl, HB1.out⟩
  · have HR : Hid (Pg.write kd (plain il) cl (lists pl) (plainCh ml) = (Pg.page kd (plain il) cl (lists pl) (plainCh ml), 0)) := by
      show _ = _; unfold Pg.write; rw [hw]; rfl
    have HW := hid hw
    clear hw
    go_wp2_with fail
    refine (pagesWrite_any _ kd il cl pl ml _ HH3.out HW.out).mono ?_
    rintro r w2 ⟨rfl, hb2⟩
    have HB2 := hid (HB1.out.trans (hb2.mono (by omega)))
    clear hb2
    go_wp2_with fail
    go_ret2
    exact ⟨by rw [HR.out]; rfl, HB2.out⟩
end Go.Proofs.Ytolgpnaoaodepaa
