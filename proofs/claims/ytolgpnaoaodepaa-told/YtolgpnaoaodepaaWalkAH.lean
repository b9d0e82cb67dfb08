/- The walk of pages' readBranch. -/
import Derived.Test.YtolgpnaoaodepaaWalkAG
namespace Go.Proofs.Ytolgpnaoaodepaa
open Go.RowKit

/-- A node that lies in block b. -/
def NodeB (w : World) (b : Nat) (v0 v1 v2 v3 v4 : Value) : Prop := w.heap[b]? = some (.cells #[v0, v1, v2, v3, v4] 34 (0, 0))
theorem NodeB.cells {w : World} {b : Nat} {v0 v1 v2 v3 v4 : Value} (h : NodeB w b v0 v1 v2 v3 v4) : w.cell? ⟨b, 0, none⟩ = some v0 ∧ w.cell? ⟨b, 1, none⟩ = some v1 ∧ w.cell? ⟨b, 2, none⟩ = some v2 ∧ w.cell? ⟨b, 3, none⟩ = some v3 ∧ w.cell? ⟨b, 4, none⟩ = some v4 ∧ w.frozen? ⟨b, 0, none⟩ = false ∧ w.frozen? ⟨b, 1, none⟩ = false ∧ w.frozen? ⟨b, 2, none⟩ = false ∧ w.frozen? ⟨b, 3, none⟩ = false ∧ w.frozen? ⟨b, 4, none⟩ = false := by
  unfold NodeB at h; refine ⟨?_, ?_, ?_, ?_, ?_, ?_, ?_, ?_, ?_, ?_⟩ <;> simp [World.cell?, World.frozen?, h]
theorem NodeB.lt {w : World} {b : Nat} {v0 v1 v2 v3 v4 : Value} (h : NodeB w b v0 v1 v2 v3 v4) : b < w.heap.size := (Array.getElem?_eq_some_iff.1 h).1
theorem NodeB.but {w w' : World} {b c : Nat} {v0 v1 v2 v3 v4 : Value} (h : NodeB w b v0 v1 v2 v3 v4) (hb : But c w w') (hne : b ≠ c) : NodeB w' b v0 v1 v2 v3 v4 := (hb.block b h.lt (by simpa using hne)).trans h
theorem NodeB.below {w w' : World} {b B : Nat} {v0 v1 v2 v3 v4 : Value} (h : NodeB w b v0 v1 v2 v3 v4) (hb : Below B w w') (hlt : b < B) : NodeB w' b v0 v1 v2 v3 v4 := (hb.block b hlt).trans h
theorem NodeB.keep {w w' : World} {b : Nat} {v0 v1 v2 v3 v4 : Value} (h : NodeB w b v0 v1 v2 v3 v4) (hb : Below w.heap.size w w') : NodeB w' b v0 v1 v2 v3 v4 := h.below hb h.lt
theorem nodeB_new (w : World) (v0 v1 v2 v3 v4 : Value) : NodeB (w.alloc (.cells #[v0, v1, v2, v3, v4] 34)) w.heap.size v0 v1 v2 v3 v4 := heap_alloc_new _ _
/-- A node value whose rows a call owns. -/
def NodeV (B : Nat) (w : World) (v : Value) (kd : Int) (il : List (ByteArray × ByteArray)) (cl : List Nat) (pl : List ByteArray) (ml : List (Int × ByteArray × ByteArray)) : Prop :=
  ∃ v1 v2 v3 v4, v = .agg #[.int .i64 kd, v1, v2, v3, v4] ∧ OwnsI B w v1 il ∧ w.ownsRow B 3 1 v2 cl.length (ncells cl) ∧ OwnsS B w v3 pl ∧ OwnsC B w v4 ml ∧ il.length ≤ 1020 ∧ cl.length ≤ 255 ∧ pl.length ≤ 255 ∧ ml.length ≤ 255
def NodeQ (w : World) (o : Option (Int × List (List UInt8 × List UInt8) × List Nat × List (List UInt8) × List (Int × List UInt8 × List UInt8))) (r : Ending) (w' : World) : Prop := Below w.heap.size w w' ∧ ((o = none ∧ r = gaveUp) ∨ ∃ kd il cl pl ml v, o = some (kd, plain il, cl, lists pl, plainCh ml) ∧ r = .returned v ∧ NodeV w.heap.size w' v kd il cl pl ml)
theorem two_of {α : Type} {l : List α} (h : l.length = 2) : ∃ a b, l = [a, b] := by
  match l, h with
  | [a, b], _ => exact ⟨a, b, rfl⟩
theorem NodeB.set1 {w : World} {b : Nat} {v0 v1 v2 v3 v4 : Value} (h : NodeB w b v0 v1 v2 v3 v4) (u : Value) : NodeB (w.setCell ⟨b, 1, none⟩ u) b v0 u v2 v3 v4 := by unfold NodeB at *; rw [heap_setCell_at (i := 1) h]; rfl
theorem NodeB.set2 {w : World} {b : Nat} {v0 v1 v2 v3 v4 : Value} (h : NodeB w b v0 v1 v2 v3 v4) (u : Value) : NodeB (w.setCell ⟨b, 2, none⟩ u) b v0 v1 u v3 v4 := by unfold NodeB at *; rw [heap_setCell_at (i := 2) h]; rfl
theorem NodeB.set3 {w : World} {b : Nat} {v0 v1 v2 v3 v4 : Value} (h : NodeB w b v0 v1 v2 v3 v4) (u : Value) : NodeB (w.setCell ⟨b, 3, none⟩ u) b v0 v1 v2 u v4 := by unfold NodeB at *; rw [heap_setCell_at (i := 3) h]; rfl
theorem NodeB.set4 {w : World} {b : Nat} {v0 v1 v2 v3 v4 : Value} (h : NodeB w b v0 v1 v2 v3 v4) (u : Value) : NodeB (w.setCell ⟨b, 4, none⟩ u) b v0 v1 v2 v3 u := by unfold NodeB at *; rw [heap_setCell_at (i := 4) h]; rfl
theorem sec_any (k : UInt8) (s : ByteArray) (w : World) : Calls Try.prog 70 #[.int .u8 (k.toNat : Int), .string s] w fun r w' => r = secEnd (Pr.secR k s.data.toList) ∧ Below w.heap.size w w' := by
  have := readSection_any k s.data.toList w
  rwa [mk_data] at this
theorem row_two (w : World) (x y : Nat) : IsRow (w.alloc (.cells #[.int .i64 (x : Int), .int .i64 (y : Int)] 3)) (.slice (some ⟨w.heap.size, 0, none⟩) 2 2) 2 (ncells [x, y]) := by
  refine ⟨_, _, rfl, by omega, .inr ⟨_, _, rfl, by simp, fun i hi => ?_⟩⟩
  have e := heap_alloc_new w (.cells #[.int .i64 (x : Int), .int .i64 (y : Int)] 3)
  match i, hi with
  | 0, _ => unfold World.cell?; rw [e]; rfl
  | 1, _ => unfold World.cell?; rw [e]; rfl
theorem row_set {B : Nat} {w : World} {v : Value} {T : TypeId} {s n : Nat} {xs : List Value} (h : w.ownsRow B T s v n xs) {b i : Nat} (hb : b < B) (u : Value) : (w.setCell ⟨b, i, none⟩ u).ownsRow B T s v n xs := ownsRow_setCell_below h hb u
/-- A node's five cells, written. -/
abbrev put5 (w : World) (b : Nat) (v0 v1 v2 v3 v4 : Value) : World := ((((w.setCell ⟨b, 0, none⟩ v0).setCell ⟨b, 1, none⟩ v1).setCell ⟨b, 2, none⟩ v2).setCell ⟨b, 3, none⟩ v3).setCell ⟨b, 4, none⟩ v4
theorem NodeB.set0 {w : World} {b : Nat} {v0 v1 v2 v3 v4 : Value} (h : NodeB w b v0 v1 v2 v3 v4) (u : Value) : NodeB (w.setCell ⟨b, 0, none⟩ u) b u v1 v2 v3 v4 := by unfold NodeB at *; rw [heap_setCell_at (i := 0) h]; rfl
theorem NodeB.put {w : World} {b : Nat} {v0 v1 v2 v3 v4 : Value} (h : NodeB w b v0 v1 v2 v3 v4) (u0 u1 u2 u3 u4 : Value) : NodeB (put5 w b u0 u1 u2 u3 u4) b u0 u1 u2 u3 u4 := ((((h.set0 u0).set1 u1).set2 u2).set3 u3).set4 u4
theorem below_put {B : Nat} {a w : World} (h : Below B a w) {b : Nat} (hb : B ≤ b) (u0 u1 u2 u3 u4 : Value) : Below B a (put5 w b u0 u1 u2 u3 u4) :=
  ((((h.setCell (p := ⟨b, 0, none⟩) hb u0).setCell (p := ⟨b, 1, none⟩) hb u1).setCell (p := ⟨b, 2, none⟩) hb u2).setCell (p := ⟨b, 3, none⟩) hb u3).setCell (p := ⟨b, 4, none⟩) hb u4
theorem row_put {B : Nat} {w : World} {v : Value} {T : TypeId} {s n : Nat} {xs : List Value} (h : w.ownsRow B T s v n xs) {b : Nat} (hb : b < B) (u0 u1 u2 u3 u4 : Value) : (put5 w b u0 u1 u2 u3 u4).ownsRow B T s v n xs :=
  row_set (row_set (row_set (row_set (row_set h hb u0) hb u1) hb u2) hb u3) hb u4
theorem nodeB_result {w : World} {b : Nat} {v0 v1 v2 v3 v4 : Value} (h : NodeB w b v0 v1 v2 v3 v4) : w.cell? ⟨b, 0, none⟩ = some v0 ∧ w.cell? ⟨b, 1, none⟩ = some v1 ∧ w.cell? ⟨b, 2, none⟩ = some v2 ∧ w.cell? ⟨b, 3, none⟩ = some v3 ∧ w.cell? ⟨b, 4, none⟩ = some v4 := ⟨h.cells.1, h.cells.2.1, h.cells.2.2.1, h.cells.2.2.2.1, h.cells.2.2.2.2.1⟩
def brO (o : Option (List Nat × List (List UInt8) × List (Int × List UInt8 × List UInt8))) : Option (Int × List (List UInt8 × List UInt8) × List Nat × List (List UInt8) × List (Int × List UInt8 × List UInt8)) := o.map fun x => (2, [], x.1, x.2.1, x.2.2)

set_option maxHeartbeats 4000000 in
set_option maxRecDepth 20000 in
theorem readBranch_any (t : List UInt8) (w : World) :
    Calls Try.prog 62 #[.string ⟨t.toArray⟩] w fun r w' => NodeQ w (brO (Pr.branchR t)) r w' := by
  go_enter Try.func62, Try.ntmps62
  go_wp2_with fail
  have HN0 := hid (nodeB_new w (.int .i64 0) (.slice none 0 0) (.slice none 0 0) (.slice none 0 0) (.slice none 0 0))
  have HB0 := hid ((Below.refl w.heap.size w).alloc (Nat.le_refl _) (.cells #[.int .i64 0, .slice none 0 0, .slice none 0 0, .slice none 0 0, .slice none 0 0] 34))
  have hs0 : w.heap.size < (w.alloc (.cells #[.int .i64 0, .slice none 0 0, .slice none 0 0, .slice none 0 0, .slice none 0 0] 34)).heap.size := by simp
  refine (newReader_any t _).mono ?_
  rintro r w1 ⟨rfl, rfl⟩
  generalize w.alloc (.cells #[.int .i64 0, .slice none 0 0, .slice none 0 0, .slice none 0 0, .slice none 0 0] 34) = w0 at *
  have BA := (Below.refl w0.heap.size w0).alloc (Nat.le_refl _) (.cells #[.string ⟨t.toArray⟩] 104)
  have HR1 := hid (rd_new w0 t)
  have HB1 := hid (HB0.out.alloc (by omega) (.cells #[.string ⟨t.toArray⟩] 104))
  have HN1 := hid (HN0.out.keep BA)
  have hs1 : w0.heap.size < (w0.alloc (.cells #[.string ⟨t.toArray⟩] 104)).heap.size := by simp
  generalize w0.alloc (.cells #[.string ⟨t.toArray⟩] 104) = w1 at *
  generalize w0.heap.size = rb at *
  clear HN0 HB0 BA
  have HC := hid (rtake_any rb 3 t w1 HR1.out)
  go_wp2_with fail
  refine HC.out.mono ?_
  rintro r w2 ⟨hb2, ⟨hn2, rfl⟩ | ⟨x2, u2, he2, rfl, hr2⟩⟩
  · have HF : Hid (brO (Pr.branchR t) = none) := by show _ = _; unfold Pr.branchR; simp only [hn2, Option.bind_none]; rfl
    have HB2 := hid (but_to_below HB1.out hb2 (by omega) (by omega))
    clear hb2 hn2
    unfold gaveUp
    go_wp2_with fail
    exact ⟨rfl, HB2.out, .inl ⟨HF.out, rfl⟩⟩
  have HE2 := hid he2
  have HB2 := hid (but_to_below HB1.out hb2 (by omega) (by omega))
  have HN2 := hid (HN1.out.but hb2 (by omega))
  have hs2 := hb2.size
  have HC2 := hid (rbyte_any rb u2 w2 hr2)
  clear hb2 he2 hr2 HC HB1 HN1 HR1
  unfold sv
  go_wp2_with fail
  refine HC2.out.mono ?_
  rintro r w3 ⟨hb3, ⟨hn3, rfl⟩ | ⟨x3, u3, he3, rfl, hr3⟩⟩
  · have HF : Hid (brO (Pr.branchR t) = none) := by show _ = _; unfold Pr.branchR; simp only [HE2.out, hn3, Option.bind_none, Option.bind_some]; rfl
    have HB3 := hid (but_to_below HB2.out hb3 (by omega) (by omega))
    clear hb3 hn3
    unfold gaveUp
    go_wp2_with fail
    exact ⟨rfl, HB3.out, .inl ⟨HF.out, rfl⟩⟩
  have HE3 := hid he3
  have HB3 := hid (but_to_below HB2.out hb3 (by omega) (by omega))
  have HN3 := hid (HN2.out.but hb3 (by omega))
  have hs3 := hb3.size
  have hx3 : x3.toNat ≤ 255 := by have := x3.toNat_lt; omega
  have HC3 := hid (rshort_any rb u3 w3 hr3)
  clear hb3 he3 hr3 HC2 HB2 HN2
  unfold bv
  go_wp2_with fail
  refine HC3.out.mono ?_
  rintro r w4 ⟨hb4, ⟨hn4, rfl⟩ | ⟨x4, u4, he4, rfl, hr4⟩⟩
  · have HF : Hid (brO (Pr.branchR t) = none) := by show _ = _; unfold Pr.branchR; simp only [HE2.out, HE3.out, hn4, Option.bind_none, Option.bind_some]; rfl
    have HB4 := hid (but_to_below HB3.out hb4 (by omega) (by omega))
    clear hb4 hn4
    unfold gaveUp
    go_wp2_with fail
    exact ⟨rfl, HB4.out, .inl ⟨HF.out, rfl⟩⟩
  have HE4 := hid he4
  have HB4 := hid (but_to_below HB3.out hb4 (by omega) (by omega))
  have HN4 := hid (HN3.out.but hb4 (by omega))
  have hs4 := hb4.size
  have HC4 := hid (rshort_any rb u4 w4 hr4)
  clear hb4 he4 hr4 HC3 HB3 HN3
  unfold nv
  go_wp2_with fail
  refine HC4.out.mono ?_
  rintro r w5 ⟨hb5, ⟨hn5, rfl⟩ | ⟨x5, u5, he5, rfl, hr5⟩⟩
  · have HF : Hid (brO (Pr.branchR t) = none) := by show _ = _; unfold Pr.branchR; simp only [HE2.out, HE3.out, HE4.out, hn5, Option.bind_none, Option.bind_some]; rfl
    have HB5 := hid (but_to_below HB4.out hb5 (by omega) (by omega))
    clear hb5 hn5
    unfold gaveUp
    go_wp2_with fail
    exact ⟨rfl, HB5.out, .inl ⟨HF.out, rfl⟩⟩
  have HE5 := hid he5
  have HB5 := hid (but_to_below HB4.out hb5 (by omega) (by omega))
  have HN5 := hid (HN4.out.but hb5 (by omega))
  have hs5 := hb5.size
  clear hb5 he5 hr5 HC4 HB4 HN4
  unfold nv
  go_wp2_with fail
  have HIS := hid (row_two w5 x4 x5)
  have BA := (Below.refl w5.heap.size w5).alloc (Nat.le_refl _) (.cells #[.int .i64 (x4 : Int), .int .i64 (x5 : Int)] 3)
  have HB6 := hid (HB5.out.trans (BA.mono (by omega)))
  have HN6 := hid (HN5.out.keep BA)
  have hs6 : w5.heap.size < (w5.alloc (.cells #[.int .i64 (x4 : Int), .int .i64 (x5 : Int)] 3)).heap.size := by simp
  clear BA HB5 HN5
  generalize w5.alloc (.cells #[.int .i64 (x4 : Int), .int .i64 (x5 : Int)] 3) = w6 at *
  refine (cutBody_any t _ [x4, x5] _ HIS.out (by simp)).mono ?_
  rintro r w7 ⟨hb7, ⟨hn7, rfl⟩ | ⟨sl, v7, he7, rfl, ho7⟩⟩
  · have HF : Hid (brO (Pr.branchR t) = none) := by show _ = _; unfold Pr.branchR; simp only [HE2.out, HE3.out, HE4.out, HE5.out, hn7, Option.bind_none, Option.bind_some]; rfl
    have HB7 := hid (HB6.out.trans (hb7.mono (by omega)))
    clear hb7 hn7
    unfold gaveUp
    go_wp2_with fail
    exact ⟨rfl, HB7.out, .inl ⟨HF.out, rfl⟩⟩
  have hsl : sl.length = 2 := by have := (Pr.cutR_is he7).2.2; have := congrArg List.length this; simpa [lists] using this
  obtain ⟨s0, s1, rfl⟩ := two_of hsl
  have HE7 : Hid (Pr.cutR t [x4, x5] = some [s0.data.toList, s1.data.toList]) := he7
  have HB7 := hid (HB6.out.trans (hb7.mono (by omega)))
  have HN7 := hid (HN6.out.keep hb7)
  have hs7 := hb7.size
  obtain ⟨g, cap, rfl, hg1, hg2, hg3⟩ := ho7.shape_pos (by simp)
  have c0 := ho7.cellAt 0 s0 rfl
  have c1 := ho7.cellAt 1 s1 rfl
  have HC1 := hid c1
  clear he7 hb7 ho7 hsl HIS HB6 HN6
  have BA := (Below.refl w7.heap.size w7).alloc (Nat.le_refl _) (.cells #[.int .i64 2, .slice none 0 0, .slice none 0 0, .slice none 0 0, .slice none 0 0] 34)
  have HX8 := hid BA
  have HM8 := hid (nodeB_new w7 (.int .i64 2) (.slice none 0 0) (.slice none 0 0) (.slice none 0 0) (.slice none 0 0))
  have hs8 : w7.heap.size < (w7.alloc (.cells #[.int .i64 2, .slice none 0 0, .slice none 0 0, .slice none 0 0, .slice none 0 0] 34)).heap.size := by simp
  clear BA c1
  go_wp2_with fail
  generalize w7.alloc (.cells #[.int .i64 2, .slice none 0 0, .slice none 0 0, .slice none 0 0, .slice none 0 0] 34) = w8 at *
  refine (sec_any 112 s0 _).mono ?_
  rintro r w9 ⟨rfl, hb9⟩
  have HX9 := hid (HX8.out.trans (hb9.mono (by omega)))
  have HM9 := hid (HM8.out.keep hb9)
  have hs9 := hb9.size
  clear hb9 HX8 HM8 c0
  rcases secR_end (Pr.secR 112 s0.data.toList) with ⟨hsn, hse⟩ | ⟨pc, hsn, hse⟩
  · have HF : Hid (brO (Pr.branchR t) = none) := by show _ = _; unfold Pr.branchR; simp only [HE2.out, HE3.out, HE4.out, HE5.out, HE7.out, Option.bind_none, Option.bind_some, List.getD_cons_zero, hsn]; rfl
    have HBF := hid (HB7.out.trans (HX9.out.mono (by omega)))
    rw [hse]
    clear hsn hse
    unfold gaveUp
    go_wp2_with fail
    exact ⟨rfl, HBF.out, .inl ⟨HF.out, rfl⟩⟩
  rw [hse]
  have HES := hid hsn
  have hpc := Pr.secR_len hsn
  clear hsn hse
  go_wp2_with fail
  refine (readChildren_any pc x3.toNat _ hx3 (by omega)).mono ?_
  rintro r w10 ⟨hb10, ⟨hn10, rfl⟩ | ⟨cl, pl, v1, v2, he10, rfl, hoc, hop, hcl, hpl⟩⟩
  · have HF : Hid (brO (Pr.branchR t) = none) := by show _ = _; unfold Pr.branchR; simp only [HE2.out, HE3.out, HE4.out, HE5.out, HE7.out, Option.bind_none, Option.bind_some, List.getD_cons_zero, HES.out, hn10]; rfl
    have HBF := hid (HB7.out.trans ((HX9.out.trans (hb10.mono (by omega))).mono (by omega)))
    clear hb10 hn10
    unfold gaveUp
    go_wp2_with fail
    exact ⟨rfl, HBF.out, .inl ⟨HF.out, rfl⟩⟩
  have HE10 := hid he10
  have HX10 := hid (HX9.out.trans (hb10.mono (by omega)))
  have HM10 := hid (HM9.out.keep hb10)
  have hs10 := hb10.size
  obtain ⟨ca, cc, rfl⟩ := rowShape hoc
  obtain ⟨pa, pq, rfl⟩ := hop.shape
  have HO11 := hid (row_set (row_set hoc (b := w7.heap.size) (i := 2) (by omega) (.slice ca cl.length cc)) (b := w7.heap.size) (i := 3) (by omega) (.slice pa pl.length pq))
  have HP11 := hid ((hop.setBelow (b := w7.heap.size) (i := 2) (by omega) (.slice ca cl.length cc)).setBelow (b := w7.heap.size) (i := 3) (by omega) (.slice pa pl.length pq))
  have HM11 := hid ((HM10.out.set2 (.slice ca cl.length cc)).set3 (.slice pa pl.length pq))
  have HX11 := hid ((HX10.out.setCell (p := ⟨w7.heap.size, 2, none⟩) (Nat.le_refl _) (.slice ca cl.length cc)).setCell (p := ⟨w7.heap.size, 3, none⟩) (Nat.le_refl _) (.slice pa pl.length pq))
  obtain ⟨-, -, m2, m3, -, -, -, z2, z3, -⟩ := HM10.out.cells
  have hs11 : ((w10.setCell ⟨w7.heap.size, 2, none⟩ (.slice ca cl.length cc)).setCell ⟨w7.heap.size, 3, none⟩ (.slice pa pl.length pq)).heap.size = w10.heap.size := by rw [setSize, setSize]
  have HS11 : Hid (w10.heap.size ≤ ((w10.setCell ⟨w7.heap.size, 2, none⟩ (.slice ca cl.length cc)).setCell ⟨w7.heap.size, 3, none⟩ (.slice pa pl.length pq)).heap.size) := Nat.le_of_eq hs11.symm
  have k10 := HX10.out.cell (p := ⟨g, 1, none⟩) hg2 |>.trans HC1.out
  have hne : ¬ g = w7.heap.size := by omega
  clear he10 hb10 hoc hop HX10 HM10 HX9 HM9 hs11
  go_wp2_with fail
  generalize (w10.setCell ⟨w7.heap.size, 2, none⟩ (.slice ca cl.length cc)).setCell ⟨w7.heap.size, 3, none⟩ (.slice pa pl.length pq) = w11 at *
  have hs11 := HS11.out
  refine (sec_any 109 s1 _).mono ?_
  rintro r w12 ⟨rfl, hb12⟩
  have HY12 := hid hb12
  have hs12 := hb12.size
  clear hb12 m2 m3 z2 z3 k10
  rcases secR_end (Pr.secR 109 s1.data.toList) with ⟨hsn, hse⟩ | ⟨mc, hsn, hse⟩
  · have HF : Hid (brO (Pr.branchR t) = none) := by show _ = _; unfold Pr.branchR; simp only [HE2.out, HE3.out, HE4.out, HE5.out, HE7.out, Option.bind_none, Option.bind_some, List.getD_cons_zero, List.getD_cons_succ, HES.out, HE10.out, hsn]; rfl
    have HBF := hid (HB7.out.trans ((HX11.out.trans (HY12.out.mono (by omega))).mono (by omega)))
    rw [hse]
    clear hsn hse
    unfold gaveUp
    go_wp2_with fail
    exact ⟨rfl, HBF.out, .inl ⟨HF.out, rfl⟩⟩
  rw [hse]
  have HEM := hid hsn
  have hmc := Pr.secR_len hsn
  clear hsn hse
  go_wp2_with fail
  refine (newReader_any mc _).mono ?_
  rintro r w13 ⟨rfl, rfl⟩
  have HR13 := hid (rd_new w12 mc)
  have HY13 := hid (HY12.out.alloc (by omega) (.cells #[.string ⟨mc.toArray⟩] 104))
  have hs13 : w12.heap.size < (w12.alloc (.cells #[.string ⟨mc.toArray⟩] 104)).heap.size := by simp
  generalize w12.alloc (.cells #[.string ⟨mc.toArray⟩] 104) = w13 at *
  generalize w12.heap.size = mb at *
  clear HY12
  have HC := hid (readChanges_any mb mc w13 HR13.out (by omega))
  go_wp2_with fail
  refine HC.out.mono ?_
  rintro r w14 ⟨hb14, ⟨hn14, rfl⟩ | ⟨ml, v4, u14, he14, rfl, hom, hml, hr14⟩⟩
  · have HF : Hid (brO (Pr.branchR t) = none) := by show _ = _; unfold Pr.branchR; simp only [HE2.out, HE3.out, HE4.out, HE5.out, HE7.out, Option.bind_none, Option.bind_some, List.getD_cons_zero, List.getD_cons_succ, HES.out, HE10.out, HEM.out, hn14]; rfl
    have HBF := hid (HB7.out.trans ((HX11.out.trans ((but_to_below HY13.out hb14 (by omega) (by omega)).mono (by omega))).mono (by omega)))
    clear hb14 hn14
    unfold gaveUp
    go_wp2_with fail
    exact ⟨rfl, HBF.out, .inl ⟨HF.out, rfl⟩⟩
  have HE14 : Hid (brO (Pr.branchR t) = if u14 = [] then some (2, plain [], cl, lists pl, plainCh ml) else none) := by
    show _ = _; unfold Pr.branchR; simp only [HE2.out, HE3.out, HE4.out, HE5.out, HE7.out, Option.bind_some, List.getD_cons_zero, List.getD_cons_succ, HES.out, HE10.out, HEM.out, he14]
    split <;> rfl
  have HY14 := hid (but_to_below HY13.out hb14 (by omega) (by omega))
  have hs14 := hb14.size
  obtain ⟨ma, mq, rfl⟩ := rowShape hom
  have HM14 := hid (HM11.out.below HY14.out (by omega))
  have HX14 := hid (HX11.out.trans (HY14.out.mono (by omega)))
  have HO15 := hid (row_set (row_below HO11.out HY14.out (Nat.le_refl _)) (b := w7.heap.size) (i := 4) (by omega) (.slice ma ml.length mq))
  have HP15 := hid (OwnsS.setBelow (HP11.out.below HY14.out (Nat.le_refl _)) (b := w7.heap.size) (i := 4) (by omega) (.slice ma ml.length mq))
  have HQ15 := hid (row_set hom (b := w7.heap.size) (i := 4) (by omega) (.slice ma ml.length mq))
  have HM15 := hid (HM14.out.set4 (.slice ma ml.length mq))
  have HX15 := hid (HX14.out.setCell (p := ⟨w7.heap.size, 4, none⟩) (Nat.le_refl _) (.slice ma ml.length mq))
  have HR15 := hid (hr14.setOther (c := w7.heap.size) (i := 4) (by omega) (.slice ma ml.length mq))
  have HS15 : Hid (w14.heap.size ≤ (w14.setCell ⟨w7.heap.size, 4, none⟩ (.slice ma ml.length mq)).heap.size) := Nat.le_of_eq (setSize _ _ _).symm
  obtain ⟨-, -, -, -, m4, -, -, -, -, z4⟩ := HM14.out.cells
  clear he14 hb14 hr14 hom HC HY13 HR13 HM14 HX14 HY14 HO11 HP11 HM11 HX11
  go_wp2_with fail
  generalize w14.setCell ⟨w7.heap.size, 4, none⟩ (.slice ma ml.length mq) = w15 at *
  have hs15 := HS15.out
  refine (rend_any mb u14 w15 HR15.out).mono ?_
  rintro r w16 ⟨rfl, rfl⟩
  clear m4 z4
  by_cases hu : u14 = []
  · rw [if_pos hu] at HE14 ⊢
    clear hu
    have HN16 := hid (HN7.out.below HX15.out (by omega))
    obtain ⟨r0, r1, r2, r3, r4, y0, y1, y2, y3, y4⟩ := HN16.out.cells
    obtain ⟨m0, m1, m2, m3, m4, -⟩ := HM15.out.cells
    have HBF := hid (below_put (HB7.out.trans (HX15.out.mono (by omega))) (Nat.le_refl _) (.int .i64 2) (.slice none 0 0) (.slice ca cl.length cc) (.slice pa pl.length pq) (.slice ma ml.length mq))
    have HNF := hid (HN16.out.put (.int .i64 2) (.slice none 0 0) (.slice ca cl.length cc) (.slice pa pl.length pq) (.slice ma ml.length mq))
    have HOF := hid (row_shrink (row_put HO15.out (b := w.heap.size) (by omega) (.int .i64 2) (.slice none 0 0) (.slice ca cl.length cc) (.slice pa pl.length pq) (.slice ma ml.length mq)) (C := w.heap.size) (by omega))
    have HPF := hid (row_shrink (row_put HP15.out (b := w.heap.size) (by omega) (.int .i64 2) (.slice none 0 0) (.slice ca cl.length cc) (.slice pa pl.length pq) (.slice ma ml.length mq)) (C := w.heap.size) (by omega))
    have HQF := hid (row_shrink (row_put HQ15.out (b := w.heap.size) (by omega) (.int .i64 2) (.slice none 0 0) (.slice ca cl.length cc) (.slice pa pl.length pq) (.slice ma ml.length mq)) (C := w.heap.size) (by omega))
    go_wp2_with fail
    refine bodyPost_ret (v := .agg #[.int .i64 2, .slice none 0 0, .slice ca cl.length cc, .slice pa pl.length pq, .slice ma ml.length mq]) ?_ rfl ⟨HBF.out, .inr ⟨2, [], cl, pl, ml, _, HE14.out, rfl, _, _, _, _, rfl, World.ownsRow_nil _ _ _ _, HOF.out, HPF.out, HQF.out, by simp, hcl, hpl, hml⟩⟩
    obtain ⟨q0, q1, q2, q3, q4⟩ := nodeB_result HNF.out
    unfold put5 at q0 q1 q2 q3 q4
    simp [results, Try.results62, go_sem, q0, q1, q2, q3, q4]
  · rw [if_neg hu] at HE14 ⊢
    clear hu
    have HBF := hid (HB7.out.trans (HX15.out.mono (by omega)))
    unfold gaveUp
    go_wp2_with fail
    exact ⟨rfl, HBF.out, .inl ⟨HE14.out, rfl⟩⟩
end Go.Proofs.Ytolgpnaoaodepaa
