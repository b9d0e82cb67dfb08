/- The walk of paged, at Fetch. -/
import Derived.Test.YtolgpnaoaodepaaGreatLawRm
import Derived.Test.YtolgpnaoaodepaaGreatWalkEm
import Derived.Test.YtolgpnaoaodepaaGreatMathTm
import Derived.Test.YtolgpnaoaodepaaGreatWalkADm
import Derived.Test.YtolgpnaoaodepaaGreatWalkSm
import Derived.Test.YtolgpnaoaodepaaGreatWalkAIm
namespace Go.Proofs.YtolgpnaoaodepaaGreat
open Go.RowKit

set_option maxHeartbeats 1000000 in
set_option maxRecDepth 20000 in
theorem pagedFetch_any (p : Addr) (s t : ByteArray) (c1 c4 c5 c6 c7 c8 c9 c10 c11 c12 : Value) (w : World) (hs : s.size ≤ 1000000000) :
    Calls Tryz.prog 51 #[.pointer (some p), .agg #[.int .i64 5, c1, .string s, .string t, c4, c5, c6, c7, c8, c9, c10, c11, c12]] w fun r w' => r = .returned (.bool true) ∧ Below w.heap.size w w' := by
  have HA := hid ((Below.refl w.heap.size w).alloc (Nat.le_refl _) (.cells #[.int .i64 5, c1, .string s, .string t, c4, c5, c6, c7, c8, c9, c10, c11, c12] 81))
  have HX := hid (heap_alloc_new w (.cells #[.int .i64 5, c1, .string s, .string t, c4, c5, c6, c7, c8, c9, c10, c11, c12] 81))
  go_enter Tryz.func51, Tryz.ntmps51
  go_wp2_with fail
  have C1 := siltFetch_any s.data.toList t (w.alloc (.cells #[.int .i64 5, c1, .string s, .string t, c4, c5, c6, c7, c8, c9, c10, c11, c12] 81))
  rw [show (⟨s.data.toList.toArray⟩ : ByteArray) = s from rfl] at C1
  refine C1.mono ?_
  clear C1
  generalize w.alloc (.cells #[.int .i64 5, c1, .string s, .string t, c4, c5, c6, c7, c8, c9, c10, c11, c12] 81) = w1 at *
  rintro r w2 ⟨rfl, hb2⟩
  have hx2 := (hb2.block w.heap.size (Array.getElem?_eq_some_iff.1 HX.out).1).trans HX.out
  have m2 : w2.cell? ⟨w.heap.size, 2, none⟩ = some (.string s) := by simp [World.cell?, hx2]
  have m3 : w2.cell? ⟨w.heap.size, 3, none⟩ = some (.string t) := by simp [World.cell?, hx2]
  have HB2 := hid (HA.out.trans (hb2.mono HA.out.size))
  clear hb2 hx2 HA HX
  have CR := hid (refFetch_any s t w2 hs)
  generalize fetchV (Pr.fetchR s.data.toList t.data.toList) = fv at *
  generalize fetchN (Pr.fetchR s.data.toList t.data.toList) = fn at *
  go_wp2_with fail
  refine CR.out.mono ?_
  rintro r w3 ⟨rfl, hb3⟩
  have HB3 := hid (HB2.out.trans (hb3.mono HB2.out.size))
  clear hb3 CR m2 m3
  go_wp2_with (go_at_call 96; refine (num_any _ _).mono ?_; rintro e w' ⟨rfl, rfl⟩)
  go_ret
  exact ⟨rfl, HB3.out⟩
end Go.Proofs.YtolgpnaoaodepaaGreat
/- The walk of paged, at Write. -/
namespace Go.Proofs.YtolgpnaoaodepaaGreat
open Go.RowKit

theorem half2 (j : Nat) : ∃ i, j = i * 2 ∨ j = i * 2 + 1 := ⟨j / 2, by omega⟩
theorem third3 (j : Nat) : ∃ i, j = i * 3 ∨ j = i * 3 + 1 ∨ j = i * 3 + 2 := ⟨j / 3, by omega⟩
theorem IsItems.src {w : World} {v : Value} {l : List (ByteArray × ByteArray)} (h : IsItems w v l) : Src 2 w v l.length (icells l) := by
  rcases h with ⟨a, cap, rfl, rfl⟩ | ⟨b, off, cap, rfl, h2, h3, h4, h5⟩
  · exact ⟨a, cap, rfl, rfl, .inl rfl⟩
  · refine ⟨_, cap, rfl, icells_len2 l, .inr ⟨b, off, rfl, h4, fun j u hj => ?_⟩⟩
    have hlt := (List.getElem?_eq_some_iff.1 hj).1
    rw [icells_len2] at hlt
    obtain ⟨i, rfl | rfl⟩ := half2 j
    · have hi : i < l.length := by omega
      rw [(icells_at l i hi).1] at hj
      rw [← Option.some.inj hj]; exact (h5 i hi).1
    · have hi : i < l.length := by omega
      rw [(icells_at l i hi).2] at hj
      rw [← Option.some.inj hj]; exact (h5 i hi).2
theorem IsChs.src {w : World} {v : Value} {l : List (Int × ByteArray × ByteArray)} (h : IsChs w v l) : Src 3 w v l.length (ccells l) := by
  obtain ⟨a, cap, rfl, h2, h3⟩ := h
  refine ⟨a, cap, rfl, ccells_len2 l, h3.imp_right fun ⟨b, off, e, hlt', h5⟩ => ⟨b, off, e, hlt', fun j u hj => ?_⟩⟩
  have hlt := (List.getElem?_eq_some_iff.1 hj).1
  rw [ccells_len2] at hlt
  obtain ⟨i, rfl | rfl | rfl⟩ := third3 j
  · have hi : i < l.length := by omega
    rw [(ccells_at l i hi).1] at hj
    rw [← Option.some.inj hj]; exact (h5 i hi).1
  · have hi : i < l.length := by omega
    rw [(ccells_at l i hi).2.1] at hj
    rw [← Option.some.inj hj]; exact (h5 i hi).2.1
  · have hi : i < l.length := by omega
    rw [(ccells_at l i hi).2.2] at hj
    rw [← Option.some.inj hj]; exact (h5 i hi).2.2
theorem one_icells : ∀ (l : List (ByteArray × ByteArray)), ∀ v ∈ icells l, v.oneCell' = true
  | [], v, h => by cases h
  | x :: r, v, h => by
    have h' : v ∈ [Value.string x.1, Value.string x.2] ++ icells r := h
    rcases List.mem_append.1 h' with h | h
    · simp at h; rcases h with rfl | rfl <;> rfl
    · exact one_icells r v h
theorem one_ccells : ∀ (l : List (Int × ByteArray × ByteArray)), ∀ v ∈ ccells l, v.oneCell' = true
  | [], v, h => by cases h
  | x :: r, v, h => by
    have h' : v ∈ [Value.int .i64 x.1, Value.string x.2.1, Value.string x.2.2] ++ ccells r := h
    rcases List.mem_append.1 h' with h | h
    · simp at h; rcases h with rfl | rfl | rfl <;> rfl
    · exact one_ccells r v h
theorem one_ints (l : List Int) : ∀ v ∈ l.map (Value.int .i64), v.oneCell' = true := by
  intro v h
  obtain ⟨x, _, rfl⟩ := List.mem_map.1 h
  rfl
theorem one_strs (l : List ByteArray) : ∀ v ∈ strs l, v.oneCell' = true := by
  intro v h
  obtain ⟨x, _, rfl⟩ := List.mem_map.1 h
  rfl

/-- A node's parts in a step's cells. -/
structure NodeP (w : World) (v1 v2 v3 v4 : Value) (il : List (ByteArray × ByteArray)) (cl : List Int) (pl : List ByteArray) (ml : List (Int × ByteArray × ByteArray)) : Prop where
  i : IsItems w v1 il
  c : IsRow w v2 cl.length (cl.map (.int .i64))
  p : IsRow w v3 pl.length (pl.map .string)
  m : IsChs w v4 ml
  bi : il.length ≤ 100000000
  bc : cl.length ≤ 100000000
  bp : pl.length ≤ 100000000
  bm : ml.length ≤ 100000000
theorem NodeP.below {w w' : World} {v1 v2 v3 v4 : Value} {il : List (ByteArray × ByteArray)} {cl : List Int} {pl : List ByteArray} {ml : List (Int × ByteArray × ByteArray)} (h : NodeP w v1 v2 v3 v4 il cl pl ml) (hb : Below w.heap.size w w') : NodeP w' v1 v2 v3 v4 il cl pl ml :=
  ⟨h.i.below hb, h.c.below hb, h.p.below hb, h.m.below hb, h.bi, h.bc, h.bp, h.bm⟩
theorem NodeP.node {w : World} {v1 v2 v3 v4 : Value} {il : List (ByteArray × ByteArray)} {cl : List Int} {pl : List ByteArray} {ml : List (Int × ByteArray × ByteArray)} (h : NodeP w v1 v2 v3 v4 il cl pl ml) (kd : Int) : IsNode w (.agg #[.int .i64 kd, v1, v2, v3, v4]) kd il cl pl ml :=
  ⟨v1, v2, v3, v4, rfl, h.i, by have := h.bi; omega, h.c, h.p, h.m⟩
/-- A node that was handed over, with something of the caller's in its spare room. -/
structure LentN (B : Nat) (w : World) (v1 v2 v3 v4 u1 u2 u3 u4 : Value) (il : List (ByteArray × ByteArray)) (cl : List Int) (pl : List ByteArray) (ml : List (Int × ByteArray × ByteArray)) : Prop where
  i : Lent 51 2 [mine, .string ⟨#[]⟩] B w v1 u1 il.length (icells il)
  c : Lent 3 1 [.int .i64 (-7)] B w v2 u2 cl.length (cl.map (.int .i64))
  p : LentT B w v3 u3 pl.length (strs pl)
  m : Lent 34 3 [.int .i64 0, mine, .string ⟨#[]⟩] B w v4 u4 ml.length (ccells ml)
theorem LentN.below {B : Nat} {w w' : World} {v1 v2 v3 v4 u1 u2 u3 u4 : Value} {il : List (ByteArray × ByteArray)} {cl : List Int} {pl : List ByteArray} {ml : List (Int × ByteArray × ByteArray)} (h : LentN B w v1 v2 v3 v4 u1 u2 u3 u4 il cl pl ml) (hb : Below w.heap.size w w') : LentN B w' v1 v2 v3 v4 u1 u2 u3 u4 il cl pl ml :=
  ⟨h.i.below hb, h.c.below hb, h.p.below hb, h.m.below hb⟩
theorem LentN.node {B : Nat} {w : World} {v1 v2 v3 v4 u1 u2 u3 u4 : Value} {il : List (ByteArray × ByteArray)} {cl : List Int} {pl : List ByteArray} {ml : List (Int × ByteArray × ByteArray)} (h : LentN B w v1 v2 v3 v4 u1 u2 u3 u4 il cl pl ml) (hp : NodeP w v1 v2 v3 v4 il cl pl ml) (kd : Int) : IsNode w (.agg #[.int .i64 kd, u1, u2, u3, u4]) kd il cl pl ml :=
  ⟨u1, u2, u3, u4, rfl, h.i.isItems hp.i hp.bi, by have := hp.bi; omega, h.c.isRow hp.c (by simp) hp.bc, h.p.isRow hp.p (by simp) hp.bp, h.m.isChs hp.m hp.bm⟩
theorem lentN_any (kd : Int) (v1 v2 v3 v4 : Value) (il : List (ByteArray × ByteArray)) (cl : List Int) (pl : List ByteArray) (ml : List (Int × ByteArray × ByteArray)) (w : World) (h : NodeP w v1 v2 v3 v4 il cl pl ml) :
    Calls Tryz.prog 97 #[.agg #[.int .i64 kd, v1, v2, v3, v4]] w fun r w' => Below w.heap.size w w' ∧ ∃ u1 u2 u3 u4, r = .returned (.agg #[.int .i64 kd, u1, u2, u3, u4]) ∧ LentN w.heap.size w' v1 v2 v3 v4 u1 u2 u3 u4 il cl pl ml := by
  refine (lentNode_any kd v1 v2 v3 v4 il.length cl.length pl.length ml.length (icells il) (cl.map (.int .i64)) (strs pl) (ccells ml) w h.i.src (h.c.src (by simp)) (h.p.src (by simp)) h.m.src h.bi h.bc h.bp h.bm (one_icells il) (one_ints cl) (one_strs pl) (one_ccells ml)).mono ?_
  rintro r w' ⟨hb, u1, u2, u3, u4, e, q1, q2, q3, q4⟩
  exact ⟨hb, u1, u2, u3, u4, e, q1, q2, q3, q4⟩
theorem stillN_any (kd : Int) (u1 u2 u3 u4 v1 v2 v3 v4 : Value) (il : List (ByteArray × ByteArray)) (cl : List Int) (pl : List ByteArray) (ml : List (Int × ByteArray × ByteArray)) (w0 w : World) (hb : Below w0.heap.size w0 w) (h : NodeP w0 v1 v2 v3 v4 il cl pl ml) (hl : LentN w0.heap.size w v1 v2 v3 v4 u1 u2 u3 u4 il cl pl ml) :
    Calls Tryz.prog 99 #[.agg #[.int .i64 kd, u1, u2, u3, u4], .agg #[.int .i64 kd, v1, v2, v3, v4]] w fun r w' => r = .returned (.bool true) ∧ Below w0.heap.size w w' :=
  stillNode_any kd u1 u2 u3 u4 v1 v2 v3 v4 il cl pl ml w0 w hb h.i h.c h.p h.m h.bi h.bc h.bp h.bm hl.i hl.c hl.p hl.m
theorem op_cells {w : World} {g : Nat} {c0 c1 c2 c3 c4 c5 c6 c7 c8 c9 c10 c11 c12 : Value} (h : w.heap[g]? = some (.cells #[c0, c1, c2, c3, c4, c5, c6, c7, c8, c9, c10, c11, c12] 81 (0, 0))) : w.cell? ⟨g, 4, none⟩ = some c4 ∧ w.cell? ⟨g, 5, none⟩ = some c5 ∧ w.cell? ⟨g, 6, none⟩ = some c6 ∧ w.cell? ⟨g, 7, none⟩ = some c7 ∧ w.cell? ⟨g, 8, none⟩ = some c8 := by
  refine ⟨?_, ?_, ?_, ?_, ?_⟩ <;> simp [World.cell?, h]

theorem Lent.slice {e : TypeId} {sz : Nat} {ex : List Value} {B : Nat} {w' : World} {v v' : Value} {n : Nat} {cs : List Value} (h : Lent e sz ex B w' v v' n cs) : ∃ a cap, v' = .slice a n cap := by
  rcases h with ⟨cap, rfl, rfl⟩ | ⟨g, _, rfl, _⟩
  · exact ⟨_, _, rfl⟩
  · exact ⟨_, _, rfl⟩
theorem LentT.slice {B : Nat} {w' : World} {v v' : Value} {n : Nat} {cs : List Value} (h : LentT B w' v v' n cs) : ∃ a m cap, v' = .slice a m cap := by
  rcases h with ⟨cap, rfl, rfl⟩ | ⟨g, _, rfl, _⟩
  · exact ⟨_, _, _, rfl⟩
  · exact ⟨_, _, _, rfl⟩
theorem nb_cells {w : World} {b : Nat} {v0 v1 v2 v3 v4 : Value} (h : NodeB w b v0 v1 v2 v3 v4) : w.cell? ⟨b, 0, none⟩ = some v0 ∧ w.cell? ⟨b, 1, none⟩ = some v1 ∧ w.cell? ⟨b, 2, none⟩ = some v2 ∧ w.cell? ⟨b, 3, none⟩ = some v3 ∧ w.cell? ⟨b, 4, none⟩ = some v4 := by
  unfold NodeB at h
  refine ⟨?_, ?_, ?_, ?_, ?_⟩ <;> simp [World.cell?, h]

set_option maxHeartbeats 1000000 in
set_option maxRecDepth 20000 in
theorem pagedWrite_any (p : Addr) (kd : Int) (v1 v2 v3 v4 : Value) (il : List (ByteArray × ByteArray)) (cl : List Int) (pl : List ByteArray) (ml : List (Int × ByteArray × ByteArray)) (c1 c2 c3 c9 c10 c11 c12 : Value) (w : World) (h : NodeP w v1 v2 v3 v4 il cl pl ml) :
    Calls Tryz.prog 51 #[.pointer (some p), .agg #[.int .i64 3, c1, c2, c3, .int .i64 kd, v1, v2, v3, v4, c9, c10, c11, c12]] w fun r w' => r = .returned (.bool true) ∧ Below w.heap.size w w' := by
  have HA := hid ((Below.refl w.heap.size w).alloc (Nat.le_refl _) (.cells #[.int .i64 3, c1, c2, c3, .int .i64 kd, v1, v2, v3, v4, c9, c10, c11, c12] 81))
  have HX := hid (heap_alloc_new w (.cells #[.int .i64 3, c1, c2, c3, .int .i64 kd, v1, v2, v3, v4, c9, c10, c11, c12] 81))
  have HP := hid (h.below HA.out)
  clear h
  go_enter Tryz.func51, Tryz.ntmps51
  go_wp2_with fail
  refine (lentN_any kd v1 v2 v3 v4 il cl pl ml _ HP.out).mono ?_
  generalize w.alloc (.cells #[.int .i64 3, c1, c2, c3, .int .i64 kd, v1, v2, v3, v4, c9, c10, c11, c12] 81) = w1 at *
  rintro r w2 ⟨hb2, u1, u2, u3, u4, rfl, hl⟩
  obtain ⟨a1, k1, rfl⟩ := hl.i.slice
  obtain ⟨a2, k2, rfl⟩ := hl.c.slice
  obtain ⟨a3, n3, k3, rfl⟩ := hl.p.slice
  obtain ⟨a4, k4, rfl⟩ := hl.m.slice
  have BN := (Below.refl w2.heap.size w2).alloc (Nat.le_refl _) (.cells #[.int .i64 kd, .slice a1 il.length k1, .slice a2 cl.length k2, .slice a3 n3 k3, .slice a4 ml.length k4] 79)
  have HN2 := hid (nodeB_new w2 (.int .i64 kd) (.slice a1 il.length k1) (.slice a2 cl.length k2) (.slice a3 n3 k3) (.slice a4 ml.length k4))
  have HB2 := hid (hb2.trans (BN.mono hb2.size))
  have HX2 := hid ((HB2.out.block w.heap.size (Array.getElem?_eq_some_iff.1 HX.out).1).trans HX.out)
  have HP2 := hid (HP.out.below HB2.out)
  have HL2 := hid (hl.below BN)
  clear hb2 hl HX BN
  go_wp2_with fail
  generalize w2.alloc (.cells #[.int .i64 kd, .slice a1 il.length k1, .slice a2 cl.length k2, .slice a3 n3 k3, .slice a4 ml.length k4] 79) = w2n at *
  generalize w2.heap.size = nb at *
  have HW2 := hid (siltWrite_any (.agg #[.int .i64 kd, .slice a1 il.length k1, .slice a2 cl.length k2, .slice a3 n3 k3, .slice a4 ml.length k4]) kd il cl pl ml w2n (HL2.out.node HP2.out kd))
  refine HW2.out.mono ?_
  rintro r w3 ⟨rfl, hb3⟩
  have HX3 := hid ((hb3.block w.heap.size (Array.getElem?_eq_some_iff.1 HX2.out).1).trans HX2.out)
  have HN3 := hid (HN2.out.keep hb3)
  have HP3 := hid (HP2.out.below hb3)
  have HL3 := hid (HL2.out.below hb3)
  have HB3 := hid (HB2.out.trans (hb3.mono HB2.out.size))
  have HW3 := hid (write_any (.agg #[.int .i64 kd, v1, v2, v3, v4]) kd il cl pl ml w3 (HP3.out.node kd))
  clear hb3 HL2 HX2 HB2 HW2 HP2 HN2
  generalize Pg.write kd (plain il) cl (lists pl) (plainCh ml) = wr at *
  obtain ⟨ws, we⟩ := wr
  obtain ⟨d4, d5, d6, d7, d8⟩ := op_cells HX3.out
  go_wp2_with fail
  refine HW3.out.mono ?_
  rintro r w4 ⟨rfl, hb4⟩
  have HX4 := hid ((hb4.block w.heap.size (Array.getElem?_eq_some_iff.1 HX3.out).1).trans HX3.out)
  have HN4 := hid (HN3.out.keep hb4)
  have HL4 := hid (HL3.out.below hb4)
  have HB4 := hid (HB3.out.trans (hb4.mono HB3.out.size))
  have HS4 := hid (stillN_any kd _ _ _ _ v1 v2 v3 v4 il cl pl ml w1 w4 HB4.out HP.out HL4.out)
  clear hb4 HL3 HX3 HB3 HW3 HP3 HN3 d4 d5 d6 d7 d8
  obtain ⟨d4, d5, d6, d7, d8⟩ := op_cells HX4.out
  obtain ⟨f0, f1, f2, f3, f4⟩ := nb_cells HN4.out
  go_wp2_with fail
  refine HS4.out.mono ?_
  rintro r w5 ⟨rfl, hb5⟩
  have HB5 := hid (HA.out.trans ((HB4.out.trans hb5).mono HA.out.size))
  clear hb5 HL4 HX4 HB4 HS4 d4 d5 d6 d7 d8 f0 f1 f2 f3 f4
  go_wp2_with (go_at_call 96; refine (num_any _ _).mono ?_; rintro e w' ⟨rfl, rfl⟩)
  go_ret
  exact ⟨rfl, HB5.out⟩
end Go.Proofs.YtolgpnaoaodepaaGreat
/- The walks of silt's Read: its literal, Catch around it. -/
namespace Go.Proofs.YtolgpnaoaodepaaGreat
open Go.RowKit

set_option maxHeartbeats 1000000 in
theorem readLit_any (b : Nat) (t : List UInt8) (w : World) (h1 : w.cell? ⟨b, 0, none⟩ = some (.string ⟨t.toArray⟩)) (hl : b < w.heap.size) :
    Calls Tryz.prog 82 #[.pointer (some ⟨b, 0, none⟩)] w fun r w' => NodeQ w (Pr.readR t) r w' := by
  have HN0 := hid (nodeB_new w (.int .i64 0) (.slice none 0 0) (.slice none 0 0) (.slice none 0 0) (.slice none 0 0))
  have HB0 := hid ((Below.refl w.heap.size w).alloc (Nat.le_refl _) (.cells #[.int .i64 0, .slice none 0 0, .slice none 0 0, .slice none 0 0, .slice none 0 0] 79))
  have hs0 : w.heap.size < (w.alloc (.cells #[.int .i64 0, .slice none 0 0, .slice none 0 0, .slice none 0 0, .slice none 0 0] 79)).heap.size := by simp
  go_enter Tryz.func82, Tryz.ntmps82
  go_wp2_with fail
  generalize w.alloc (.cells #[.int .i64 0, .slice none 0 0, .slice none 0 0, .slice none 0 0, .slice none 0 0] 79) = w0 at *
  refine (pagesRead_any t _).mono ?_
  rintro r w2 ⟨hb2, ⟨hn, rfl⟩ | ⟨kd, il, cl, pl, ml, v, hs, rfl, hv⟩⟩
  · have HF := hid hn
    have HB2 := hid (HB0.out.trans (hb2.mono (by omega)))
    clear hb2 hn
    unfold gaveUp
    go_wp2_with fail
    exact ⟨rfl, HB2.out, .inl ⟨HF.out, rfl⟩⟩
  · have HF := hid hs
    have HB2 := hid (HB0.out.trans (hb2.mono (by omega)))
    have HN2 := hid (HN0.out.keep hb2)
    obtain ⟨a1, c1, a2, c2, a3, c3, a4, c4, rfl⟩ := hv.shape
    have HV := hid hv
    have HEND := hid (node_end HB2.out HF.out HV.out (by omega))
    have HNF := hid (HN2.out.put (.int .i64 kd) (.slice a1 il.length c1) (.slice a2 cl.length c2) (.slice a3 pl.length c3) (.slice a4 ml.length c4))
    obtain ⟨r0, r1, r2, r3, r4, y0, y1, y2, y3, y4⟩ := HN2.out.cells
    clear hb2 hs hv
    go_wp2_with fail
    refine bodyPost_ret (v := .agg #[.int .i64 kd, .slice a1 il.length c1, .slice a2 cl.length c2, .slice a3 pl.length c3, .slice a4 ml.length c4]) ?_ rfl HEND.out
    obtain ⟨q0, q1, q2, q3, q4⟩ := nodeB_result HNF.out
    unfold put5 at q0 q1 q2 q3 q4
    simp [results, Tryz.results82, go_sem, q0, q1, q2, q3, q4]

set_option maxHeartbeats 1000000 in
theorem catchN_panicking (b : Nat) (x : Int) (older : List PanicEntry) (w : World) (hc : w.cell? ⟨b, 0, none⟩ = some (.int .i64 x)) (hz : w.frozen? ⟨b, 0, none⟩ = false) (hp : b < w.heap.size) :
    CallsD Tryz.prog 142 #[.pointer (some ⟨b, 0, none⟩)] (.panicking ({ v := .iface 148 (.agg #[]), recovered := false } :: older)) w fun e u' w' =>
      e = .returned (.tuple #[]) ∧ u' = .panicking ({ v := .iface 148 (.agg #[]), recovered := true } :: older) ∧ w' = (w.setCell ⟨b, 0, none⟩ (.int .i64 2)).alloc (.cells #[] 148) := by
  refine callsD_of_wpS Tryz.func142 rfl fun c₀ cs hu => ?_
  apply wpS_seq
  apply wpS_region
  simp [wpOpsS, go_sem, recoverD, hu, Tryz.ntmps142, Exit.thenS]
  refine wpS_of_wp ?_
  rw [show (#[Value.pointer (some ⟨b, 0, none⟩)] ++ ((Array.replicate 14 undef).setIfInBounds 3 (Value.iface 148 (Value.agg #[]))).setIfInBounds 0 (Value.iface 148 (Value.agg #[]))) = #[Value.pointer (some ⟨b, 0, none⟩), Value.iface 148 (Value.agg #[]), undef, undef, Value.iface 148 (Value.agg #[]), undef, undef, undef, undef, undef, undef, undef, undef, undef, undef] from rfl]
  generalize hQ : (fun e a' w' => bodyPostS Tryz.prog Tryz.f142 c₀ cs _ e a' _ w') = Q
  have HQ := hid hQ
  clear hQ hu
  have hta := ta
  have hf2 : (w.alloc (.cells #[] 148)).frozen? ⟨b, 0, none⟩ = false := by rw [World.frozen?_alloc_old _ _ _ (by simp; omega)]; exact hz
  go_wp2_with fail
  rw [← HQ.out]
  simp [bodyPostS, results, Tryz.results142]

theorem catchN_idle (p : Addr) (w : World) :
    CallsD Tryz.prog 142 #[.pointer (some p)] .returning w fun e u' w' => e = .returned (.tuple #[]) ∧ u' = .returning ∧ w' = w := by
  refine callsD_of_wpS Tryz.func142 rfl fun c₀ cs hu => ?_
  apply wpS_seq
  apply wpS_region
  simp [wpOpsS, go_sem, recoverD, hu, Tryz.ntmps142, Exit.thenS]
  refine wpS_of_wp ?_
  rw [show (#[Value.pointer (some p)] ++ ((Array.replicate 14 undef).setIfInBounds 3 Value.nilIface).setIfInBounds 0 Value.nilIface) = #[Value.pointer (some p), Value.nilIface, undef, undef, Value.nilIface, undef, undef, undef, undef, undef, undef, undef, undef, undef, undef] from rfl]
  generalize hQ : (fun e a' w' => bodyPostS Tryz.prog Tryz.f142 c₀ cs _ e a' _ w') = Q
  have HQ := hid hQ
  have HU := hid hu
  clear hQ hu
  go_wp2_with fail
  rw [← HQ.out]
  have hu := HU.out
  cases c₀
  simp_all [bodyPostS, results, Tryz.results142]

def ReadQ (w : World) (o : Option Pr.NodeT) (r : Ending) (w' : World) : Prop := Below w.heap.size w w' ∧ ((o = none ∧ r = .returned (.tuple #[.agg #[.int .i64 0, .slice none 0 0, .slice none 0 0, .slice none 0 0, .slice none 0 0], .int .i64 2])) ∨ ∃ kd il cl pl ml v, o = some (kd, plain il, cl, lists pl, plainCh ml) ∧ r = .returned (.tuple #[v, .int .i64 0]) ∧ NodeV w.heap.size w' v kd il cl pl ml)
theorem NodeV.set {B : Nat} {w : World} {v : Value} {kd : Int} {il : List (ByteArray × ByteArray)} {cl : List Nat} {pl : List ByteArray} {ml : List (Int × ByteArray × ByteArray)} (h : NodeV B w v kd il cl pl ml) {b i : Nat} (hb : b < B) (u : Value) : NodeV B (w.setCell ⟨b, i, none⟩ u) v kd il cl pl ml := by
  obtain ⟨v1, v2, v3, v4, e, h1, h2, h3, h4, b1⟩ := h
  exact ⟨v1, v2, v3, v4, e, row_set h1 hb _, row_set h2 hb _, row_set h3 hb _, row_set h4 hb _, b1⟩
set_option maxHeartbeats 1000000 in
theorem readCatch_any (b : Nat) (t : List UInt8) (w : World) (h1 : w.cell? ⟨b, 0, none⟩ = some (.string ⟨t.toArray⟩)) (hl1 : b < w.heap.size) :
    Calls Tryz.prog 81 #[.func (.func 82) #[] #[.pointer (some ⟨b, 0, none⟩)]] w fun r w' => ReadQ w (Pr.readR t) r w' := by
  have hmf : ∀ (fn : Fn) (first cap : Array Value) (w : World), (Instr.makeFunc fn first cap).run Tryz.prog w = .ok (.func fn first cap) w := fun _ _ _ _ => rfl
  have HC := hid (readLit_any b t ((w.alloc (.cells #[.int .i64 0, .slice none 0 0, .slice none 0 0, .slice none 0 0, .slice none 0 0] 79)).alloc (.cells #[.int .i64 0] 36)) (by rw [World.cell?_alloc_past _ _ _ (by simp; omega), World.cell?_alloc_past _ _ _ hl1]; exact h1) (by simp; omega))
  have BA := (Below.refl w.heap.size w).alloc (Nat.le_refl _) (.cells #[.int .i64 0, .slice none 0 0, .slice none 0 0, .slice none 0 0, .slice none 0 0] 79)
  have HN := hid (nodeB_new w (.int .i64 0) (.slice none 0 0) (.slice none 0 0) (.slice none 0 0) (.slice none 0 0))
  have HN0 := hid (HN.out.keep ((Below.refl _ _).alloc (Nat.le_refl _) (.cells #[.int .i64 0] 36)))
  have HB0 := hid (BA.alloc (by simp) (.cells #[.int .i64 0] 36))
  have HE0 : Hid (((w.alloc (.cells #[.int .i64 0, .slice none 0 0, .slice none 0 0, .slice none 0 0, .slice none 0 0] 79)).alloc (.cells #[.int .i64 0] 36)).heap[w.heap.size + 1]? = some (.cells #[.int .i64 0] 36 (0, 0))) := by
    show _ = _
    rw [show w.heap.size + 1 = (w.alloc (.cells #[.int .i64 0, .slice none 0 0, .slice none 0 0, .slice none 0 0, .slice none 0 0] 79)).heap.size by simp]
    exact heap_alloc_new _ _
  have hs0 : w.heap.size + 2 ≤ ((w.alloc (.cells #[.int .i64 0, .slice none 0 0, .slice none 0 0, .slice none 0 0, .slice none 0 0] 79)).alloc (.cells #[.int .i64 0] 36)).heap.size := by simp
  clear h1 hl1 BA HN
  go_enter_defers Tryz.func81, Tryz.ntmps81
  go_wp2_with fail
  generalize (w.alloc (.cells #[.int .i64 0, .slice none 0 0, .slice none 0 0, .slice none 0 0, .slice none 0 0] 79)).alloc (.cells #[.int .i64 0] 36) = w0 at *
  refine HC.out.mono ?_
  rintro r w1 ⟨hb1, hcase⟩
  have hblk : w1.heap[w.heap.size + 1]? = some (.cells #[.int .i64 0] 36 (0, 0)) := (hb1.block _ (by omega)).trans HE0.out
  have hce : w1.cell? ⟨w.heap.size + 1, 0, none⟩ = some (.int .i64 0) := by unfold World.cell?; rw [hblk]; rfl
  have hfz : w1.frozen? ⟨w.heap.size + 1, 0, none⟩ = false := by unfold World.frozen?; rw [hblk]; rfl
  have hlt : w.heap.size + 1 < w1.heap.size := (Array.getElem?_eq_some_iff.1 hblk).1
  have HB1 := hid (HB0.out.trans (hb1.mono (by omega)))
  have HN1 := hid (HN0.out.keep hb1)
  have HCS := hid hcase
  clear hb1 hblk hcase HC
  rcases HCS.out with ⟨hn, rfl⟩ | ⟨kd, il, cl, pl, ml, v, hs, rfl, hv⟩
  · have HF := hid hn
    clear hn HCS
    unfold gaveUp
    go_wp2_with fail
    refine leaves_cons (f := 142) (args := #[.pointer (some ⟨w.heap.size + 1, 0, none⟩)]) (by simp) (by simp [go_sem]) ?_
    refine (catchN_panicking (w.heap.size + 1) 0 [] _ hce hfz hlt).mono ?_
    rintro e u' w'' ⟨rfl, rfl, rfl⟩
    have HBF := hid ((HB1.out.setCell (p := ⟨w.heap.size + 1, 0, none⟩) (by simp) (.int .i64 2)).alloc (by simp; omega) (.cells #[] 148))
    have HNF := hid ((HN1.out.but (but_set (w.heap.size + 1) 0 w1 (.int .i64 2)) (by omega)).keep ((Below.refl _ _).alloc (Nat.le_refl _) (.cells #[] 148)))
    have hx : ((w1.setCell ⟨w.heap.size + 1, 0, none⟩ (.int .i64 2)).alloc (.cells #[] 148)).cell? ⟨w.heap.size + 1, 0, none⟩ = some (.int .i64 2) := by
      rw [World.cell?_alloc_past _ _ _ (by simp; omega)]; exact World.cell?_setCell_same _ _ _ hce
    obtain ⟨q0, q1, q2, q3, q4⟩ := nodeB_result HNF.out
    simp [Leaves, settle, results, Tryz.results81, go_sem, hx, q0, q1, q2, q3, q4]
    exact ⟨HBF.out, .inl ⟨HF.out, rfl⟩⟩
  · have HF := hid hs
    obtain ⟨a1, c1, a2, c2, a3, c3, a4, c4, rfl⟩ := hv.shape
    have HV := hid hv
    obtain ⟨r0, r1, r2, r3, r4, y0, y1, y2, y3, y4⟩ := HN1.out.cells
    clear hs hv HCS
    have HB2 := hid (below_put HB1.out (Nat.le_refl _) (.int .i64 kd) (.slice a1 il.length c1) (.slice a2 cl.length c2) (.slice a3 pl.length c3) (.slice a4 ml.length c4))
    have HN2 := hid (HN1.out.put (.int .i64 kd) (.slice a1 il.length c1) (.slice a2 cl.length c2) (.slice a3 pl.length c3) (.slice a4 ml.length c4))
    have HV2 := hid (HV.out.put (b := w.heap.size) (by omega) (.int .i64 kd) (.slice a1 il.length c1) (.slice a2 cl.length c2) (.slice a3 pl.length c3) (.slice a4 ml.length c4))
    have hc2 : (put5 w1 w.heap.size (.int .i64 kd) (.slice a1 il.length c1) (.slice a2 cl.length c2) (.slice a3 pl.length c3) (.slice a4 ml.length c4)).cell? ⟨w.heap.size + 1, 0, none⟩ = some (.int .i64 0) := by
      unfold put5
      rw [← hce]
      unfold World.cell?
      rw [Below.heap_setCell _ _ _ _ (by simp), Below.heap_setCell _ _ _ _ (by simp), Below.heap_setCell _ _ _ _ (by simp), Below.heap_setCell _ _ _ _ (by simp), Below.heap_setCell _ _ _ _ (by simp)]
    go_wp2_with fail
    obtain ⟨w2, hw2⟩ : ∃ w2, w2 = put5 w1 w.heap.size (.int .i64 kd) (.slice a1 il.length c1) (.slice a2 cl.length c2) (.slice a3 pl.length c3) (.slice a4 ml.length c4) := ⟨_, rfl⟩
    rw [← hw2] at HB2 HN2 HV2 hc2
    unfold put5 at hw2
    rw [← hw2]
    clear hw2
    refine leaves_cons (f := 142) (args := #[.pointer (some ⟨w.heap.size + 1, 0, none⟩)]) (by simp) (by simp [go_sem]) ?_
    refine (catchN_idle ⟨w.heap.size + 1, 0, none⟩ _).mono ?_
    rintro e u' w'' ⟨rfl, rfl, rfl⟩
    have hx : (w2.setCell ⟨w.heap.size + 1, 0, none⟩ (.int .i64 0)).cell? ⟨w.heap.size + 1, 0, none⟩ = some (.int .i64 0) := World.cell?_setCell_same _ _ _ hc2
    have HBF := hid (HB2.out.setCell (p := ⟨w.heap.size + 1, 0, none⟩) (by simp) (.int .i64 0))
    have HNF := hid (HN2.out.but (but_set (w.heap.size + 1) 0 w2 (.int .i64 0)) (by omega))
    have HVF := hid ((HV2.out.set (b := w.heap.size + 1) (i := 0) (by omega) (.int .i64 0)).shrink (C := w.heap.size) (by omega))
    obtain ⟨q0, q1, q2, q3, q4⟩ := nodeB_result HNF.out
    simp [Leaves, settle, results, Tryz.results81, go_sem, hx, q0, q1, q2, q3, q4]
    exact ⟨HBF.out, .inr ⟨kd, il, cl, pl, ml, _, HF.out, rfl, HVF.out⟩⟩

set_option maxHeartbeats 1000000 in
theorem siltRead_any (t : List UInt8) (w : World) :
    Calls Tryz.prog 46 #[.string ⟨t.toArray⟩] w fun r w' => ReadQ w (Pr.readR t) r w' := by
  have hmf : ∀ (fn : Fn) (first cap : Array Value) (w : World), (Instr.makeFunc fn first cap).run Tryz.prog w = .ok (.func fn first cap) w := fun _ _ _ _ => rfl
  have HC := hid (readCatch_any w.heap.size t ((w.alloc (.cells #[.string ⟨t.toArray⟩] 9)).alloc (.cells #[.int .i64 0, .slice none 0 0, .slice none 0 0, .slice none 0 0, .slice none 0 0] 79)) (by rw [World.cell?_alloc_past _ _ _ (by simp)]; exact World.cell?_alloc_at _ _ _ 0 (by simp)) (by simp; omega))
  have BA := (Below.refl w.heap.size w).alloc (Nat.le_refl _) (.cells #[.string ⟨t.toArray⟩] 9)
  have HB0 := hid (BA.alloc (by simp) (.cells #[.int .i64 0, .slice none 0 0, .slice none 0 0, .slice none 0 0, .slice none 0 0] 79))
  have HN0 : Hid (NodeB ((w.alloc (.cells #[.string ⟨t.toArray⟩] 9)).alloc (.cells #[.int .i64 0, .slice none 0 0, .slice none 0 0, .slice none 0 0, .slice none 0 0] 79)) (w.heap.size + 1) (.int .i64 0) (.slice none 0 0) (.slice none 0 0) (.slice none 0 0) (.slice none 0 0)) := by
    have := nodeB_new (w.alloc (.cells #[.string ⟨t.toArray⟩] 9)) (.int .i64 0) (.slice none 0 0) (.slice none 0 0) (.slice none 0 0) (.slice none 0 0)
    rw [show (w.alloc (.cells #[.string ⟨t.toArray⟩] 9)).heap.size = w.heap.size + 1 by simp] at this
    exact this
  have hs0 : w.heap.size + 2 ≤ ((w.alloc (.cells #[.string ⟨t.toArray⟩] 9)).alloc (.cells #[.int .i64 0, .slice none 0 0, .slice none 0 0, .slice none 0 0, .slice none 0 0] 79)).heap.size := by simp
  clear BA
  go_enter Tryz.func46, Tryz.ntmps46
  go_wp2_with fail
  generalize (w.alloc (.cells #[.string ⟨t.toArray⟩] 9)).alloc (.cells #[.int .i64 0, .slice none 0 0, .slice none 0 0, .slice none 0 0, .slice none 0 0] 79) = w0 at *
  refine HC.out.mono ?_
  rintro r w1 ⟨hb1, hcase⟩
  have HB1 := hid (HB0.out.trans (hb1.mono (by omega)))
  have HN1 := hid (HN0.out.keep hb1)
  have HCS := hid hcase
  obtain ⟨r0, r1, r2, r3, r4, y0, y1, y2, y3, y4⟩ := HN1.out.cells
  clear hb1 hcase HC
  rcases HCS.out with ⟨hn, rfl⟩ | ⟨kd, il, cl, pl, ml, v, hs, rfl, hv⟩
  · have HF := hid hn
    have HBF := hid (below_put HB1.out (b := w.heap.size + 1) (by omega) (.int .i64 0) (.slice none 0 0) (.slice none 0 0) (.slice none 0 0) (.slice none 0 0))
    have HNF := hid (HN1.out.put (.int .i64 0) (.slice none 0 0) (.slice none 0 0) (.slice none 0 0) (.slice none 0 0))
    clear hn HCS
    go_wp2_with fail
    refine bodyPost_ret (v := .tuple #[.agg #[.int .i64 0, .slice none 0 0, .slice none 0 0, .slice none 0 0, .slice none 0 0], .int .i64 2]) ?_ rfl ⟨HBF.out, .inl ⟨HF.out, rfl⟩⟩
    obtain ⟨q0, q1, q2, q3, q4⟩ := nodeB_result HNF.out
    unfold put5 at q0 q1 q2 q3 q4
    simp [results, Tryz.results46, go_sem, q0, q1, q2, q3, q4]
  · have HF := hid hs
    obtain ⟨a1, c1, a2, c2, a3, c3, a4, c4, rfl⟩ := hv.shape
    have HBF := hid (below_put HB1.out (b := w.heap.size + 1) (by omega) (.int .i64 kd) (.slice a1 il.length c1) (.slice a2 cl.length c2) (.slice a3 pl.length c3) (.slice a4 ml.length c4))
    have HNF := hid (HN1.out.put (.int .i64 kd) (.slice a1 il.length c1) (.slice a2 cl.length c2) (.slice a3 pl.length c3) (.slice a4 ml.length c4))
    have HVF := hid ((hv.put (b := w.heap.size + 1) (by omega) (.int .i64 kd) (.slice a1 il.length c1) (.slice a2 cl.length c2) (.slice a3 pl.length c3) (.slice a4 ml.length c4)).shrink (C := w.heap.size) (by omega))
    clear hs hv HCS
    go_wp2_with fail
    refine bodyPost_ret (v := .tuple #[.agg #[.int .i64 kd, .slice a1 il.length c1, .slice a2 cl.length c2, .slice a3 pl.length c3, .slice a4 ml.length c4], .int .i64 0]) ?_ rfl ⟨HBF.out, .inr ⟨kd, il, cl, pl, ml, _, HF.out, rfl, HVF.out⟩⟩
    obtain ⟨q0, q1, q2, q3, q4⟩ := nodeB_result HNF.out
    unfold put5 at q0 q1 q2 q3 q4
    simp [results, Tryz.results46, go_sem, q0, q1, q2, q3, q4]
end Go.Proofs.YtolgpnaoaodepaaGreat
