/- The walks of pages' readEither and Read. -/
import Derived.Test.YtolgpnaoaodepaaWalkAI
namespace Go.Proofs.Ytolgpnaoaodepaa.Pr
open Pg
abbrev NodeT := Int × List (List UInt8 × List UInt8) × List Nat × List (List UInt8) × List (Int × List UInt8 × List UInt8)
def eitherR (t : List UInt8) : Option NodeT := if t.take 3 = [83, 50, 73] then brO (branchR t) else lfO (leafR t)
def wellT (n : NodeT) : Bool := well n.1 n.2.1 (n.2.2.1.map Int.ofNat) n.2.2.2.1 n.2.2.2.2
def pageT (n : NodeT) : List UInt8 := page n.1 n.2.1 (n.2.2.1.map Int.ofNat) n.2.2.2.1 n.2.2.2.2
def readR (t : List UInt8) : Option NodeT := (eitherR t).bind fun n => if wellT n = true then (if pageT n = t then some n else none) else none
theorem readR_is {t : List UInt8} {n : NodeT} (h : readR t = some n) : wellT n = true ∧ pageT n = t := by
  unfold readR at h
  rw [Option.bind_eq_some_iff] at h
  obtain ⟨m, _, h2⟩ := h
  by_cases h3 : wellT m = true
  · rw [if_pos h3] at h2
    by_cases h4 : pageT m = t
    · rw [if_pos h4] at h2; simp only [Option.some.injEq] at h2; subst h2; exact ⟨h3, h4⟩
    · rw [if_neg h4] at h2; simp at h2
  · rw [if_neg h3] at h2; simp at h2
end Go.Proofs.Ytolgpnaoaodepaa.Pr
namespace Go.Proofs.Ytolgpnaoaodepaa
open Go.RowKit
theorem NodeV.isNode {B : Nat} {w : World} {v : Value} {kd : Int} {il : List (ByteArray × ByteArray)} {cl : List Nat} {pl : List ByteArray} {ml : List (Int × ByteArray × ByteArray)} (h : NodeV B w v kd il cl pl ml) : IsNode w v kd il (cl.map Int.ofNat) pl ml := by
  obtain ⟨v1, v2, v3, v4, e, h1, h2, h3, h4, b1, b2, b3, b4⟩ := h
  refine ⟨v1, v2, v3, v4, e, ownsI_items h1, by omega, ?_, ?_, h4.isChs (by omega)⟩
  · have := ownsRow.isRow h2 (by omega)
    rw [List.length_map, List.map_map]
    exact this
  · exact ownsRow.isRow h3 (by omega)
theorem NodeV.put {B : Nat} {w : World} {v : Value} {kd : Int} {il : List (ByteArray × ByteArray)} {cl : List Nat} {pl : List ByteArray} {ml : List (Int × ByteArray × ByteArray)} (h : NodeV B w v kd il cl pl ml) {b : Nat} (hb : b < B) (u0 u1 u2 u3 u4 : Value) : NodeV B (put5 w b u0 u1 u2 u3 u4) v kd il cl pl ml := by
  obtain ⟨v1, v2, v3, v4, e, h1, h2, h3, h4, b1⟩ := h
  exact ⟨v1, v2, v3, v4, e, row_put h1 hb _ _ _ _ _, row_put h2 hb _ _ _ _ _, row_put h3 hb _ _ _ _ _, row_put h4 hb _ _ _ _ _, b1⟩
theorem NodeV.below {B : Nat} {w w' : World} {v : Value} {kd : Int} {il : List (ByteArray × ByteArray)} {cl : List Nat} {pl : List ByteArray} {ml : List (Int × ByteArray × ByteArray)} (h : NodeV B w v kd il cl pl ml) (hb : Below w.heap.size w w') : NodeV B w' v kd il cl pl ml := by
  obtain ⟨v1, v2, v3, v4, e, h1, h2, h3, h4, b1⟩ := h
  exact ⟨v1, v2, v3, v4, e, row_below h1 hb (Nat.le_refl _), row_below h2 hb (Nat.le_refl _), row_below h3 hb (Nat.le_refl _), row_below h4 hb (Nat.le_refl _), b1⟩
theorem NodeV.shrink {B C : Nat} {w : World} {v : Value} {kd : Int} {il : List (ByteArray × ByteArray)} {cl : List Nat} {pl : List ByteArray} {ml : List (Int × ByteArray × ByteArray)} (h : NodeV B w v kd il cl pl ml) (hc : C ≤ B) : NodeV C w v kd il cl pl ml := by
  obtain ⟨v1, v2, v3, v4, e, h1, h2, h3, h4, b1⟩ := h
  exact ⟨v1, v2, v3, v4, e, row_shrink h1 hc, row_shrink h2 hc, row_shrink h3 hc, row_shrink h4 hc, b1⟩
theorem NodeV.shape {B : Nat} {w : World} {v : Value} {kd : Int} {il : List (ByteArray × ByteArray)} {cl : List Nat} {pl : List ByteArray} {ml : List (Int × ByteArray × ByteArray)} (h : NodeV B w v kd il cl pl ml) : ∃ a1 c1 a2 c2 a3 c3 a4 c4, v = .agg #[.int .i64 kd, .slice a1 il.length c1, .slice a2 cl.length c2, .slice a3 pl.length c3, .slice a4 ml.length c4] := by
  obtain ⟨v1, v2, v3, v4, e, h1, h2, h3, h4, b1⟩ := h
  obtain ⟨a1, c1, rfl⟩ := rowShape h1
  obtain ⟨a2, c2, rfl⟩ := rowShape h2
  obtain ⟨a3, c3, rfl⟩ := rowShape h3
  obtain ⟨a4, c4, rfl⟩ := rowShape h4
  exact ⟨a1, c1, a2, c2, a3, c3, a4, c4, e⟩

set_option maxHeartbeats 1000000 in
theorem prefixLite (t : List UInt8) (w : World) :
    Calls Try.prog 78 #[.string ⟨t.toArray⟩, .string ⟨#[83, 50, 73]⟩] w fun r w' => r = .returned (.bool (decide (t.take 3 = [83, 50, 73]))) ∧ w' = w := by
  have hz := size_mk t
  generalize hres : decide (t.take 3 = [83, 50, 73]) = res
  have HR := hid hres
  clear hres
  go_enter Try.func78, Try.ntmps78
  by_cases h3 : 3 ≤ t.length
  · have hi : (3 : Int) ≤ (t.length : Int) := by omega
    have he := ext_take t 3
    go_wp2_with fail
    go_ret
    refine ⟨?_, rfl⟩
    rw [← HR.out]
    show Ending.returned (.bool (t.take 3 == [83, 50, 73])) = _
    rw [show (t.take 3 == [83, 50, 73]) = decide (t.take 3 = [83, 50, 73]) from Bool.eq_iff_iff.2 (by simp)]
  · have hi : ¬ (3 : Int) ≤ (t.length : Int) := by omega
    have HF : Hid (res = false) := by
      show _ = _; rw [← HR.out]; exact decide_eq_false fun e => by have := congrArg List.length e; rw [List.length_take] at this; simp at this; omega
    go_wp2_with fail
    go_ret
    exact ⟨by rw [HF.out]; rfl, rfl⟩
set_option maxHeartbeats 1000000 in
theorem prefix_any (t : List UInt8) (w : World) :
    Calls Try.prog 61 #[.string ⟨t.toArray⟩, .string ⟨#[83, 50, 73]⟩] w fun r w' => r = .returned (.bool (decide (t.take 3 = [83, 50, 73]))) ∧ w' = w := by
  have HC := hid (prefixLite t w)
  generalize decide (t.take 3 = [83, 50, 73]) = res at *
  go_enter Try.func61, Try.ntmps61
  go_wp2_with fail
  refine HC.out.mono ?_
  rintro r w1 ⟨rfl, rfl⟩
  go_wp2_with fail
  go_ret
  exact ⟨rfl, rfl⟩
/-- The end of a function that gives a node's value on, by its result's cell. -/
theorem node_end {w w1 : World} {o : Option Pr.NodeT} {kd : Int} {il : List (ByteArray × ByteArray)} {cl : List Nat} {pl : List ByteArray} {ml : List (Int × ByteArray × ByteArray)} {a1 a2 a3 a4 : Value} {B : Nat}
    (hb : Below w.heap.size w w1) (ho : o = some (kd, plain il, cl, lists pl, plainCh ml)) (hn : NodeV B w1 (.agg #[.int .i64 kd, a1, a2, a3, a4]) kd il cl pl ml) (hB : w.heap.size < B) :
    NodeQ w o (.returned (.agg #[.int .i64 kd, a1, a2, a3, a4])) (put5 w1 w.heap.size (.int .i64 kd) a1 a2 a3 a4) :=
  ⟨below_put hb (Nat.le_refl _) _ _ _ _ _, .inr ⟨kd, il, cl, pl, ml, _, ho, rfl, (hn.put hB _ _ _ _ _).shrink (Nat.le_of_lt hB)⟩⟩

set_option maxHeartbeats 2000000 in
set_option maxRecDepth 20000 in
theorem readEither_any (t : List UInt8) (w : World) :
    Calls Try.prog 42 #[.string ⟨t.toArray⟩] w fun r w' => NodeQ w (Pr.eitherR t) r w' := by
  go_enter Try.func42, Try.ntmps42
  go_wp2_with fail
  have HN0 := hid (nodeB_new w (.int .i64 0) (.slice none 0 0) (.slice none 0 0) (.slice none 0 0) (.slice none 0 0))
  have HB0 := hid ((Below.refl w.heap.size w).alloc (Nat.le_refl _) (.cells #[.int .i64 0, .slice none 0 0, .slice none 0 0, .slice none 0 0, .slice none 0 0] 34))
  have hs0 : w.heap.size < (w.alloc (.cells #[.int .i64 0, .slice none 0 0, .slice none 0 0, .slice none 0 0, .slice none 0 0] 34)).heap.size := by simp
  generalize w.alloc (.cells #[.int .i64 0, .slice none 0 0, .slice none 0 0, .slice none 0 0, .slice none 0 0] 34) = w0 at *
  refine (prefix_any t _).mono ?_
  rintro r w1 ⟨rfl, rfl⟩
  by_cases hp : t.take 3 = [83, 50, 73]
  · have HE : Hid (Pr.eitherR t = brO (Pr.branchR t)) := by show _ = _; unfold Pr.eitherR; rw [if_pos hp]
    rw [decide_eq_true hp]
    clear hp
    go_wp2_with fail
    refine (readBranch_any t _).mono ?_
    rintro r w2 ⟨hb2, ⟨hn, rfl⟩ | ⟨kd, il, cl, pl, ml, v, hs, rfl, hv⟩⟩
    · have HF : Hid (Pr.eitherR t = none) := HE.out.trans hn
      have HB2 := hid (HB0.out.trans (hb2.mono (by omega)))
      clear hb2 hn
      unfold gaveUp
      go_wp2_with fail
      exact ⟨rfl, HB2.out, .inl ⟨HF.out, rfl⟩⟩
    · have HF := hid (HE.out.trans hs)
      have HB2 := hid (HB0.out.trans (hb2.mono (by omega)))
      have HN2 := hid (HN0.out.keep hb2)
      obtain ⟨a1, c1, a2, c2, a3, c3, a4, c4, rfl⟩ := hv.shape
      have HV := hid hv
      have HEND := hid (node_end HB2.out HF.out HV.out (by omega))
      have HNF := hid (HN2.out.put (.int .i64 kd) (.slice a1 il.length c1) (.slice a2 cl.length c2) (.slice a3 pl.length c3) (.slice a4 ml.length c4))
      obtain ⟨r0, r1, r2, r3, r4, y0, y1, y2, y3, y4⟩ := HN2.out.cells
      clear hb2 hs hv
      go_wp2_with fail
      refine bodyPost_ret (v := .agg #[.int .i64 kd, .slice a1 il.length c1, .slice a2 cl.length c2, .slice a3 pl.length c3, .slice a4 ml.length c4]) ?_ rfl HEND.out
      obtain ⟨q0, q1, q2, q3, q4⟩ := nodeB_result HNF.out
      unfold put5 at q0 q1 q2 q3 q4
      simp [results, Try.results42, go_sem, q0, q1, q2, q3, q4]
  · have HE : Hid (Pr.eitherR t = lfO (Pr.leafR t)) := by show _ = _; unfold Pr.eitherR; rw [if_neg hp]
    rw [decide_eq_false hp]
    clear hp
    go_wp2_with fail
    refine (readLeaf_any t _).mono ?_
    rintro r w2 ⟨hb2, ⟨hn, rfl⟩ | ⟨kd, il, cl, pl, ml, v, hs, rfl, hv⟩⟩
    · have HF : Hid (Pr.eitherR t = none) := HE.out.trans hn
      have HB2 := hid (HB0.out.trans (hb2.mono (by omega)))
      clear hb2 hn
      unfold gaveUp
      go_wp2_with fail
      exact ⟨rfl, HB2.out, .inl ⟨HF.out, rfl⟩⟩
    · have HF := hid (HE.out.trans hs)
      have HB2 := hid (HB0.out.trans (hb2.mono (by omega)))
      have HN2 := hid (HN0.out.keep hb2)
      obtain ⟨a1, c1, a2, c2, a3, c3, a4, c4, rfl⟩ := hv.shape
      have HV := hid hv
      have HEND := hid (node_end HB2.out HF.out HV.out (by omega))
      have HNF := hid (HN2.out.put (.int .i64 kd) (.slice a1 il.length c1) (.slice a2 cl.length c2) (.slice a3 pl.length c3) (.slice a4 ml.length c4))
      obtain ⟨r0, r1, r2, r3, r4, y0, y1, y2, y3, y4⟩ := HN2.out.cells
      clear hb2 hs hv
      go_wp2_with fail
      refine bodyPost_ret (v := .agg #[.int .i64 kd, .slice a1 il.length c1, .slice a2 cl.length c2, .slice a3 pl.length c3, .slice a4 ml.length c4]) ?_ rfl HEND.out
      obtain ⟨q0, q1, q2, q3, q4⟩ := nodeB_result HNF.out
      unfold put5 at q0 q1 q2 q3 q4
      simp [results, Try.results42, go_sem, q0, q1, q2, q3, q4]

set_option maxHeartbeats 2000000 in
set_option maxRecDepth 20000 in
theorem pagesRead_any (t : List UInt8) (w : World) :
    Calls Try.prog 28 #[.string ⟨t.toArray⟩] w fun r w' => NodeQ w (Pr.readR t) r w' := by
  go_enter Try.func28, Try.ntmps28
  go_wp2_with fail
  have HN0 := hid (nodeB_new w (.int .i64 0) (.slice none 0 0) (.slice none 0 0) (.slice none 0 0) (.slice none 0 0))
  have HB0 := hid ((Below.refl w.heap.size w).alloc (Nat.le_refl _) (.cells #[.int .i64 0, .slice none 0 0, .slice none 0 0, .slice none 0 0, .slice none 0 0] 34))
  have hs0 : w.heap.size < (w.alloc (.cells #[.int .i64 0, .slice none 0 0, .slice none 0 0, .slice none 0 0, .slice none 0 0] 34)).heap.size := by simp
  generalize w.alloc (.cells #[.int .i64 0, .slice none 0 0, .slice none 0 0, .slice none 0 0, .slice none 0 0] 34) = w0 at *
  refine (readEither_any t _).mono ?_
  rintro r w1 ⟨hb1, ⟨hn, rfl⟩ | ⟨kd, il, cl, pl, ml, v, hs, rfl, hv⟩⟩
  · have HF : Hid (Pr.readR t = none) := by show _ = _; unfold Pr.readR; rw [hn]; rfl
    have HB1 := hid (HB0.out.trans (hb1.mono (by omega)))
    clear hb1 hn
    unfold gaveUp
    go_wp2_with fail
    exact ⟨rfl, HB1.out, .inl ⟨HF.out, rfl⟩⟩
  have HF : Hid (Pr.readR t = if Pg.well kd (plain il) (cl.map Int.ofNat) (lists pl) (plainCh ml) = true then (if Pg.page kd (plain il) (cl.map Int.ofNat) (lists pl) (plainCh ml) = t then some (kd, plain il, cl, lists pl, plainCh ml) else none) else none) := by
    show _ = _; unfold Pr.readR; rw [hs]; rfl
  have HB1 := hid (HB0.out.trans (hb1.mono (by omega)))
  have HN1 := hid (HN0.out.keep hb1)
  obtain ⟨a1, c1, a2, c2, a3, c3, a4, c4, rfl⟩ := hv.shape
  have BA := (Below.refl w1.heap.size w1).alloc (Nat.le_refl _) (.cells #[.int .i64 kd, .slice a1 il.length c1, .slice a2 cl.length c2, .slice a3 pl.length c3, .slice a4 ml.length c4] 34)
  have HM2 := hid (nodeB_new w1 (.int .i64 kd) (.slice a1 il.length c1) (.slice a2 cl.length c2) (.slice a3 pl.length c3) (.slice a4 ml.length c4))
  have HB2 := hid (HB1.out.trans (BA.mono (by have := hb1.size; omega)))
  have HN2 := hid (HN1.out.keep BA)
  have HV2 := hid (hv.below BA)
  have hs1 := hb1.size
  have hs2 : w1.heap.size < (w1.alloc (.cells #[.int .i64 kd, .slice a1 il.length c1, .slice a2 cl.length c2, .slice a3 pl.length c3, .slice a4 ml.length c4] 34)).heap.size := by simp
  clear hb1 hs hv BA HB1 HN1 HN0 HB0
  have HIN := hid HV2.out.isNode
  go_wp2_with fail
  generalize w1.alloc (.cells #[.int .i64 kd, .slice a1 il.length c1, .slice a2 cl.length c2, .slice a3 pl.length c3, .slice a4 ml.length c4] 34) = w2 at *
  generalize w1.heap.size = nb at *
  refine (isNode_any _ kd il (cl.map Int.ofNat) pl ml _ HIN.out).mono ?_
  rintro r w3 ⟨rfl, hb3⟩
  have HB3 := hid (HB2.out.trans (hb3.mono (by omega)))
  have HN3 := hid (HN2.out.keep hb3)
  have HM3 := hid (HM2.out.keep hb3)
  have HV3 := hid (HV2.out.below hb3)
  have HIN3 := hid (HIN.out.below hb3)
  have hs3 := hb3.size
  obtain ⟨m0, m1, m2, m3, m4, -⟩ := HM3.out.cells
  clear hb3 HB2 HN2 HM2 HV2 HIN
  cases hw : Pg.well kd (plain il) (cl.map Int.ofNat) (lists pl) (plainCh ml)
  · have HF2 : Hid (Pr.readR t = none) := by show _ = _; rw [HF.out, hw]; rfl
    clear hw
    go_wp2_with fail
    refine (unless_no _).mono ?_
    rintro r w4 ⟨rfl, rfl⟩
    unfold gaveUp
    go_wp2_with fail
    exact ⟨rfl, HB3.out, .inl ⟨HF2.out, rfl⟩⟩
  · have HW := hid hw
    rw [hw, if_pos rfl] at HF
    clear hw
    go_wp2_with fail
    refine (pagesWrite_any _ kd il (cl.map Int.ofNat) pl ml _ HIN3.out HW.out).mono ?_
    rintro r w4 ⟨rfl, hb4⟩
    have HB4 := hid (HB3.out.trans (hb4.mono (by omega)))
    have HN4 := hid (HN3.out.keep hb4)
    have HM4 := hid (HM3.out.keep hb4)
    have HV4 := hid (HV3.out.below hb4)
    clear hb4 m0 m1 m2 m3 m4
    generalize Pg.page kd (plain il) (cl.map Int.ofNat) (lists pl) (plainCh ml) = pg at *
    obtain ⟨m0, m1, m2, m3, m4, -⟩ := HM4.out.cells
    obtain ⟨r0, r1, r2, r3, r4, y0, y1, y2, y3, y4⟩ := HN4.out.cells
    by_cases he : pg = t
    · rw [if_pos he] at HF
      subst he
      have HEND := hid (node_end HB4.out HF.out HV4.out (by omega))
      have HNF := hid (HN4.out.put (.int .i64 kd) (.slice a1 il.length c1) (.slice a2 cl.length c2) (.slice a3 pl.length c3) (.slice a4 ml.length c4))
      go_wp2_with fail
      refine (unless_yes _).mono ?_
      rintro r w5 ⟨rfl, rfl⟩
      go_wp2_with fail
      refine bodyPost_ret (v := .agg #[.int .i64 kd, .slice a1 il.length c1, .slice a2 cl.length c2, .slice a3 pl.length c3, .slice a4 ml.length c4]) ?_ rfl HEND.out
      obtain ⟨q0, q1, q2, q3, q4⟩ := nodeB_result HNF.out
      unfold put5 at q0 q1 q2 q3 q4
      simp [results, Try.results28, go_sem, q0, q1, q2, q3, q4]
    · rw [if_neg he] at HF
      have hne : (pg == t) = false := by simpa using he
      go_wp2_with fail
      refine (unless_no _).mono ?_
      rintro r w5 ⟨rfl, rfl⟩
      unfold gaveUp
      go_wp2_with fail
      exact ⟨rfl, HB4.out, .inl ⟨HF.out, rfl⟩⟩
end Go.Proofs.Ytolgpnaoaodepaa
