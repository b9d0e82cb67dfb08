/- The walk of the reference's Renew. -/
import Derived.Test.YtolgpnaoaodepaaGreatRefWm
import Derived.Test.YtolgpnaoaodepaaGreatWalkBCm
import Derived.Test.YtolgpnaoaodepaaGreatLawUm
import Derived.Test.YtolgpnaoaodepaaGreatLawYm
namespace Go.Proofs.YtolgpnaoaodepaaGreat
open Go.RowKit
theorem renew_read {t : List UInt8} {n : Pr.NodeT} (h : Pr.readR t = some n) : Pr.renewR t = some t := by
  obtain ⟨h1, h2⟩ := Pr.readR_is h
  have ht : t.take 2 ≠ [83, 49] := by
    rw [← h2]
    by_cases hk : n.1 = 1
    · obtain ⟨l, rfl, -⟩ := Pr.well_leaf h1 hk
      rw [Pr.page_leaf]; unfold Pg.leaf Pg.sealed; simp
    · obtain ⟨cl, pl, ml, rfl, -⟩ := Pr.well_branch h1 hk
      rw [Pr.page_branch]; unfold Pg.branch Pg.sealed; simp
  unfold Pr.renewR
  rw [if_neg ht, h]
  simp [h2]
theorem renew_old {t : List UInt8} {n : Pr.NodeT} (hw : Pr.wellT n = true) (ho : Pr.oldT n = t) : Pr.renewR t = some (Pr.pageT n) := by
  obtain ⟨h1, h2⟩ := Pr.oldR_old hw
  unfold Pr.renewR
  rw [← ho, if_pos h2, h1]; rfl
theorem renew_none {t : List UInt8} (h : Pr.readR t = none) (hn : ∀ n, Pr.wellT n = true → Pr.oldT n = t → False) : Pr.renewR t = none := by
  unfold Pr.renewR
  split
  · rename_i hp
    cases ho : Pr.oldR t with
    | none => rfl
    | some n =>
      obtain ⟨h1, h2⟩ := Pr.oldR_is ho hp
      exact absurd h2 (fun h2 => hn n h1 h2)
  · rw [h]; rfl
set_option maxHeartbeats 1000000 in
set_option maxRecDepth 100000 in
theorem refRenew_any (s : ByteArray) (w : World) (hs : s.size ≤ 10000000) :
    Calls Tryz.prog 108 #[.string s] w fun r w' => r = .returned (.tuple #[.string (renewS (Pr.renewR s.data.toList)), .int .i64 (renewE (Pr.renewR s.data.toList))]) ∧ Below w.heap.size w w' := by
  generalize hE : (Ending.returned (.tuple #[.string (renewS (Pr.renewR s.data.toList)), .int .i64 (renewE (Pr.renewR s.data.toList))])) = E
  have HE := hid hE
  clear hE
  go_enter Tryz.func108, Tryz.ntmps108
  go_wp2_with fail
  refine (refRead_any s w hs).mono ?_
  rintro r w1 ⟨hb1, ⟨hn, rfl⟩ | ⟨kd, il, cl, pl, ml, v, hy, rfl, hv⟩⟩
  · have HB1 := hid (hb1.alloc hb1.size (.cells #[.int .i64 0, .slice none 0 0, .slice none 0 0, .slice none 0 0, .slice none 0 0] 79))
    have HN := hid hn
    clear hb1 hn
    go_wp2_with fail
    generalize w1.alloc (.cells #[.int .i64 0, .slice none 0 0, .slice none 0 0, .slice none 0 0, .slice none 0 0] 79) = w2 at *
    refine (old_any s w2 hs).mono ?_
    rintro r w3 ⟨hb3, kd, il, cl, pl, ml, v, b, rfl, hv, hyes, hcan⟩
    obtain ⟨ia, ic, ka, kc, pa, pc, ma, mc, rfl⟩ := hv.shape
    have BA := (Below.refl w3.heap.size w3).alloc (Nat.le_refl _) (.cells #[.int .i64 kd, .slice ia il.length ic, .slice ka cl.length kc, .slice pa pl.length pc, .slice ma ml.length mc] 79)
    have HB4 := hid (HB1.out.trans ((hb3.trans (BA.mono hb3.size)).mono HB1.out.size))
    have HV4 := hid (hv.below BA)
    have HM4 := hid (nodeB_new w3 (.int .i64 kd) (.slice ia il.length ic) (.slice ka cl.length kc) (.slice pa pl.length pc) (.slice ma ml.length mc))
    cases b with
    | false =>
      have HT : Hid (.returned (.tuple #[.string ⟨#[]⟩, .int .i64 2]) = E) := by
        show _ = _; rw [← HE.out, renew_none HN.out (fun n h1 h2 => by have := (hcan n h1 h2).1; simp at this)]; rfl
      clear hb3 hv hyes hcan BA
      go_wp2_with fail
      go_ret2
      exact ⟨HT.out, HB4.out⟩
    | true =>
      obtain ⟨hw, ho⟩ := hyes rfl
      have HT : Hid (.returned (.tuple #[.string ⟨(Pr.pageT (kd, plain il, cl, lists pl, plainCh ml)).toArray⟩, .int .i64 0]) = E) := by
        show _ = _; rw [← HE.out, renew_old hw ho]; rfl
      have HCP := hid (page_any _ kd il (cl.map Int.ofNat) pl ml _ HV4.out.isNode hw)
      rw [show Pg.page kd (plain il) (cl.map Int.ofNat) (lists pl) (plainCh ml) = Pr.pageT (kd, plain il, cl, lists pl, plainCh ml) from rfl] at HCP
      obtain ⟨n0, n1, n2, n3, n4, -⟩ := HM4.out.cells
      clear hb3 hv hyes hcan BA hw ho
      go_wp2_with fail
      refine HCP.out.mono ?_
      rintro r w5 ⟨rfl, hb5⟩
      have HB5 := hid (HB4.out.trans (hb5.mono HB4.out.size))
      clear hb5
      go_wp2_with fail
      go_ret2
      exact ⟨HT.out, HB5.out⟩
  · obtain ⟨ia, ic, ka, kc, pa, pc, ma, mc, rfl⟩ := hv.shape
    have HB1 := hid (hb1.alloc hb1.size (.cells #[.int .i64 kd, .slice ia il.length ic, .slice ka cl.length kc, .slice pa pl.length pc, .slice ma ml.length mc] 79))
    have HT : Hid (.returned (.tuple #[.string s, .int .i64 0]) = E) := by
      show _ = _; rw [← HE.out, renew_read hy]; show _ = Ending.returned (.tuple #[.string (⟨s.data.toList.toArray⟩ : ByteArray), .int .i64 0]); rw [mk_data]
    clear hb1 hy hv
    go_wp2_with fail
    go_ret2
    exact ⟨HT.out, HB1.out⟩
end Go.Proofs.YtolgpnaoaodepaaGreat
/- The walk of paged, at Renew. -/
namespace Go.Proofs.YtolgpnaoaodepaaGreat
open Go.RowKit

set_option maxHeartbeats 1000000 in
set_option maxRecDepth 20000 in
theorem pagedRenew_any (p : Addr) (s : ByteArray) (c1 c3 c4 c5 c6 c7 c8 c9 c10 c11 c12 : Value) (w : World) (hs : s.size ≤ 10000000) :
    Calls Tryz.prog 51 #[.pointer (some p), .agg #[.int .i64 6, c1, .string s, c3, c4, c5, c6, c7, c8, c9, c10, c11, c12]] w fun r w' => r = .returned (.bool true) ∧ Below w.heap.size w w' := by
  have HA := hid ((Below.refl w.heap.size w).alloc (Nat.le_refl _) (.cells #[.int .i64 6, c1, .string s, c3, c4, c5, c6, c7, c8, c9, c10, c11, c12] 81))
  have HX := hid (heap_alloc_new w (.cells #[.int .i64 6, c1, .string s, c3, c4, c5, c6, c7, c8, c9, c10, c11, c12] 81))
  go_enter Tryz.func51, Tryz.ntmps51
  go_wp2_with fail
  have C1 := siltRenew_any s.data.toList (w.alloc (.cells #[.int .i64 6, c1, .string s, c3, c4, c5, c6, c7, c8, c9, c10, c11, c12] 81)) (by rw [Array.length_toList]; exact hs)
  rw [show (⟨s.data.toList.toArray⟩ : ByteArray) = s from rfl] at C1
  refine C1.mono ?_
  clear C1
  generalize w.alloc (.cells #[.int .i64 6, c1, .string s, c3, c4, c5, c6, c7, c8, c9, c10, c11, c12] 81) = w1 at *
  rintro r w2 ⟨rfl, hb2⟩
  have hx2 := (hb2.block w.heap.size (Array.getElem?_eq_some_iff.1 HX.out).1).trans HX.out
  have m2 : w2.cell? ⟨w.heap.size, 2, none⟩ = some (.string s) := by simp [World.cell?, hx2]
  have HB2 := hid (HA.out.trans (hb2.mono HA.out.size))
  clear hb2 hx2 HA HX
  have CR := hid (refRenew_any s w2 hs)
  generalize renewS (Pr.renewR s.data.toList) = fv at *
  generalize renewE (Pr.renewR s.data.toList) = fn at *
  go_wp2_with fail
  refine CR.out.mono ?_
  rintro r w3 ⟨rfl, hb3⟩
  have HB3 := hid (HB2.out.trans (hb3.mono HB2.out.size))
  clear hb3 CR m2
  go_wp2_with (go_at_call 96; refine (num_any _ _).mono ?_; rintro e w' ⟨rfl, rfl⟩)
  go_ret
  exact ⟨rfl, HB3.out⟩
end Go.Proofs.YtolgpnaoaodepaaGreat
/- The walk of step, of the kinds 3 to 6. -/
namespace Go.Proofs.YtolgpnaoaodepaaGreat
open Go.RowKit

/-- What a step leaves: the book, and what stood aside. -/
def BkQ (b : Nat) (vl : Value) (k : Nat) (X : Nat → Prop) (w : World) (r : Ending) (w' : World) : Prop := r = .returned (.bool true) ∧ Bk w' b vl (k + 16) X ∧ Below b w w' ∧ ∀ g, X g → w'.heap[g]? = w.heap[g]?
theorem bkq_below {b : Nat} {vl : Value} {k : Nat} {X : Nat → Prop} {w w' : World} {r : Ending} (h : Bk w b vl k X) (hX : ∀ g, X g → b < g ∧ g < w.heap.size) (q : r = .returned (.bool true) ∧ Below w.heap.size w w') : BkQ b vl k X w r w' :=
  ⟨q.1, (h.below2 q.2 fun _ hg => .inl hg).mono (by omega), q.2.mono (Nat.le_of_lt h.lt), fun g hg => q.2.block g (hX g hg).2⟩
theorem paged36_any (b : Nat) (vl : Value) (k : Nat) (X : Nat → Prop) (kk : Int) (s t : ByteArray) (kd : Int) (v1 v2 v3 v4 : Value) (il : List (ByteArray × ByteArray)) (cl : List Int) (pl : List ByteArray) (ml : List (Int × ByteArray × ByteArray)) (c1 c9 c10 c11 c12 : Value) (w : World) (h : NodeP w v1 v2 v3 v4 il cl pl ml) (hB : Bk w b vl k X) (hX : ∀ g, X g → b < g ∧ g < w.heap.size) (hk : k ≤ 90000000) (hs : s.size ≤ 1048576) (hkk : kk = 3 ∨ kk = 4 ∨ kk = 5 ∨ kk = 6) :
    Calls Tryz.prog 51 #[.pointer (some ⟨b, 0, none⟩), .agg #[.int .i64 kk, c1, .string s, .string t, .int .i64 kd, v1, v2, v3, v4, c9, c10, c11, c12]] w (BkQ b vl k X w) := by
  rcases hkk with rfl | rfl | rfl | rfl
  · exact (pagedWrite_any _ kd v1 v2 v3 v4 il cl pl ml _ _ _ _ _ _ _ w h).mono fun _ _ q => bkq_below hB hX q
  · exact (pagedRead_any b vl k X s _ _ _ _ _ _ _ _ _ _ _ w hB hX hk (by omega)).mono fun _ _ q => q
  · exact (pagedFetch_any _ s t _ _ _ _ _ _ _ _ _ _ w (by omega)).mono fun _ _ q => bkq_below hB hX q
  · exact (pagedRenew_any _ s _ _ _ _ _ _ _ _ _ _ _ w (by omega)).mono fun _ _ q => bkq_below hB hX q
set_option maxHeartbeats 1000000 in
set_option maxRecDepth 20000 in
theorem step36_any (b : Nat) (vl : Value) (k : Nat) (X : Nat → Prop) (kk : Int) (s t : ByteArray) (kd : Int) (v1 v2 v3 v4 : Value) (il : List (ByteArray × ByteArray)) (cl : List Int) (pl : List ByteArray) (ml : List (Int × ByteArray × ByteArray)) (c1 c9 c10 c11 c12 : Value) (w : World) (h : NodeP w v1 v2 v3 v4 il cl pl ml) (hB : Bk w b vl k X) (hX : ∀ g, X g → b < g ∧ g < w.heap.size) (hk : k ≤ 90000000) (hs : s.size ≤ 1048576) (hkk : kk = 3 ∨ kk = 4 ∨ kk = 5 ∨ kk = 6) :
    Calls Tryz.prog 28 #[.pointer (some ⟨b, 0, none⟩), .agg #[.int .i64 kk, c1, .string s, .string t, .int .i64 kd, v1, v2, v3, v4, c9, c10, c11, c12]] w (BkQ b vl k X w) := by
  have HA := hid ((Below.refl w.heap.size w).alloc (Nat.le_refl _) (.cells #[.int .i64 kk, c1, .string s, .string t, .int .i64 kd, v1, v2, v3, v4, c9, c10, c11, c12] 81))
  have HC := hid (paged36_any b vl k X kk s t kd v1 v2 v3 v4 il cl pl ml c1 c9 c10 c11 c12 (w.alloc (.cells #[.int .i64 kk, c1, .string s, .string t, .int .i64 kd, v1, v2, v3, v4, c9, c10, c11, c12] 81)) (h.below HA.out) (hB.below2 HA.out fun _ hg => .inl hg) (fun g hg => ⟨(hX g hg).1, by have := (hX g hg).2; simp; omega⟩) hk hs hkk)
  have HL := hid hB.lt
  have HX := hid hX
  clear h hB hX hk hs
  have fin : ∀ (r : Ending) (w' : World), BkQ b vl k X (w.alloc (.cells #[.int .i64 kk, c1, .string s, .string t, .int .i64 kd, v1, v2, v3, v4, c9, c10, c11, c12] 81)) r w' → BkQ b vl k X w r w' := fun r w' q =>
    ⟨q.1, q.2.1, (HA.out.mono (Nat.le_of_lt HL.out)).trans q.2.2.1, fun g hg => (q.2.2.2 g hg).trans (HA.out.block g (HX.out g hg).2)⟩
  have FIN := hid fin
  clear fin HA HX HL
  rcases hkk with rfl | rfl | rfl | rfl
  all_goals
    go_enter Tryz.func28, Tryz.ntmps28
    go_wp2_with fail
    refine HC.out.mono ?_
    intro r w1 q
    have Q := hid (FIN.out r w1 q)
    obtain ⟨rfl, -⟩ := q
    go_wp2_with fail
    go_ret
    exact Q.out
end Go.Proofs.YtolgpnaoaodepaaGreat
