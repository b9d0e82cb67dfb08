/- The walks of silt's Read: its literal, Catch around it. -/
import Derived.Test.YtolgpnaoaodepaaWalkAJ
namespace Go.Proofs.Ytolgpnaoaodepaa
open Go.RowKit

set_option maxHeartbeats 1000000 in
theorem readLit_any (b : Nat) (t : List UInt8) (w : World) (h1 : w.cell? ⟨b, 0, none⟩ = some (.string ⟨t.toArray⟩)) (hl : b < w.heap.size) :
    Calls Try.prog 27 #[.pointer (some ⟨b, 0, none⟩)] w fun r w' => NodeQ w (Pr.readR t) r w' := by
  have HN0 := hid (nodeB_new w (.int .i64 0) (.slice none 0 0) (.slice none 0 0) (.slice none 0 0) (.slice none 0 0))
  have HB0 := hid ((Below.refl w.heap.size w).alloc (Nat.le_refl _) (.cells #[.int .i64 0, .slice none 0 0, .slice none 0 0, .slice none 0 0, .slice none 0 0] 34))
  have hs0 : w.heap.size < (w.alloc (.cells #[.int .i64 0, .slice none 0 0, .slice none 0 0, .slice none 0 0, .slice none 0 0] 34)).heap.size := by simp
  go_enter Try.func27, Try.ntmps27
  go_wp2_with fail
  generalize w.alloc (.cells #[.int .i64 0, .slice none 0 0, .slice none 0 0, .slice none 0 0, .slice none 0 0] 34) = w0 at *
  refine (pagesRead_any t _).mono ?_
  rintro r w2 ⟨hb2, ⟨hn, rfl⟩ | ⟨kd, il, cl, pl, ml, v, hs, rfl, hv⟩⟩
  · have HF := hid hn
    have HB2 := hid (HB0.out.trans (hb2.mono (by omega)))
    clear hb2 hn
    unfold gaveUp
    go_wp2_with fail
    exact ⟨rfl, HB2.out, .inl ⟨HF.out, rfl⟩⟩
  · have HF := hid hs
    have HB2 := hid (HB0.out.trans (hb2.mono (by omega)))
    have HN2 := hid (HN0.out.keep hb2)
    obtain ⟨a1, c1, a2, c2, a3, c3, a4, c4, rfl⟩ := hv.shape
    have HV := hid hv
    have HEND := hid (node_end HB2.out HF.out HV.out (by omega))
    have HNF := hid (HN2.out.put (.int .i64 kd) (.slice a1 il.length c1) (.slice a2 cl.length c2) (.slice a3 pl.length c3) (.slice a4 ml.length c4))
    obtain ⟨r0, r1, r2, r3, r4, y0, y1, y2, y3, y4⟩ := HN2.out.cells
    clear hb2 hs hv
    go_wp2_with fail
    refine bodyPost_ret (v := .agg #[.int .i64 kd, .slice a1 il.length c1, .slice a2 cl.length c2, .slice a3 pl.length c3, .slice a4 ml.length c4]) ?_ rfl HEND.out
    obtain ⟨q0, q1, q2, q3, q4⟩ := nodeB_result HNF.out
    unfold put5 at q0 q1 q2 q3 q4
    simp [results, Try.results27, go_sem, q0, q1, q2, q3, q4]

set_option maxHeartbeats 1000000 in
theorem catchN_panicking (b : Nat) (x : Int) (older : List PanicEntry) (w : World) (hc : w.cell? ⟨b, 0, none⟩ = some (.int .i64 x)) (hz : w.frozen? ⟨b, 0, none⟩ = false) (hp : b < w.heap.size) :
    CallsD Try.prog 41 #[.pointer (some ⟨b, 0, none⟩)] (.panicking ({ v := .iface 66 (.agg #[]), recovered := false } :: older)) w fun e u' w' =>
      e = .returned (.tuple #[]) ∧ u' = .panicking ({ v := .iface 66 (.agg #[]), recovered := true } :: older) ∧ w' = (w.setCell ⟨b, 0, none⟩ (.int .i64 2)).alloc (.cells #[] 66) := by
  refine callsD_of_wpS Try.func41 rfl fun c₀ cs hu => ?_
  apply wpS_seq
  apply wpS_region
  simp [wpOpsS, go_sem, recoverD, hu, Try.ntmps41, Exit.thenS]
  refine wpS_of_wp ?_
  rw [show (#[Value.pointer (some ⟨b, 0, none⟩)] ++ ((Array.replicate 14 undef).setIfInBounds 3 (Value.iface 66 (Value.agg #[]))).setIfInBounds 0 (Value.iface 66 (Value.agg #[]))) = #[Value.pointer (some ⟨b, 0, none⟩), Value.iface 66 (Value.agg #[]), undef, undef, Value.iface 66 (Value.agg #[]), undef, undef, undef, undef, undef, undef, undef, undef, undef, undef] from rfl]
  generalize hQ : (fun e a' w' => bodyPostS Try.prog Try.f41 c₀ cs _ e a' _ w') = Q
  have HQ := hid hQ
  clear hQ hu
  have hta := ta
  have hf2 : (w.alloc (.cells #[] 66)).frozen? ⟨b, 0, none⟩ = false := by rw [World.frozen?_alloc_old _ _ _ (by simp; omega)]; exact hz
  go_wp2_with fail
  rw [← HQ.out]
  simp [bodyPostS, results, Try.results41]

theorem catchN_idle (p : Addr) (w : World) :
    CallsD Try.prog 41 #[.pointer (some p)] .returning w fun e u' w' => e = .returned (.tuple #[]) ∧ u' = .returning ∧ w' = w := by
  refine callsD_of_wpS Try.func41 rfl fun c₀ cs hu => ?_
  apply wpS_seq
  apply wpS_region
  simp [wpOpsS, go_sem, recoverD, hu, Try.ntmps41, Exit.thenS]
  refine wpS_of_wp ?_
  rw [show (#[Value.pointer (some p)] ++ ((Array.replicate 14 undef).setIfInBounds 3 Value.nilIface).setIfInBounds 0 Value.nilIface) = #[Value.pointer (some p), Value.nilIface, undef, undef, Value.nilIface, undef, undef, undef, undef, undef, undef, undef, undef, undef, undef] from rfl]
  generalize hQ : (fun e a' w' => bodyPostS Try.prog Try.f41 c₀ cs _ e a' _ w') = Q
  have HQ := hid hQ
  have HU := hid hu
  clear hQ hu
  go_wp2_with fail
  rw [← HQ.out]
  have hu := HU.out
  cases c₀
  simp_all [bodyPostS, results, Try.results41]

def ReadQ (w : World) (o : Option Pr.NodeT) (r : Ending) (w' : World) : Prop := Below w.heap.size w w' ∧ ((o = none ∧ r = .returned (.tuple #[.agg #[.int .i64 0, .slice none 0 0, .slice none 0 0, .slice none 0 0, .slice none 0 0], .int .i64 2])) ∨ ∃ kd il cl pl ml v, o = some (kd, plain il, cl, lists pl, plainCh ml) ∧ r = .returned (.tuple #[v, .int .i64 0]) ∧ NodeV w.heap.size w' v kd il cl pl ml)
theorem NodeV.set {B : Nat} {w : World} {v : Value} {kd : Int} {il : List (ByteArray × ByteArray)} {cl : List Nat} {pl : List ByteArray} {ml : List (Int × ByteArray × ByteArray)} (h : NodeV B w v kd il cl pl ml) {b i : Nat} (hb : b < B) (u : Value) : NodeV B (w.setCell ⟨b, i, none⟩ u) v kd il cl pl ml := by
  obtain ⟨v1, v2, v3, v4, e, h1, h2, h3, h4, b1⟩ := h
  exact ⟨v1, v2, v3, v4, e, row_set h1 hb _, row_set h2 hb _, row_set h3 hb _, row_set h4 hb _, b1⟩
set_option maxHeartbeats 1000000 in
theorem readCatch_any (b : Nat) (t : List UInt8) (w : World) (h1 : w.cell? ⟨b, 0, none⟩ = some (.string ⟨t.toArray⟩)) (hl1 : b < w.heap.size) :
    Calls Try.prog 26 #[.func (.func 27) #[] #[.pointer (some ⟨b, 0, none⟩)]] w fun r w' => ReadQ w (Pr.readR t) r w' := by
  have hmf : ∀ (fn : Fn) (first cap : Array Value) (w : World), (Instr.makeFunc fn first cap).run Try.prog w = .ok (.func fn first cap) w := fun _ _ _ _ => rfl
  have HC := hid (readLit_any b t ((w.alloc (.cells #[.int .i64 0, .slice none 0 0, .slice none 0 0, .slice none 0 0, .slice none 0 0] 34)).alloc (.cells #[.int .i64 0] 25)) (by rw [World.cell?_alloc_past _ _ _ (by simp; omega), World.cell?_alloc_past _ _ _ hl1]; exact h1) (by simp; omega))
  have BA := (Below.refl w.heap.size w).alloc (Nat.le_refl _) (.cells #[.int .i64 0, .slice none 0 0, .slice none 0 0, .slice none 0 0, .slice none 0 0] 34)
  have HN := hid (nodeB_new w (.int .i64 0) (.slice none 0 0) (.slice none 0 0) (.slice none 0 0) (.slice none 0 0))
  have HN0 := hid (HN.out.keep ((Below.refl _ _).alloc (Nat.le_refl _) (.cells #[.int .i64 0] 25)))
  have HB0 := hid (BA.alloc (by simp) (.cells #[.int .i64 0] 25))
  have HE0 : Hid (((w.alloc (.cells #[.int .i64 0, .slice none 0 0, .slice none 0 0, .slice none 0 0, .slice none 0 0] 34)).alloc (.cells #[.int .i64 0] 25)).heap[w.heap.size + 1]? = some (.cells #[.int .i64 0] 25 (0, 0))) := by
    show _ = _
    rw [show w.heap.size + 1 = (w.alloc (.cells #[.int .i64 0, .slice none 0 0, .slice none 0 0, .slice none 0 0, .slice none 0 0] 34)).heap.size by simp]
    exact heap_alloc_new _ _
  have hs0 : w.heap.size + 2 ≤ ((w.alloc (.cells #[.int .i64 0, .slice none 0 0, .slice none 0 0, .slice none 0 0, .slice none 0 0] 34)).alloc (.cells #[.int .i64 0] 25)).heap.size := by simp
  clear h1 hl1 BA HN
  go_enter_defers Try.func26, Try.ntmps26
  go_wp2_with fail
  generalize (w.alloc (.cells #[.int .i64 0, .slice none 0 0, .slice none 0 0, .slice none 0 0, .slice none 0 0] 34)).alloc (.cells #[.int .i64 0] 25) = w0 at *
  refine HC.out.mono ?_
  rintro r w1 ⟨hb1, hcase⟩
  have hblk : w1.heap[w.heap.size + 1]? = some (.cells #[.int .i64 0] 25 (0, 0)) := (hb1.block _ (by omega)).trans HE0.out
  have hce : w1.cell? ⟨w.heap.size + 1, 0, none⟩ = some (.int .i64 0) := by unfold World.cell?; rw [hblk]; rfl
  have hfz : w1.frozen? ⟨w.heap.size + 1, 0, none⟩ = false := by unfold World.frozen?; rw [hblk]; rfl
  have hlt : w.heap.size + 1 < w1.heap.size := (Array.getElem?_eq_some_iff.1 hblk).1
  have HB1 := hid (HB0.out.trans (hb1.mono (by omega)))
  have HN1 := hid (HN0.out.keep hb1)
  have HCS := hid hcase
  clear hb1 hblk hcase HC
  rcases HCS.out with ⟨hn, rfl⟩ | ⟨kd, il, cl, pl, ml, v, hs, rfl, hv⟩
  · have HF := hid hn
    clear hn HCS
    unfold gaveUp
    go_wp2_with fail
    refine leaves_cons (f := 41) (args := #[.pointer (some ⟨w.heap.size + 1, 0, none⟩)]) (by simp) (by simp [go_sem]) ?_
    refine (catchN_panicking (w.heap.size + 1) 0 [] _ hce hfz hlt).mono ?_
    rintro e u' w'' ⟨rfl, rfl, rfl⟩
    have HBF := hid ((HB1.out.setCell (p := ⟨w.heap.size + 1, 0, none⟩) (by simp) (.int .i64 2)).alloc (by simp; omega) (.cells #[] 66))
    have HNF := hid ((HN1.out.but (but_set (w.heap.size + 1) 0 w1 (.int .i64 2)) (by omega)).keep ((Below.refl _ _).alloc (Nat.le_refl _) (.cells #[] 66)))
    have hx : ((w1.setCell ⟨w.heap.size + 1, 0, none⟩ (.int .i64 2)).alloc (.cells #[] 66)).cell? ⟨w.heap.size + 1, 0, none⟩ = some (.int .i64 2) := by
      rw [World.cell?_alloc_past _ _ _ (by simp; omega)]; exact World.cell?_setCell_same _ _ _ hce
    obtain ⟨q0, q1, q2, q3, q4⟩ := nodeB_result HNF.out
    simp [Leaves, settle, results, Try.results26, go_sem, hx, q0, q1, q2, q3, q4]
    exact ⟨HBF.out, .inl ⟨HF.out, rfl⟩⟩
  · have HF := hid hs
    obtain ⟨a1, c1, a2, c2, a3, c3, a4, c4, rfl⟩ := hv.shape
    have HV := hid hv
    obtain ⟨r0, r1, r2, r3, r4, y0, y1, y2, y3, y4⟩ := HN1.out.cells
    clear hs hv HCS
    have HB2 := hid (below_put HB1.out (Nat.le_refl _) (.int .i64 kd) (.slice a1 il.length c1) (.slice a2 cl.length c2) (.slice a3 pl.length c3) (.slice a4 ml.length c4))
    have HN2 := hid (HN1.out.put (.int .i64 kd) (.slice a1 il.length c1) (.slice a2 cl.length c2) (.slice a3 pl.length c3) (.slice a4 ml.length c4))
    have HV2 := hid (HV.out.put (b := w.heap.size) (by omega) (.int .i64 kd) (.slice a1 il.length c1) (.slice a2 cl.length c2) (.slice a3 pl.length c3) (.slice a4 ml.length c4))
    have hc2 : (put5 w1 w.heap.size (.int .i64 kd) (.slice a1 il.length c1) (.slice a2 cl.length c2) (.slice a3 pl.length c3) (.slice a4 ml.length c4)).cell? ⟨w.heap.size + 1, 0, none⟩ = some (.int .i64 0) := by
      unfold put5
      rw [← hce]
      unfold World.cell?
      rw [Below.heap_setCell _ _ _ _ (by simp), Below.heap_setCell _ _ _ _ (by simp), Below.heap_setCell _ _ _ _ (by simp), Below.heap_setCell _ _ _ _ (by simp), Below.heap_setCell _ _ _ _ (by simp)]
    go_wp2_with fail
    obtain ⟨w2, hw2⟩ : ∃ w2, w2 = put5 w1 w.heap.size (.int .i64 kd) (.slice a1 il.length c1) (.slice a2 cl.length c2) (.slice a3 pl.length c3) (.slice a4 ml.length c4) := ⟨_, rfl⟩
    rw [← hw2] at HB2 HN2 HV2 hc2
    unfold put5 at hw2
    rw [← hw2]
    clear hw2
    refine leaves_cons (f := 41) (args := #[.pointer (some ⟨w.heap.size + 1, 0, none⟩)]) (by simp) (by simp [go_sem]) ?_
    refine (catchN_idle ⟨w.heap.size + 1, 0, none⟩ _).mono ?_
    rintro e u' w'' ⟨rfl, rfl, rfl⟩
    have hx : (w2.setCell ⟨w.heap.size + 1, 0, none⟩ (.int .i64 0)).cell? ⟨w.heap.size + 1, 0, none⟩ = some (.int .i64 0) := World.cell?_setCell_same _ _ _ hc2
    have HBF := hid (HB2.out.setCell (p := ⟨w.heap.size + 1, 0, none⟩) (by simp) (.int .i64 0))
    have HNF := hid (HN2.out.but (but_set (w.heap.size + 1) 0 w2 (.int .i64 0)) (by omega))
    have HVF := hid ((HV2.out.set (b := w.heap.size + 1) (i := 0) (by omega) (.int .i64 0)).shrink (C := w.heap.size) (by omega))
    obtain ⟨q0, q1, q2, q3, q4⟩ := nodeB_result HNF.out
    simp [Leaves, settle, results, Try.results26, go_sem, hx, q0, q1, q2, q3, q4]
    exact ⟨HBF.out, .inr ⟨kd, il, cl, pl, ml, _, HF.out, rfl, HVF.out⟩⟩

set_option maxHeartbeats 1000000 in
theorem siltRead_any (t : List UInt8) (w : World) :
    Calls Try.prog 12 #[.string ⟨t.toArray⟩] w fun r w' => ReadQ w (Pr.readR t) r w' := by
  have hmf : ∀ (fn : Fn) (first cap : Array Value) (w : World), (Instr.makeFunc fn first cap).run Try.prog w = .ok (.func fn first cap) w := fun _ _ _ _ => rfl
  have HC := hid (readCatch_any w.heap.size t ((w.alloc (.cells #[.string ⟨t.toArray⟩] 9)).alloc (.cells #[.int .i64 0, .slice none 0 0, .slice none 0 0, .slice none 0 0, .slice none 0 0] 34)) (by rw [World.cell?_alloc_past _ _ _ (by simp)]; exact World.cell?_alloc_at _ _ _ 0 (by simp)) (by simp; omega))
  have BA := (Below.refl w.heap.size w).alloc (Nat.le_refl _) (.cells #[.string ⟨t.toArray⟩] 9)
  have HB0 := hid (BA.alloc (by simp) (.cells #[.int .i64 0, .slice none 0 0, .slice none 0 0, .slice none 0 0, .slice none 0 0] 34))
  have HN0 : Hid (NodeB ((w.alloc (.cells #[.string ⟨t.toArray⟩] 9)).alloc (.cells #[.int .i64 0, .slice none 0 0, .slice none 0 0, .slice none 0 0, .slice none 0 0] 34)) (w.heap.size + 1) (.int .i64 0) (.slice none 0 0) (.slice none 0 0) (.slice none 0 0) (.slice none 0 0)) := by
    have := nodeB_new (w.alloc (.cells #[.string ⟨t.toArray⟩] 9)) (.int .i64 0) (.slice none 0 0) (.slice none 0 0) (.slice none 0 0) (.slice none 0 0)
    rw [show (w.alloc (.cells #[.string ⟨t.toArray⟩] 9)).heap.size = w.heap.size + 1 by simp] at this
    exact this
  have hs0 : w.heap.size + 2 ≤ ((w.alloc (.cells #[.string ⟨t.toArray⟩] 9)).alloc (.cells #[.int .i64 0, .slice none 0 0, .slice none 0 0, .slice none 0 0, .slice none 0 0] 34)).heap.size := by simp
  clear BA
  go_enter Try.func12, Try.ntmps12
  go_wp2_with fail
  generalize (w.alloc (.cells #[.string ⟨t.toArray⟩] 9)).alloc (.cells #[.int .i64 0, .slice none 0 0, .slice none 0 0, .slice none 0 0, .slice none 0 0] 34) = w0 at *
  refine HC.out.mono ?_
  rintro r w1 ⟨hb1, hcase⟩
  have HB1 := hid (HB0.out.trans (hb1.mono (by omega)))
  have HN1 := hid (HN0.out.keep hb1)
  have HCS := hid hcase
  obtain ⟨r0, r1, r2, r3, r4, y0, y1, y2, y3, y4⟩ := HN1.out.cells
  clear hb1 hcase HC
  rcases HCS.out with ⟨hn, rfl⟩ | ⟨kd, il, cl, pl, ml, v, hs, rfl, hv⟩
  · have HF := hid hn
    have HBF := hid (below_put HB1.out (b := w.heap.size + 1) (by omega) (.int .i64 0) (.slice none 0 0) (.slice none 0 0) (.slice none 0 0) (.slice none 0 0))
    have HNF := hid (HN1.out.put (.int .i64 0) (.slice none 0 0) (.slice none 0 0) (.slice none 0 0) (.slice none 0 0))
    clear hn HCS
    go_wp2_with fail
    refine bodyPost_ret (v := .tuple #[.agg #[.int .i64 0, .slice none 0 0, .slice none 0 0, .slice none 0 0, .slice none 0 0], .int .i64 2]) ?_ rfl ⟨HBF.out, .inl ⟨HF.out, rfl⟩⟩
    obtain ⟨q0, q1, q2, q3, q4⟩ := nodeB_result HNF.out
    unfold put5 at q0 q1 q2 q3 q4
    simp [results, Try.results12, go_sem, q0, q1, q2, q3, q4]
  · have HF := hid hs
    obtain ⟨a1, c1, a2, c2, a3, c3, a4, c4, rfl⟩ := hv.shape
    have HBF := hid (below_put HB1.out (b := w.heap.size + 1) (by omega) (.int .i64 kd) (.slice a1 il.length c1) (.slice a2 cl.length c2) (.slice a3 pl.length c3) (.slice a4 ml.length c4))
    have HNF := hid (HN1.out.put (.int .i64 kd) (.slice a1 il.length c1) (.slice a2 cl.length c2) (.slice a3 pl.length c3) (.slice a4 ml.length c4))
    have HVF := hid ((hv.put (b := w.heap.size + 1) (by omega) (.int .i64 kd) (.slice a1 il.length c1) (.slice a2 cl.length c2) (.slice a3 pl.length c3) (.slice a4 ml.length c4)).shrink (C := w.heap.size) (by omega))
    clear hs hv HCS
    go_wp2_with fail
    refine bodyPost_ret (v := .tuple #[.agg #[.int .i64 kd, .slice a1 il.length c1, .slice a2 cl.length c2, .slice a3 pl.length c3, .slice a4 ml.length c4], .int .i64 0]) ?_ rfl ⟨HBF.out, .inr ⟨kd, il, cl, pl, ml, _, HF.out, rfl, HVF.out⟩⟩
    obtain ⟨q0, q1, q2, q3, q4⟩ := nodeB_result HNF.out
    unfold put5 at q0 q1 q2 q3 q4
    simp [results, Try.results12, go_sem, q0, q1, q2, q3, q4]
end Go.Proofs.Ytolgpnaoaodepaa
