/- A step's cells: its texts, its node; they stay while their blocks do. -/
import Derived.Test.YtolgpnaoaodepaaGreatMathVm
import Derived.Deep.DeepCutAuto
namespace Go.Proofs.YtolgpnaoaodepaaGreat
open Go.RowKit

theorem cell_same {w w' : World} {g o : Nat} (h : w'.heap[g]? = w.heap[g]?) : w'.cell? ⟨g, o, none⟩ = w.cell? ⟨g, o, none⟩ := World.cell?_of_block h
theorem IsItems.stay {w w' : World} {v : Value} {l : List (ByteArray × ByteArray)} (h : IsItems w v l) (hs : w.heap.size ≤ w'.heap.size) (hb : ∀ g, atBlock v = some g → w'.heap[g]? = w.heap[g]?) : IsItems w' v l := by
  rcases h with h | ⟨b, off, cap, rfl, h2, h3, h4, h5⟩
  · exact .inl h
  · match l, hb with
    | [], _ => exact .inl ⟨_, _, rfl, rfl⟩
    | x :: r, hb =>
      have q := hb b rfl
      exact .inr ⟨b, off, cap, rfl, h2, h3, by omega, fun i hi => ⟨(cell_same q).trans (h5 i hi).1, (cell_same q).trans (h5 i hi).2⟩⟩
theorem IsRow.stay {w w' : World} {v : Value} {n : Nat} {cs : List Value} (h : IsRow w v n cs) (hs : w.heap.size ≤ w'.heap.size) (hb : ∀ g, atBlock v = some g → w'.heap[g]? = w.heap[g]?) : IsRow w' v n cs := by
  obtain ⟨a, cap, rfl, h2, h3⟩ := h
  match n, hb with
  | 0, _ => exact ⟨a, cap, rfl, h2, .inl rfl⟩
  | n + 1, hb =>
    refine ⟨a, cap, rfl, h2, h3.imp_right fun ⟨b, off, e, hlt, hc⟩ => ?_⟩
    subst e
    have q := hb b rfl
    exact ⟨b, off, rfl, by omega, fun i hi => (cell_same q).trans (hc i hi)⟩
theorem IsChs.stay {w w' : World} {v : Value} {l : List (Int × ByteArray × ByteArray)} (h : IsChs w v l) (hs : w.heap.size ≤ w'.heap.size) (hb : ∀ g, atBlock v = some g → w'.heap[g]? = w.heap[g]?) : IsChs w' v l := by
  obtain ⟨a, cap, rfl, h2, h3⟩ := h
  match l, hb with
  | [], _ => exact ⟨a, cap, rfl, h2, .inl rfl⟩
  | x :: r, hb =>
    refine ⟨a, cap, rfl, h2, h3.imp_right fun ⟨b, off, e, hlt, hc⟩ => ?_⟩
    subst e
    have q := hb b rfl
    exact ⟨b, off, rfl, by omega, fun i hi => ⟨(cell_same q).trans (hc i hi).1, (cell_same q).trans (hc i hi).2.1, (cell_same q).trans (hc i hi).2.2⟩⟩
theorem NodeP.stay {w w' : World} {v1 v2 v3 v4 : Value} {il : List (ByteArray × ByteArray)} {cl : List Int} {pl : List ByteArray} {ml : List (Int × ByteArray × ByteArray)} (h : NodeP w v1 v2 v3 v4 il cl pl ml) (hs : w.heap.size ≤ w'.heap.size) (hb : ∀ g, (atBlock v1 = some g ∨ atBlock v2 = some g ∨ atBlock v3 = some g ∨ atBlock v4 = some g) → w'.heap[g]? = w.heap[g]?) : NodeP w' v1 v2 v3 v4 il cl pl ml :=
  ⟨h.i.stay hs fun g q => hb g (.inl q), h.c.stay hs fun g q => hb g (.inr (.inl q)), h.p.stay hs fun g q => hb g (.inr (.inr (.inl q))), h.m.stay hs fun g q => hb g (.inr (.inr (.inr q))), h.bi, h.bc, h.bp, h.bm⟩
/-- A step: its cells. -/
structure OpC (w : World) (b o : Nat) (k : Int) (s t : ByteArray) (kd : Int) (v1 v2 v3 v4 c1 c9 c10 c11 c12 : Value) : Prop where
  e0 : w.cell? ⟨b, o, none⟩ = some (.int .i64 k)
  e1 : w.cell? ⟨b, o + 1, none⟩ = some c1
  e2 : w.cell? ⟨b, o + 2, none⟩ = some (.string s)
  e3 : w.cell? ⟨b, o + 3, none⟩ = some (.string t)
  e4 : w.cell? ⟨b, o + 4, none⟩ = some (.int .i64 kd)
  e5 : w.cell? ⟨b, o + 5, none⟩ = some v1
  e6 : w.cell? ⟨b, o + 6, none⟩ = some v2
  e7 : w.cell? ⟨b, o + 7, none⟩ = some v3
  e8 : w.cell? ⟨b, o + 8, none⟩ = some v4
  e9 : w.cell? ⟨b, o + 9, none⟩ = some c9
  e10 : w.cell? ⟨b, o + 10, none⟩ = some c10
  e11 : w.cell? ⟨b, o + 11, none⟩ = some c11
  e12 : w.cell? ⟨b, o + 12, none⟩ = some c12
theorem OpC.same {w w' : World} {b o : Nat} {k : Int} {s t : ByteArray} {kd : Int} {v1 v2 v3 v4 c1 c9 c10 c11 c12 : Value} (h : OpC w b o k s t kd v1 v2 v3 v4 c1 c9 c10 c11 c12) (q : w'.heap[b]? = w.heap[b]?) : OpC w' b o k s t kd v1 v2 v3 v4 c1 c9 c10 c11 c12 :=
  ⟨(cell_same q).trans h.e0, (cell_same q).trans h.e1, (cell_same q).trans h.e2, (cell_same q).trans h.e3, (cell_same q).trans h.e4, (cell_same q).trans h.e5, (cell_same q).trans h.e6, (cell_same q).trans h.e7, (cell_same q).trans h.e8, (cell_same q).trans h.e9, (cell_same q).trans h.e10, (cell_same q).trans h.e11, (cell_same q).trans h.e12⟩
/-- A step lies there, its lists in blocks of which P holds. -/
def OpQ (P : Nat → Prop) (w : World) (b o : Nat) : Prop := P b ∧ ∃ (k : Int) (s t : ByteArray) (kd : Int) (v1 v2 v3 v4 c1 c9 c10 c11 c12 : Value) (il : List (ByteArray × ByteArray)) (cl : List Int) (pl : List ByteArray) (ml : List (Int × ByteArray × ByteArray)), s.size ≤ 1048576 ∧ OpC w b o k s t kd v1 v2 v3 v4 c1 c9 c10 c11 c12 ∧ NodeP w v1 v2 v3 v4 il cl pl ml ∧ ∀ g, (atBlock v1 = some g ∨ atBlock v2 = some g ∨ atBlock v3 = some g ∨ atBlock v4 = some g) → P g
theorem OpQ.stay {P : Nat → Prop} {w w' : World} {b o : Nat} (h : OpQ P w b o) (hs : w.heap.size ≤ w'.heap.size) (hb : ∀ g, P g → w'.heap[g]? = w.heap[g]?) : OpQ P w' b o := by
  obtain ⟨hP, k, s, t, kd, v1, v2, v3, v4, c1, c9, c10, c11, c12, il, cl, pl, ml, h1, h2, h3, h4⟩ := h
  exact ⟨hP, k, s, t, kd, v1, v2, v3, v4, c1, c9, c10, c11, c12, il, cl, pl, ml, h1, h2.same (hb b hP), h3.stay hs fun g q => hb g (h4 g q), h4⟩
end Go.Proofs.YtolgpnaoaodepaaGreat
/- The walk of paged, at Read. -/
namespace Go.Proofs.YtolgpnaoaodepaaGreat
open Go.RowKit

/-- What is aside while lists are owned: what was aside, the node's block, these lists' blocks. -/
def Asi (X : Nat → Prop) (nb : Nat) (l : List Value) (g : Nat) : Prop := X g ∨ g = nb ∨ ∃ v ∈ l, v.ownBlock = some g
theorem Asi.cons {X : Nat → Prop} {nb : Nat} {v : Value} {l : List Value} {g : Nat} (h : Asi X nb l g) : Asi X nb (v :: l) g := by
  rcases h with h | h | ⟨u, hu, h⟩
  · exact .inl h
  · exact .inr (.inl h)
  · exact .inr (.inr ⟨u, List.mem_cons_of_mem _ hu, h⟩)
/-- The lists that wait: where they lie. -/
structure Wait (b B nb S : Nat) (X : Nat → Prop) (l : List Value) : Prop where
  x : ∀ g, X g → b < g ∧ g < B
  n : B ≤ nb ∧ nb < S
  bb : b < B
  v : ∀ v ∈ l, ∀ g, v.ownBlock = some g → B ≤ g ∧ g < nb
  a : l.Pairwise fun u v => ∀ g, u.ownBlock = some g → v.ownBlock ≠ some g
theorem Wait.tail {b B nb S : Nat} {X : Nat → Prop} {u : Value} {l : List Value} (h : Wait b B nb S X (u :: l)) : Wait b B nb S X l :=
  ⟨h.x, h.n, h.bb, fun v hv => h.v v (List.mem_cons_of_mem _ hv), (List.pairwise_cons.1 h.a).2⟩
theorem Wait.hl {b B nb S : Nat} {X : Nat → Prop} {u : Value} {l : List Value} (h : Wait b B nb S X (u :: l)) : ∀ g, u.ownBlock = some g → b < g ∧ Asi X nb (u :: l) g := fun g hg =>
  ⟨by have := (h.v u (List.mem_cons_self ..) g hg).1; have := h.bb; omega, .inr (.inr ⟨u, List.mem_cons_self .., hg⟩)⟩
theorem Wait.hX {b B nb S : Nat} {X : Nat → Prop} {u : Value} {l : List Value} (h : Wait b B nb S X (u :: l)) {T : Nat} (hT : S ≤ T) : ∀ g, Asi X nb l g → Asi X nb (u :: l) g ∧ u.ownBlock ≠ some g ∧ g < T := fun g hg => by
  refine ⟨hg.cons, fun e => ?_, ?_⟩
  · have hu := h.v u (List.mem_cons_self ..) g e
    rcases hg with q | q | ⟨v, hv, q⟩
    · have := (h.x g q).2; omega
    · omega
    · exact (List.pairwise_cons.1 h.a).1 v hv g e q
  · have := h.n
    rcases hg with q | q | ⟨v, hv, q⟩
    · have := (h.x g q).2; omega
    · omega
    · have := (h.tail.v v hv g q).2; omega
theorem Wait.hXb {b B nb S : Nat} {X : Nat → Prop} {l : List Value} (h : Wait b B nb S X l) : ∀ g, Asi X nb l g → b < g := fun g hg => by
  have := h.n
  have := h.bb
  rcases hg with q | q | ⟨v, hv, q⟩
  · exact (h.x g q).1
  · omega
  · have := (h.v v hv g q).1; omega
/-- The walk's state between two lists. -/
structure Mid4 (b : Nat) (vl : Value) (k : Nat) (X : Nat → Prop) (B nb : Nat) (v0 v1 v2 v3 v4 : Value) (l : List Value) (w w' : World) : Prop where
  bk : Bk w' b vl k (Asi X nb l)
  nd : NodeB w' nb v0 v1 v2 v3 v4
  bel : Below b w w'
  keep : ∀ g, X g → w'.heap[g]? = w.heap[g]?
theorem Mid4.drew {b : Nat} {vl : Value} {k : Nat} {X : Nat → Prop} {B nb : Nat} {v0 v1 v2 v3 v4 : Value} {l : List Value} {w w' : World} (h : Mid4 b vl k X B nb v0 v1 v2 v3 v4 l w w') : Mid4 b vl k X B nb v0 v1 v2 v3 v4 l w w'.drew := ⟨h.bk, h.nd, h.bel.drew, h.keep⟩
theorem Mid4.step {b : Nat} {vl : Value} {k : Nat} {X : Nat → Prop} {B nb : Nat} {v0 v1 v2 v3 v4 u : Value} {l : List Value} {w w' w'' : World} (h : Mid4 b vl k X B nb v0 v1 v2 v3 v4 (u :: l) w w') (q1 : Bk w'' b vl (k + 4) (Asi X nb l)) (q2 : Below b w' w'') (q3 : ∀ g, Asi X nb l g → w''.heap[g]? = w'.heap[g]?) : Mid4 b vl (k + 4) X B nb v0 v1 v2 v3 v4 l w w'' :=
  ⟨q1, (q3 nb (.inr (.inl rfl))).trans h.nd, h.bel.trans q2, fun g hg => (q3 g (.inl hg)).trans (h.keep g hg)⟩
theorem Mid4.row {X : Nat → Prop} {nb : Nat} {l : List Value} {w' w'' : World} {e : TypeId} {s n : Nat} {v : Value} {xs : List Value} (hr : w'.ownsRow 0 e s v n xs) (hv : v ∈ l) (q3 : ∀ g, Asi X nb l g → w''.heap[g]? = w'.heap[g]?) : w''.ownsRow 0 e s v n xs :=
  row_same hr fun g hg _ => q3 g (.inr (.inr ⟨v, hv, hg⟩))
theorem mid_start {S b : Nat} {vl : Value} {k : Nat} {X : Nat → Prop} {B nb : Nat} {v0 v1 v2 v3 v4 : Value} {l : List Value} {w w' : World} (hB : Bk w b vl k X) (hb : Below w.heap.size w w') (hX : ∀ g, X g → g < w.heap.size) (hW : Wait b B nb S X l) (hw : w.heap.size ≤ B) (hn : NodeB w' nb v0 v1 v2 v3 v4) : Mid4 b vl k X B nb v0 v1 v2 v3 v4 l w w' := by
  refine ⟨hB.below2 hb fun g hg => ?_, hn, hb.mono (Nat.le_of_lt hB.lt), fun g hg => hb.block g (hX g hg)⟩
  have := hW.n
  rcases hg with q | q | ⟨v, hv, q⟩
  · exact .inl q
  · exact .inr (by omega)
  · exact .inr (by have := (hW.v v hv g q).1; omega)
theorem wait_of {b B nb S : Nat} {X : Nat → Prop} {w : World} {v1 v2 v3 v4 : Value} {il : List (ByteArray × ByteArray)} {cl : List Nat} {pl : List ByteArray} {ml : List (Int × ByteArray × ByteArray)} (hx : ∀ g, X g → b < g ∧ g < B) (hn : w.heap.size = nb ∧ nb < S) (hbb : b < B) (h1 : OwnsI B w v1 il) (h2 : w.ownsRow B 3 1 v2 cl.length (ncells cl)) (h3 : OwnsS B w v3 pl) (h4 : OwnsC B w v4 ml) (hBw : B ≤ w.heap.size) : Wait b B nb S X [v1, v2, v3, v4] := by
  refine ⟨hx, ⟨by omega, hn.2⟩, hbb, ?_, ?_⟩
  · intro v hv g hg
    simp only [List.mem_cons, List.not_mem_nil, or_false] at hv
    rw [← hn.1]
    rcases hv with rfl | rfl | rfl | rfl
    · exact row_from h1 g hg
    · exact row_from h2 g hg
    · exact row_from h3 g hg
    · exact row_from h4 g hg
  · refine List.pairwise_cons.2 ⟨?_, List.pairwise_cons.2 ⟨?_, List.pairwise_cons.2 ⟨?_, List.pairwise_cons.2 ⟨by simp, List.Pairwise.nil⟩⟩⟩⟩
    · intro v hv g hg hg'
      simp only [List.mem_cons, List.not_mem_nil, or_false] at hv
      rcases hv with rfl | rfl | rfl
      · exact rowsE_apart h1 h2 (by decide) g hg hg'
      · exact rowsE_apart h1 h3 (by decide) g hg hg'
      · exact rowsE_apart h1 h4 (by decide) g hg hg'
    · intro v hv g hg hg'
      simp only [List.mem_cons, List.not_mem_nil, or_false] at hv
      rcases hv with rfl | rfl
      · exact rowsE_apart h2 h3 (by decide) g hg hg'
      · exact rowsE_apart h2 h4 (by decide) g hg hg'
    · intro v hv g hg hg'
      simp only [List.mem_cons, List.not_mem_nil, or_false] at hv
      subst hv
      exact rowsE_apart h3 h4 (by decide) g hg hg'

set_option maxHeartbeats 2000000 in
set_option maxRecDepth 20000 in
theorem pagedRead_any (b : Nat) (vl : Value) (k : Nat) (X : Nat → Prop) (s : ByteArray) (c1 c3 c4 c5 c6 c7 c8 c9 c10 c11 c12 : Value) (w : World) (hB : Bk w b vl k X) (hX : ∀ g, X g → b < g ∧ g < w.heap.size) (hk : k ≤ 90000000) (hs : s.size ≤ 10000000) :
    Calls Tryz.prog 51 #[.pointer (some ⟨b, 0, none⟩), .agg #[.int .i64 4, c1, .string s, c3, c4, c5, c6, c7, c8, c9, c10, c11, c12]] w fun r w' => r = .returned (.bool true) ∧ Bk w' b vl (k + 16) X ∧ Below b w w' ∧ ∀ g, X g → w'.heap[g]? = w.heap[g]? := by
  have HA := hid ((Below.refl w.heap.size w).alloc (Nat.le_refl _) (.cells #[.int .i64 4, c1, .string s, c3, c4, c5, c6, c7, c8, c9, c10, c11, c12] 81))
  have HX := hid (heap_alloc_new w (.cells #[.int .i64 4, c1, .string s, c3, c4, c5, c6, c7, c8, c9, c10, c11, c12] 81))
  have HSZ := hid (World.size_alloc w (.cells #[.int .i64 4, c1, .string s, c3, c4, c5, c6, c7, c8, c9, c10, c11, c12] 81))
  have HBK := hid hB
  have HXX := hid hX
  clear hB hX
  have C1 := siltRead_any s.data.toList (w.alloc (.cells #[.int .i64 4, c1, .string s, c3, c4, c5, c6, c7, c8, c9, c10, c11, c12] 81))
  rw [show (⟨s.data.toList.toArray⟩ : ByteArray) = s from rfl] at C1
  have HC1 := hid C1
  have HCR : Hid (∀ W, Calls Tryz.prog 100 #[.string s] W fun r w' => ReadQ W (Pr.readR s.data.toList) r w') := fun W => refRead_any s W hs
  clear C1
  generalize Pr.readR s.data.toList = o at *
  go_enter Tryz.func51, Tryz.ntmps51
  go_wp2_with fail
  refine HC1.out.mono ?_
  clear HC1
  generalize w.alloc (.cells #[.int .i64 4, c1, .string s, c3, c4, c5, c6, c7, c8, c9, c10, c11, c12] 81) = w1 at *
  intro r w2 hq
  obtain ⟨hb2, kd, il, cl, pl, ml, u1, u2, u3, u4, ho, rfl, hv⟩ := hq.all
  clear hq
  obtain ⟨a1, k1, a2, k2, a3, k3, a4, k4, e⟩ := hv.shape
  simp only [Value.agg.injEq, Array.mk.injEq, List.cons.injEq, true_and, and_true] at e
  obtain ⟨rfl, rfl, rfl, rfl⟩ := e
  have HO := hid ho
  clear ho
  have BN := (Below.refl w2.heap.size w2).alloc (Nat.le_refl _) (.cells #[.int .i64 kd, .slice a1 il.length k1, .slice a2 cl.length k2, .slice a3 pl.length k3, .slice a4 ml.length k4] 79)
  have HN3 := hid (nodeB_new w2 (.int .i64 kd) (.slice a1 il.length k1) (.slice a2 cl.length k2) (.slice a3 pl.length k3) (.slice a4 ml.length k4))
  have HB3 := hid (hb2.trans (BN.mono hb2.size))
  have HX3 := hid ((HB3.out.block w.heap.size (Array.getElem?_eq_some_iff.1 HX.out).1).trans HX.out)
  have HV3 := hid (hv.below BN)
  have HWT : Hid (Wait b w1.heap.size w2.heap.size (w2.heap.size + 1) X [.slice a1 il.length k1, .slice a2 cl.length k2, .slice a3 pl.length k3, .slice a4 ml.length k4]) := by
    obtain ⟨x1, x2, x3, x4, e, q1, q2, q3, q4, -⟩ := hv
    simp only [Value.agg.injEq, Array.mk.injEq, List.cons.injEq, true_and, and_true] at e
    obtain ⟨rfl, rfl, rfl, rfl⟩ := e
    have hz := HSZ.out
    have hl := HBK.out.lt
    exact wait_of (fun g hg => by have := HXX.out g hg; omega) ⟨rfl, by omega⟩ (by omega) q1 q2 q3 q4 hb2.size
  have HS3 : Hid (w2.heap.size + 1 ≤ (w2.alloc (.cells #[.int .i64 kd, .slice a1 il.length k1, .slice a2 cl.length k2, .slice a3 pl.length k3, .slice a4 ml.length k4] 79)).heap.size) := by show _ ≤ _; simp
  clear hb2 hv HX BN
  have m2 : (w2.alloc (.cells #[.int .i64 kd, .slice a1 il.length k1, .slice a2 cl.length k2, .slice a3 pl.length k3, .slice a4 ml.length k4] 79)).cell? ⟨w.heap.size, 2, none⟩ = some (.string s) := by
    have := HX3.out
    simp only [World.cell?, this]; rfl
  go_wp2_with fail
  generalize w2.alloc (.cells #[.int .i64 kd, .slice a1 il.length k1, .slice a2 cl.length k2, .slice a3 pl.length k3, .slice a4 ml.length k4] 79) = w3 at *
  generalize w2.heap.size = nb at *
  refine (HCR.out w3).mono ?_
  intro r w4 hq
  obtain ⟨hb4, kd', il', cl', pl', ml', u1, u2, u3, u4, ho', rfl, hv⟩ := hq.all
  clear hq HCR m2
  rw [HO.out] at ho'
  obtain ⟨rfl, rfl, rfl, rfl, rfl⟩ := nodeOf_inj ho'
  clear ho' HO
  obtain ⟨e1, h1, e2, h2, e3, h3, e4, h4, e⟩ := hv.shape
  simp only [Value.agg.injEq, Array.mk.injEq, List.cons.injEq, true_and, and_true] at e
  obtain ⟨rfl, rfl, rfl, rfl⟩ := e
  have BN := (Below.refl w4.heap.size w4).alloc (Nat.le_refl _) (.cells #[.int .i64 kd, .slice e1 il.length h1, .slice e2 cl.length h2, .slice e3 pl.length h3, .slice e4 ml.length h4] 79)
  have HM5 := hid (nodeB_new w4 (.int .i64 kd) (.slice e1 il.length h1) (.slice e2 cl.length h2) (.slice e3 pl.length h3) (.slice e4 ml.length h4))
  have HD5 := hid (hb4.trans (BN.mono hb4.size))
  have HB5 := hid (HB3.out.trans (HD5.out.mono HB3.out.size))
  have HN5 := hid (HN3.out.keep HD5.out)
  have HV5 := hid (HV3.out.below HD5.out)
  have HU5 := hid (hv.below BN)
  clear hb4 hv BN HB3 HN3 HX3
  obtain ⟨f0, f1, f2, f3, f4⟩ := nb_cells HN5.out
  obtain ⟨g0, g1, g2, g3, g4⟩ := nb_cells HM5.out
  go_wp2_with fail
  generalize w4.alloc (.cells #[.int .i64 kd, .slice e1 il.length h1, .slice e2 cl.length h2, .slice e3 pl.length h3, .slice e4 ml.length h4] 79) = w5 at *
  generalize w4.heap.size = mb at *
  refine (lawSame_any _ _ kd il (cl.map Int.ofNat) pl ml w5 HV5.out.isNode HU5.out.isNode).mono ?_
  rintro r w6 ⟨rfl, hb6⟩
  have HB6 := hid (HB5.out.trans (hb6.mono HB5.out.size))
  have HN6 := hid (HN5.out.keep hb6)
  have HV6 := hid (HV5.out.below hb6)
  have HS6 : Hid (nb + 1 ≤ w6.heap.size) := Nat.le_trans HS3.out (Nat.le_trans HD5.out.size hb6.size)
  have HMD : Hid (Mid4 b vl k X w1.heap.size nb (.int .i64 kd) (.slice a1 il.length k1) (.slice a2 cl.length k2) (.slice a3 pl.length k3) (.slice a4 ml.length k4) [.slice a1 il.length k1, .slice a2 cl.length k2, .slice a3 pl.length k3, .slice a4 ml.length k4] w w6) :=
    mid_start HBK.out (HA.out.trans (HB6.out.mono HA.out.size)) (fun g hg => (HXX.out g hg).2) HWT.out HA.out.size HN6.out
  obtain ⟨x1, x2, x3, x4, e, q1, q2, q3, q4, bl1, bl2, bl3, bl4⟩ := HV6.out
  simp only [Value.agg.injEq, Array.mk.injEq, List.cons.injEq, true_and, and_true] at e
  obtain ⟨rfl, rfl, rfl, rfl⟩ := e
  have R1 := hid (row_zero q1)
  have R2 := hid (row_zero q2)
  have R3 := hid (row_zero q3)
  have R4 := hid (row_zero q4)
  clear q1 q2 q3 q4 hb6 HB5 HN5 HV5 HB6 HV6 HU5 HM5 HD5 HN6 HV3 HS3 f0 f1 f2 f3 f4 g0 g1 g2 g3 g4 HBK HXX HA
  generalize errOf o = er at *
  obtain ⟨f0, f1, f2, f3, f4⟩ := nb_cells HMD.out.nd
  have HC1 := hid (ownItems_bk b vl k (Asi X nb [.slice a1 il.length k1, .slice a2 cl.length k2, .slice a3 pl.length k3, .slice a4 ml.length k4]) (Asi X nb [.slice a2 cl.length k2, .slice a3 pl.length k3, .slice a4 ml.length k4]) (.slice a1 il.length k1) il.length _ w6.drew HMD.out.drew.bk R1.out (by omega) (by omega) HWT.out.hl (HWT.out.hX HS6.out) HWT.out.hXb)
  go_upto_region 12 with fail
  go_cut [] (fun wx => Mid4 b vl (k + 4) X w1.heap.size nb (.int .i64 kd) (.slice a1 il.length k1) (.slice a2 cl.length k2) (.slice a3 pl.length k3) (.slice a4 ml.length k4) [.slice a2 cl.length k2, .slice a3 pl.length k3, .slice a4 ml.length k4] w wx ∧ nb + 1 ≤ wx.heap.size ∧ wx.ownsRow 0 3 1 (.slice a2 cl.length k2) cl.length (ncells cl) ∧ wx.ownsRow 0 9 1 (.slice a3 pl.length k3) pl.length (strs pl) ∧ wx.ownsRow 0 34 3 (.slice a4 ml.length k4) ml.length (ccells ml))
  case first =>
    go_region_law (go_simp; refine HC1.out.mono ?_; rintro r w7 ⟨rfl, p1, p2, p3⟩)
    all_goals
      have HP : Hid (_ ∧ _ ∧ _ ∧ _ ∧ _) := ⟨HMD.out.drew.step p1 p2 p3, Nat.le_trans HS6.out p2.size, Mid4.row R2.out (by simp) p3, Mid4.row R3.out (by simp) p3, Mid4.row R4.out (by simp) p3⟩
      clear p1 p2 p3 f0 f1 f2 f3 f4
      go_wp2_with fail
      go_meet
      exact HP.out
  case rest =>
    obtain ⟨hm7, hs7, r2, r3, r4⟩ := hcut
    clear HMD R1 R2 R3 R4 HC1 HS6 f0 f1 f2 f3 f4
    have HMD := hid hm7
    have HS7 := hid hs7
    have R3 := hid r3
    have R4 := hid r4
    have HWT2 := hid HWT.out.tail
    clear HWT
    obtain ⟨f0, f1, f2, f3, f4⟩ := nb_cells hm7.nd
    have HC1 := hid (ownNumbers_bk b vl (k + 4) (Asi X nb [.slice a2 cl.length k2, .slice a3 pl.length k3, .slice a4 ml.length k4]) (Asi X nb [.slice a3 pl.length k3, .slice a4 ml.length k4]) (.slice a2 cl.length k2) cl.length _ wc.drew HMD.out.drew.bk r2 (by omega) (by omega) HWT2.out.hl (HWT2.out.hX HS7.out) HWT2.out.hXb)
    clear hm7 hs7 r2 r3 r4
    go_upto_region 13 with fail
    go_cut [] (fun wx => Mid4 b vl (k + 8) X w1.heap.size nb (.int .i64 kd) (.slice a1 il.length k1) (.slice a2 cl.length k2) (.slice a3 pl.length k3) (.slice a4 ml.length k4) [.slice a3 pl.length k3, .slice a4 ml.length k4] w wx ∧ nb + 1 ≤ wx.heap.size ∧ wx.ownsRow 0 9 1 (.slice a3 pl.length k3) pl.length (strs pl) ∧ wx.ownsRow 0 34 3 (.slice a4 ml.length k4) ml.length (ccells ml))
    case first =>
      go_region_law (go_simp; refine HC1.out.mono ?_; rintro r w7 ⟨rfl, p1, p2, p3⟩)
      all_goals
        have HP : Hid (_ ∧ _ ∧ _ ∧ _) := ⟨HMD.out.drew.step p1 p2 p3, Nat.le_trans HS7.out p2.size, Mid4.row R3.out (by simp) p3, Mid4.row R4.out (by simp) p3⟩
        clear p1 p2 p3 f0 f1 f2 f3 f4
        go_wp2_with fail
        go_meet
        exact HP.out
    case rest =>
      obtain ⟨hm7, hs7, r3, r4⟩ := hcut
      clear HMD R3 R4 HC1 HS7 f0 f1 f2 f3 f4
      have HMD := hid hm7
      have HS7 := hid hs7
      have R4 := hid r4
      have HWT := hid HWT2.out.tail
      clear HWT2
      obtain ⟨f0, f1, f2, f3, f4⟩ := nb_cells hm7.nd
      have HC1 := hid (ownTexts_bk b vl (k + 8) (Asi X nb [.slice a3 pl.length k3, .slice a4 ml.length k4]) (Asi X nb [.slice a4 ml.length k4]) (.slice a3 pl.length k3) pl.length _ wc.drew HMD.out.drew.bk r3 (by omega) (by omega) HWT.out.hl (HWT.out.hX HS7.out) HWT.out.hXb)
      clear hm7 hs7 r3 r4
      go_upto_region 14 with fail
      go_cut [] (fun wx => Mid4 b vl (k + 12) X w1.heap.size nb (.int .i64 kd) (.slice a1 il.length k1) (.slice a2 cl.length k2) (.slice a3 pl.length k3) (.slice a4 ml.length k4) [.slice a4 ml.length k4] w wx ∧ nb + 1 ≤ wx.heap.size ∧ wx.ownsRow 0 34 3 (.slice a4 ml.length k4) ml.length (ccells ml))
      case first =>
        go_region_law (go_simp; refine HC1.out.mono ?_; rintro r w7 ⟨rfl, p1, p2, p3⟩)
        all_goals
          have HP : Hid (_ ∧ _ ∧ _) := ⟨HMD.out.drew.step p1 p2 p3, Nat.le_trans HS7.out p2.size, Mid4.row R4.out (by simp) p3⟩
          clear p1 p2 p3 f0 f1 f2 f3 f4
          go_wp2_with fail
          go_meet
          exact HP.out
      case rest =>
        obtain ⟨hm7, hs7, r4⟩ := hcut
        clear HMD R4 HC1 HS7 f0 f1 f2 f3 f4
        have HMD := hid hm7
        have HS7 := hid hs7
        have HWT2 := hid HWT.out.tail
        obtain ⟨f0, f1, f2, f3, f4⟩ := nb_cells hm7.nd
        have HC1 := hid (ownChanges_bk b vl (k + 12) (Asi X nb [.slice a4 ml.length k4]) (Asi X nb []) (.slice a4 ml.length k4) ml.length _ wc.drew HMD.out.drew.bk r4 (by omega) (by omega) HWT2.out.hl (HWT2.out.hX HS7.out) HWT2.out.hXb)
        clear hm7 hs7 r4
        go_upto_region 15 with fail
        go_cut [] (fun wx => Bk wx b vl (k + 16) X ∧ Below b w wx ∧ ∀ g, X g → wx.heap[g]? = w.heap[g]?)
        case first =>
          go_region_law (go_simp; refine HC1.out.mono ?_; rintro r w7 ⟨rfl, p1, p2, p3⟩)
          all_goals
            have HM := HMD.out.drew.step p1 p2 p3
            have HP : Hid (Bk w7 b vl (k + 16) X ∧ Below b w w7 ∧ ∀ g, X g → w7.heap[g]? = w.heap[g]?) := ⟨HM.bk.below2 (Below.refl _ _) (fun g hg => .inl (.inl hg)), HM.bel, HM.keep⟩
            clear p1 p2 p3 HM f0 f1 f2 f3 f4
            go_wp2_with fail
            go_meet
            exact HP.out
        case rest =>
          have HE := hid hcut
          clear hcut HMD HC1 f0 f1 f2 f3 f4 HWT HWT2 HS7
          go_wp2_with (go_at_call 96; refine (num_any _ _).mono ?_; rintro e w' ⟨rfl, rfl⟩)
          go_ret
          exact ⟨rfl, HE.out⟩
end Go.Proofs.YtolgpnaoaodepaaGreat
/- Plain mathematics: old pages, as the reference reads them and as the program does. -/
namespace Go.Proofs.YtolgpnaoaodepaaGreat.Pr
open Pg
/-- A node's old page. -/
def oldT (n : NodeT) : List UInt8 := if n.1 = 1 then oldLeaf n.2.1 else oldBranch n.2.2.1 n.2.2.2.1 n.2.2.2.2
/- What is read was written so. -/
theorem numR_inv : ∀ (f c n : Nat) (t : List UInt8) (m : Nat) (u : List UInt8), 0 < c → numR f c n t = some (m, u) → ∃ k, m = n + k * c ∧ t = num k ++ u ∧ (c ≠ 1 → 0 < k)
  | 0, _, _, _, _, _, _, h => by simp [numR] at h
  | f + 1, c, n, [], _, _, _, h => by simp [numR] at h
  | f + 1, c, n, b :: t, m, u, hc, h => by
    unfold numR at h
    split at h
    · simp at h
    · split at h
      · rename_i hb
        split at h
        · simp at h
        · rename_i hz
          simp only [Option.some.injEq, Prod.mk.injEq] at h
          refine ⟨b.toNat, by rw [← h.1, Nat.mod_eq_of_lt hb], ?_, fun hc1 => ?_⟩
          · rw [num_small _ hb, low, low, ← h.2]
            have : (UInt8.ofNat (b.toNat % 256)) = b := by rw [Nat.mod_eq_of_lt b.toNat_lt]; simp
            rw [this]; rfl
          · rcases Nat.eq_zero_or_pos b.toNat with h0 | h0
            · exact absurd ⟨h0, hc1⟩ hz
            · exact h0
      · rename_i hb
        obtain ⟨k, e1, e2, e3⟩ := numR_inv f (128 * c) _ t m u (by omega) h
        have hk := e3 (by omega)
        have hbl : b.toNat < 256 := b.toNat_lt
        refine ⟨b.toNat % 128 + 128 * k, ?_, ?_, fun _ => by omega⟩
        · rw [e1, Nat.add_mul, Nat.mul_assoc, Nat.mul_left_comm 128 k c, Nat.add_assoc]
        · rw [num_big _ (by omega), low, low]
          have h1 : (128 + (b.toNat % 128 + 128 * k) % 128) % 256 = b.toNat := by omega
          have h2 : (b.toNat % 128 + 128 * k) / 128 = k := by omega
          rw [h1, h2, e2]; simp
theorem numberR_inv {t u : List UInt8} {m : Nat} (h : numberR t = some (m, u)) : t = num m ++ u := by
  obtain ⟨k, e1, e2, -⟩ := numR_inv 5 1 0 t m u (by decide) h
  rw [e2, e1]; simp
theorem textR_inv {t x u : List UInt8} (h : textR t = some (x, u)) : t = text x ++ u := by
  unfold textR at h
  split at h
  · rename_i n v hn
    obtain ⟨h1, h2⟩ := takeR_len h
    rw [numberR_inv hn, h2]; unfold text; rw [h1]; simp
  · simp at h
theorem byteR_inv {t u : List UInt8} {b : UInt8} (h : byteR t = some (b, u)) : t = low b.toNat 1 ++ u := by
  rw [byteR_len h]
  have : b.toNat < 256 := b.toNat_lt
  simp only [low]; rw [Nat.mod_eq_of_lt this]; simp
def oldItsR : Nat → List UInt8 → Option (Its × List UInt8)
  | 0, t => some ([], t)
  | n + 1, t => (textR t).bind fun k => (textR k.2).bind fun v => (oldItsR n v.2).map fun r => ((k.1, v.1) :: r.1, r.2)
def longR (t : List UInt8) : Option (Nat × List UInt8) := (takeR 4 t).map fun x => (high x.1, x.2)
def longsR : Nat → List UInt8 → Option (List Nat × List UInt8)
  | 0, t => some ([], t)
  | n + 1, t => (longR t).bind fun x => (longsR n x.2).map fun r => (x.1 :: r.1, r.2)
theorem longR_inv {t u : List UInt8} {n : Nat} (h : longR t = some (n, u)) : t = low n 4 ++ u ∧ n < 4294967296 := by
  unfold longR at h
  cases h1 : takeR 4 t with
  | none => rw [h1] at h; simp at h
  | some x =>
    rw [h1] at h
    simp only [Option.map_some, Option.some.injEq, Prod.mk.injEq] at h
    obtain ⟨e1, e2⟩ := takeR_len h1
    have := low_high x.1
    rw [e1] at this
    rw [← h.1, ← h.2, this]
    exact ⟨e2, high_lt _ 4 (by omega)⟩
theorem longR_low (n : Nat) (t : List UInt8) (h : n < 4294967296) : longR (low n 4 ++ t) = some (n, t) := by
  unfold longR
  have := takeR_append (low n 4) t
  rw [low_len] at this
  rw [this]
  simp only [Option.map_some]
  rw [high_low 4 n (by simpa using h)]
theorem oldIts_inv : ∀ (n : Nat) (t : List UInt8) (l : Its) (u : List UInt8), oldItsR n t = some (l, u) → t = oldItems l ++ u ∧ l.length = n
  | 0, t, l, u, h => by simp [oldItsR] at h; rw [h.1, h.2]; simp [oldItems]
  | n + 1, t, l, u, h => by
    rw [oldItsR] at h
    cases h1 : textR t with
    | none => rw [h1] at h; simp at h
    | some k =>
      rw [h1] at h; simp only [Option.bind_some] at h
      cases h2 : textR k.2 with
      | none => rw [h2] at h; simp at h
      | some v =>
        rw [h2] at h; simp only [Option.bind_some] at h
        cases h3 : oldItsR n v.2 with
        | none => rw [h3] at h; simp at h
        | some r =>
          rw [h3] at h
          simp only [Option.map_some, Option.some.injEq, Prod.mk.injEq] at h
          obtain ⟨e1, e2⟩ := oldIts_inv n v.2 r.1 r.2 h3
          rw [textR_inv h1, textR_inv h2, e1, ← h.1, ← h.2, oldItems, List.length_cons, e2]
          simp
theorem oldIts_is : ∀ (l : Its) (t : List UInt8), (∀ x ∈ l, x.1.length ≤ 12 ∧ x.2.length ≤ 16) → oldItsR l.length (oldItems l ++ t) = some (l, t)
  | [], t, _ => rfl
  | (k, v) :: r, t, h => by
    have hx := h (k, v) (by simp)
    simp only at hx
    rw [List.length_cons, oldItsR, oldItems, List.append_assoc, List.append_assoc, textR_text k _ (by omega)]
    simp only [Option.bind_some]
    rw [textR_text v _ (by omega)]
    simp only [Option.bind_some]
    rw [oldIts_is r t fun y hy => h y (by simp [hy])]
    rfl
theorem longs_inv : ∀ (n : Nat) (t : List UInt8) (l : List Nat) (u : List UInt8), longsR n t = some (l, u) → t = l.flatMap (fun c => low c 4) ++ u ∧ l.length = n ∧ ∀ c ∈ l, c < 4294967296
  | 0, t, l, u, h => by simp [longsR] at h; rw [h.1, h.2]; simp
  | n + 1, t, l, u, h => by
    rw [longsR] at h
    cases h1 : longR t with
    | none => rw [h1] at h; simp at h
    | some k =>
      rw [h1] at h; simp only [Option.bind_some] at h
      cases h3 : longsR n k.2 with
      | none => rw [h3] at h; simp at h
      | some r =>
        rw [h3] at h
        simp only [Option.map_some, Option.some.injEq, Prod.mk.injEq] at h
        obtain ⟨e1, e2, e3⟩ := longs_inv n k.2 r.1 r.2 h3
        obtain ⟨f1, f2⟩ := longR_inv h1
        rw [f1, e1, ← h.1, ← h.2, List.flatMap_cons, List.length_cons, e2]
        refine ⟨by simp, rfl, fun c hc => ?_⟩
        rcases List.mem_cons.1 hc with rfl | hc
        · exact f2
        · exact e3 c hc
theorem longs_is : ∀ (l : List Nat) (t : List UInt8), (∀ c ∈ l, c < 4294967296) → longsR l.length (l.flatMap (fun c => low c 4) ++ t) = some (l, t)
  | [], t, _ => rfl
  | x :: r, t, h => by
    rw [List.length_cons, longsR, List.flatMap_cons, List.append_assoc, longR_low x _ (h x (by simp))]
    simp only [Option.bind_some]
    rw [longs_is r t fun y hy => h y (by simp [hy])]
    rfl
theorem pivots_inv : ∀ (n : Nat) (t : List UInt8) (l : List (List UInt8)) (u : List UInt8), pivotsR n t = some (l, u) → t = l.flatMap text ++ u ∧ l.length = n
  | 0, t, l, u, h => by simp [pivotsR] at h; rw [h.1, h.2]; simp
  | n + 1, t, l, u, h => by
    rw [pivotsR] at h
    cases h1 : textR t with
    | none => rw [h1] at h; simp at h
    | some k =>
      rw [h1] at h; simp only [Option.bind_some] at h
      cases h3 : pivotsR n k.2 with
      | none => rw [h3] at h; simp at h
      | some r =>
        rw [h3] at h
        simp only [Option.map_some, Option.some.injEq, Prod.mk.injEq] at h
        obtain ⟨e1, e2⟩ := pivots_inv n k.2 r.1 r.2 h3
        rw [textR_inv h1, e1, ← h.1, ← h.2, List.flatMap_cons, List.length_cons, e2]
        simp
theorem changes_inv : ∀ (n : Nat) (t : List UInt8) (l : List (Int × List UInt8 × List UInt8)) (u : List UInt8), changesR n t = some (l, u) → t = l.flatMap change1 ++ u ∧ l.length = n
  | 0, t, l, u, h => by simp [changesR] at h; rw [h.1, h.2]; simp
  | n + 1, t, l, u, h => by
    rw [changesR] at h
    cases h1 : byteR t with
    | none => rw [h1] at h; simp at h
    | some b =>
      rw [h1] at h; simp only [Option.bind_some] at h
      cases h2 : textR b.2 with
      | none => rw [h2] at h; simp at h
      | some k =>
        rw [h2] at h; simp only [Option.bind_some] at h
        split at h
        · rename_i hb
          cases h3 : changesR n k.2 with
          | none => rw [h3] at h; simp at h
          | some r =>
            rw [h3] at h
            simp only [Option.map_some, Option.some.injEq, Prod.mk.injEq] at h
            obtain ⟨e1, e2⟩ := changes_inv n k.2 r.1 r.2 h3
            rw [byteR_inv h1, textR_inv h2, e1, ← h.1, ← h.2, List.flatMap_cons, List.length_cons, e2, hb]
            simp [change1]
        · rename_i hb
          cases h4 : textR k.2 with
          | none => rw [h4] at h; simp at h
          | some v =>
            rw [h4] at h; simp only [Option.bind_some] at h
            cases h3 : changesR n v.2 with
            | none => rw [h3] at h; simp at h
            | some r =>
              rw [h3] at h
              simp only [Option.map_some, Option.some.injEq, Prod.mk.injEq] at h
              obtain ⟨e1, e2⟩ := changes_inv n v.2 r.1 r.2 h3
              rw [byteR_inv h1, textR_inv h2, textR_inv h4, e1, ← h.1, ← h.2, List.flatMap_cons, List.length_cons, e2]
              have : ¬ ((b.1.toNat : Int) = 2) := by omega
              simp [change1, this]
theorem chgs_inv {t u : List UInt8} {l : List (Int × List UInt8 × List UInt8)} (h : chgsR t = some (l, u)) : t = changes l ++ u ∧ l.length ≤ 255 := by
  unfold chgsR at h
  cases h1 : byteR t with
  | none => rw [h1] at h; simp at h
  | some b =>
    rw [h1] at h; simp only [Option.bind_some] at h
    obtain ⟨e1, e2⟩ := changes_inv _ _ _ _ h
    have hb : b.1.toNat < 256 := b.1.toNat_lt
    refine ⟨?_, by omega⟩
    unfold changes
    rw [byteR_inv h1, e1, e2, List.append_assoc]
/-- An old leaf's inside. -/
def oldLfR (t : List UInt8) : Option (Its × List UInt8) := (byteR t).bind fun b => oldItsR b.1.toNat b.2
/-- An old branch's inside. -/
def oldBrR (t : List UInt8) : Option ((List Nat × List (List UInt8) × List (Int × List UInt8 × List UInt8)) × List UInt8) := (byteR t).bind fun b => (longsR b.1.toNat b.2).bind fun x => (pivotsR (b.1.toNat - 1) x.2).bind fun p => (chgsR p.2).map fun m => ((x.1, p.1, m.1), m.2)
def oldInR (k : UInt8) (t : List UInt8) : Option (NodeT × List UInt8) := if k = 76 then (oldLfR t).map fun x => ((1, x.1, [], [], []), x.2) else if k = 73 then (oldBrR t).map fun x => ((2, [], x.1.1, x.1.2.1, x.1.2.2), x.2) else none
def unsealR (t : List UInt8) : Option (List UInt8) := if 4 ≤ t.length then (if high (t.drop (t.length - 4)) = crc (t.take (t.length - 4)) then some (t.take (t.length - 4)) else none) else none
def oldR (t : List UInt8) : Option NodeT := (unsealR t).bind fun b => (takeR 2 b).bind fun a => (byteR a.2).bind fun k => (oldInR k.1 k.2).bind fun x => if x.2 = [] ∧ wellT x.1 = true then some x.1 else none
/-- What Renew tells. -/
def renewR (t : List UInt8) : Option (List UInt8) := if t.take 2 = [83, 49] then (oldR t).map pageT else (readR t).map pageT
theorem unseal_is {t b : List UInt8} (h : unsealR t = some b) : t = sealed b := by
  unfold unsealR at h
  split at h
  · rename_i h4
    split at h
    · rename_i hc
      simp only [Option.some.injEq] at h
      have hl : (t.drop (t.length - 4)).length = 4 := by rw [List.length_drop]; omega
      have := low_high (t.drop (t.length - 4))
      rw [hl, hc, h] at this
      unfold sealed
      rw [this, ← h, List.take_append_drop]
    · simp at h
  · simp at h
theorem unseal_sealed (b : List UInt8) : unsealR (sealed b) = some b := by
  unfold unsealR sealed
  have hl : (b ++ low (crc b) 4).length = b.length + 4 := by rw [List.length_append, low_len]
  rw [if_pos (by omega), hl, Nat.add_sub_cancel, List.drop_left, List.take_left, high_low 4 _ (by have := crc_lt b; simpa using this), if_pos rfl]
theorem okChange_kind {c : Int × List UInt8 × List UInt8} (h : okChange c = true) : (c.1 = 1 ∨ c.1 = 3 ∨ (c.1 = 2 ∧ c.2.2 = [])) ∧ c.2.1.length ≤ 12 ∧ c.2.2.length ≤ 16 := by
  simp only [okChange, isChange, Bool.and_eq_true, Bool.or_eq_true, decide_eq_true_eq] at h
  have hk := isKey_le h.1.1
  refine ⟨?_, hk, h.1.2⟩
  rcases h.2 with (h | h) | h
  · exact .inl h
  · exact .inr (.inl h)
  · exact .inr (.inr ⟨h.1, List.length_eq_zero_iff.1 h.2⟩)
/-- What the program takes for an old page is one. -/
theorem oldR_is {t : List UInt8} {n : NodeT} (h : oldR t = some n) (hp : t.take 2 = [83, 49]) : wellT n = true ∧ oldT n = t := by
  unfold oldR at h
  cases h1 : unsealR t with
  | none => rw [h1] at h; simp at h
  | some b =>
    rw [h1] at h; simp only [Option.bind_some] at h
    cases h2 : takeR 2 b with
    | none => rw [h2] at h; simp at h
    | some a =>
      rw [h2] at h; simp only [Option.bind_some] at h
      cases h3 : byteR a.2 with
      | none => rw [h3] at h; simp at h
      | some k =>
        rw [h3] at h; simp only [Option.bind_some] at h
        cases h4 : oldInR k.1 k.2 with
        | none => rw [h4] at h; simp at h
        | some x =>
          rw [h4] at h; simp only [Option.bind_some] at h
          split at h
          · rename_i hw
            simp only [Option.some.injEq] at h
            subst h
            refine ⟨hw.2, ?_⟩
            have ht := unseal_is h1
            obtain ⟨e1, e2⟩ := takeR_len h2
            have e3 := byteR_len h3
            have ha : a.1 = [83, 49] := by
              have : t.take 2 = a.1 := by
                rw [ht, e2]; unfold sealed
                rw [List.append_assoc, takeL e1]
              rw [← this, hp]
            rw [ht]
            unfold oldInR at h4
            split at h4
            · rename_i hk
              cases h5 : oldLfR k.2 with
              | none => rw [h5] at h4; simp at h4
              | some y =>
                rw [h5] at h4
                simp only [Option.map_some, Option.some.injEq] at h4
                rw [← h4] at hw ⊢
                unfold oldLfR at h5
                cases h6 : byteR k.2 with
                | none => rw [h6] at h5; simp at h5
                | some z =>
                  rw [h6] at h5; simp only [Option.bind_some] at h5
                  obtain ⟨f1, f2⟩ := oldIts_inv _ _ _ _ h5
                  show oldLeaf y.1 = _
                  unfold oldLeaf
                  rw [e2, e3, ha, hk, byteR_inv h6, f1, hw.1, f2]
                  simp
            · split at h4
              · rename_i hk
                cases h5 : oldBrR k.2 with
                | none => rw [h5] at h4; simp at h4
                | some y =>
                  rw [h5] at h4
                  simp only [Option.map_some, Option.some.injEq] at h4
                  rw [← h4] at hw ⊢
                  unfold oldBrR at h5
                  cases h6 : byteR k.2 with
                  | none => rw [h6] at h5; simp at h5
                  | some z =>
                    rw [h6] at h5; simp only [Option.bind_some] at h5
                    cases h7 : longsR z.1.toNat z.2 with
                    | none => rw [h7] at h5; simp at h5
                    | some xx =>
                      rw [h7] at h5; simp only [Option.bind_some] at h5
                      cases h8 : pivotsR (z.1.toNat - 1) xx.2 with
                      | none => rw [h8] at h5; simp at h5
                      | some p =>
                        rw [h8] at h5; simp only [Option.bind_some] at h5
                        cases h9 : chgsR p.2 with
                        | none => rw [h9] at h5; simp at h5
                        | some m =>
                          rw [h9] at h5
                          simp only [Option.map_some, Option.some.injEq] at h5
                          obtain ⟨f1, f2, -⟩ := longs_inv _ _ _ _ h7
                          obtain ⟨g1, -⟩ := pivots_inv _ _ _ _ h8
                          obtain ⟨i1, -⟩ := chgs_inv h9
                          rw [← h5] at hw ⊢
                          simp only at hw
                          show oldBranch xx.1 p.1 m.1 = _
                          unfold oldBranch
                          rw [e2, e3, ha, hk, byteR_inv h6, f1, g1, i1, hw.1, f2]
                          simp
              · simp at h4
          · simp at h
/-- An old page the program takes. -/
theorem oldR_old {n : NodeT} (h : wellT n = true) : oldR (oldT n) = some n ∧ (oldT n).take 2 = [83, 49] := by
  by_cases hk : n.1 = 1
  · obtain ⟨l, rfl, hf, h16⟩ := well_leaf h hk
    have ho : oldT (1, l, [], [], []) = sealed ([83, 49] ++ (76 :: (UInt8.ofNat (l.length % 256) :: (oldItems l ++ [])))) := by
      show oldLeaf l = _
      unfold oldLeaf; simp [low]
    have hb : (UInt8.ofNat (l.length % 256)).toNat = l.length := by rw [UInt8.toNat_ofNat']; omega
    have hs : ∀ x ∈ l, x.1.length ≤ 12 ∧ x.2.length ≤ 16 := fun x hx => ⟨isKey_le (hf.1 x hx).1, (hf.1 x hx).2⟩
    rw [ho]
    refine ⟨?_, by unfold sealed; simp⟩
    unfold oldR
    rw [unseal_sealed]
    simp only [Option.bind_some]
    rw [show takeR 2 ([83, 49] ++ (76 :: (UInt8.ofNat (l.length % 256) :: (oldItems l ++ [])))) = some ([83, 49], 76 :: (UInt8.ofNat (l.length % 256) :: (oldItems l ++ []))) from takeR_append [83, 49] _]
    simp only [Option.bind_some, byteR, oldInR, if_true, oldLfR, hb]
    rw [oldIts_is l [] hs]
    simp [h]
  · obtain ⟨cl, pl, ml, rfl, a1, a2, a3, a4, a5, a6⟩ := well_branch h hk
    have ho : oldT (2, [], cl, pl, ml) = sealed ([83, 49] ++ (73 :: (UInt8.ofNat (cl.length % 256) :: (cl.flatMap (fun c => low c 4) ++ (pl.flatMap text ++ (changes ml ++ [])))))) := by
      show oldBranch cl pl ml = _
      unfold oldBranch; simp [low]
    have hb : (UInt8.ofNat (cl.length % 256)).toNat = cl.length := by rw [UInt8.toNat_ofNat']; omega
    rw [ho]
    refine ⟨?_, by unfold sealed; simp⟩
    unfold oldR
    rw [unseal_sealed]
    simp only [Option.bind_some]
    rw [show takeR 2 ([83, 49] ++ (73 :: (UInt8.ofNat (cl.length % 256) :: (cl.flatMap (fun c => low c 4) ++ (pl.flatMap text ++ (changes ml ++ [])))))) = some ([83, 49], 73 :: (UInt8.ofNat (cl.length % 256) :: (cl.flatMap (fun c => low c 4) ++ (pl.flatMap text ++ (changes ml ++ []))))) from takeR_append [83, 49] _]
    have e7 : ¬ ((73 : UInt8) = 76) := by decide
    simp only [Option.bind_some, byteR, oldInR, if_neg e7, if_true, oldBrR, hb]
    rw [longs_is cl _ (fun c hc => by have := a1 c hc; omega)]
    simp only [Option.bind_some]
    rw [show cl.length - 1 = pl.length by omega, pivotsR_is pl _ a2]
    simp only [Option.bind_some]
    rw [chgsR_changes ml [] (by omega) (fun c hc => okChange_kind (a3 c hc))]
    simp [h]
end Go.Proofs.YtolgpnaoaodepaaGreat.Pr
namespace Go.Proofs.YtolgpnaoaodepaaGreat.Pg
open Pr
def rdIts : Nat → Cur → Its × Cur
  | 0, c => ([], c)
  | n + 1, c => if c.bad = true then ([], c) else (((c.text 12).1, ((c.text 12).2.text 16).1) :: (rdIts n ((c.text 12).2.text 16).2).1, (rdIts n ((c.text 12).2.text 16).2).2)
def rdLongs : Nat → Cur → List Nat × Cur
  | 0, c => ([], c)
  | n + 1, c => if c.bad = true then ([], c) else (high (c.take 4).1 :: (rdLongs n (c.take 4).2).1, (rdLongs n (c.take 4).2).2)
theorem rdIts_is : ∀ (l : Its) (t : List UInt8), (∀ x ∈ l, x.1.length ≤ 12 ∧ x.2.length ≤ 16) → rdIts l.length ⟨oldItems l ++ t, false⟩ = (l, ⟨t, false⟩)
  | [], t, _ => rfl
  | (k, v) :: r, t, h => by
    have hx := h (k, v) (by simp)
    simp only at hx
    rw [List.length_cons, rdIts, if_neg (by simp), oldItems, List.append_assoc, List.append_assoc, cur_text k _ 12 hx.1 (by omega)]
    simp only
    rw [cur_text v _ 16 hx.2 (by omega)]
    simp only
    rw [rdIts_is r t fun y hy => h y (by simp [hy])]
theorem rdLongs_is : ∀ (l : List Nat) (t : List UInt8), (∀ c ∈ l, c < 4294967296) → rdLongs l.length ⟨l.flatMap (fun c => low c 4) ++ t, false⟩ = (l, ⟨t, false⟩)
  | [], t, _ => rfl
  | x :: r, t, h => by
    rw [List.length_cons, rdLongs, if_neg (by simp), List.flatMap_cons, List.append_assoc, cur_take' _ _ (low_len 4 x)]
    simp only
    rw [rdLongs_is r t fun y hy => h y (by simp [hy]), high_low 4 x (by have := h x (by simp); simpa using this)]
def oM (t : List UInt8) : List UInt8 × Cur := (⟨t, false⟩ : Cur).take 3
def oK (t : List UInt8) : Nat := (oM t).2.byte
def oC (t : List UInt8) : Cur := ((oM t).2.take 1).2
/-- What the reference's old reads, and what is left. -/
def refOld (t : List UInt8) : NodeT × Cur :=
  if (oM t).1 = [83, 49, 76] then ((1, (rdIts (oK t) (oC t)).1, [], [], []), (rdIts (oK t) (oC t)).2)
  else ((2, [], (rdLongs (oK t) (oC t)).1, (rdTexts (oK t - 1) (rdLongs (oK t) (oC t)).2).1, (chAt (rdTexts (oK t - 1) (rdLongs (oK t) (oC t)).2).2).1), (chAt (rdTexts (oK t - 1) (rdLongs (oK t) (oC t)).2).2).2)
def oEnd (t : List UInt8) : Bool := ((refOld t).2.take 4).2.ends
theorem refOld_is {n : NodeT} (h : wellT n = true) : (refOld (oldT n)).1 = n ∧ oEnd (oldT n) = true := by
  have key : ∃ z, z.length = 4 ∧ refOld (oldT n) = (n, ⟨z, false⟩) := by
    by_cases hk : n.1 = 1
    · obtain ⟨l, rfl, hf, h16⟩ := Pr.well_leaf h hk
      have hb : (UInt8.ofNat (l.length % 256)).toNat = l.length := by rw [UInt8.toNat_ofNat']; omega
      have hs : ∀ x ∈ l, x.1.length ≤ 12 ∧ x.2.length ≤ 16 := fun x hx => ⟨isKey_le (hf.1 x hx).1, (hf.1 x hx).2⟩
      obtain ⟨z, hz, ho⟩ : ∃ z, z.length = 4 ∧ oldT (1, l, [], [], []) = [83, 49, 76] ++ (UInt8.ofNat (l.length % 256) :: (oldItems l ++ z)) := by
        refine ⟨low (crc ([83, 49, 76] ++ low l.length 1 ++ oldItems l)) 4, low_len _ _, ?_⟩
        show oldLeaf l = _
        unfold oldLeaf sealed
        generalize crc ([83, 49, 76] ++ low l.length 1 ++ oldItems l) = c
        simp [low]
      refine ⟨z, hz, ?_⟩
      have m1 : oM (oldT (1, l, [], [], [])) = ([83, 49, 76], ⟨UInt8.ofNat (l.length % 256) :: (oldItems l ++ z), false⟩) := by unfold oM; rw [ho]; exact cur_take [83, 49, 76] _
      have m2 : oK (oldT (1, l, [], [], [])) = l.length := by unfold oK Cur.byte; rw [m1, cur_byte, high_one, hb]
      have m3 : oC (oldT (1, l, [], [], [])) = ⟨oldItems l ++ z, false⟩ := by unfold oC; rw [m1, cur_byte]
      unfold refOld
      rw [m1, m2, m3, if_pos rfl, rdIts_is l z hs]
    · obtain ⟨cl, pl, ml, rfl, a1, a2, a3, a4, a5, a6⟩ := Pr.well_branch h hk
      have hb : (UInt8.ofNat (cl.length % 256)).toNat = cl.length := by rw [UInt8.toNat_ofNat']; omega
      obtain ⟨z, hz, ho⟩ : ∃ z, z.length = 4 ∧ oldT (2, [], cl, pl, ml) = [83, 49, 73] ++ (UInt8.ofNat (cl.length % 256) :: (cl.flatMap (fun c => low c 4) ++ (pl.flatMap text ++ (changes ml ++ z)))) := by
        refine ⟨low (crc ([83, 49, 73] ++ low cl.length 1 ++ cl.flatMap (fun c => low c 4) ++ pl.flatMap text ++ changes ml)) 4, low_len _ _, ?_⟩
        show oldBranch cl pl ml = _
        unfold oldBranch sealed
        generalize crc ([83, 49, 73] ++ low cl.length 1 ++ cl.flatMap (fun c => low c 4) ++ pl.flatMap text ++ changes ml) = c
        simp [low]
      refine ⟨z, hz, ?_⟩
      have m1 : oM (oldT (2, [], cl, pl, ml)) = ([83, 49, 73], ⟨UInt8.ofNat (cl.length % 256) :: (cl.flatMap (fun c => low c 4) ++ (pl.flatMap text ++ (changes ml ++ z))), false⟩) := by unfold oM; rw [ho]; exact cur_take [83, 49, 73] _
      have m2 : oK (oldT (2, [], cl, pl, ml)) = cl.length := by unfold oK Cur.byte; rw [m1, cur_byte, high_one, hb]
      have m3 : oC (oldT (2, [], cl, pl, ml)) = ⟨cl.flatMap (fun c => low c 4) ++ (pl.flatMap text ++ (changes ml ++ z)), false⟩ := by unfold oC; rw [m1, cur_byte]
      unfold refOld
      rw [m1, m2, m3, if_neg (by simp), rdLongs_is cl _ (fun c hc => by have := a1 c hc; omega)]
      simp only
      rw [show cl.length - 1 = pl.length by omega, rdTexts_is pl _ a2]
      simp only
      rw [chAt_is ml z (by omega) a3]
  obtain ⟨z, hz, e⟩ := key
  refine ⟨by rw [e], ?_⟩
  unfold oEnd
  rw [e]
  have := cur_take z []
  rw [List.append_nil, hz] at this
  simp only
  rw [this]; rfl
end Go.Proofs.YtolgpnaoaodepaaGreat.Pg
