/- The book's lists: append of marks, append of several elements, what each leaves alone. -/
import Derived.Test.YtolgpnaoaodepaaGreatOwnGm
import Derived.Lib.AppendZeros
namespace Go.Proofs.YtolgpnaoaodepaaGreat
open Go.RowKit

theorem set_mid {α : Type} (P R : List α) (x a : α) (k : Nat) (hk : k = P.length) : (P ++ x :: R).set k a = P ++ a :: R := by
  subst hk
  rw [List.set_append_right _ _ (Nat.le_refl _)]
  simp
theorem row_store {B : Nat} {e : TypeId} {sz g cap n : Nat} {xs : List Value} {w : World} (h : w.ownsRow B e sz (.slice (some ⟨g, 0, none⟩) n cap) n xs) (i : Nat) (u : Value) : (w.setCell ⟨g, i, none⟩ u).ownsRow B e sz (.slice (some ⟨g, 0, none⟩) n cap) n (xs.set i u) := by
  rcases h.2 with ⟨h0, _⟩ | ⟨g', cap', cur, hv, hb, hg, h1, h2, h3, h4⟩
  · simp at h0
  · simp only [Value.slice.injEq, Option.some.injEq, Addr.mk.injEq, and_true, true_and] at hv
    obtain ⟨rfl, rfl⟩ := hv
    refine ⟨by simpa using h.1, .inr ⟨g, cap, _, rfl, hb, heap_setCell_at hg u, h1, h2, by simpa using h3, ?_⟩⟩
    rw [Array.toList_setIfInBounds, List.take_set, h4]
/-- A row has a place for each of its cells, and is not shut. -/
theorem row_at {B : Nat} {e : TypeId} {sz g cap n : Nat} {xs : List Value} {w : World} (h : w.ownsRow B e sz (.slice (some ⟨g, 0, none⟩) n cap) n xs) (i : Nat) (hi : i < n * sz) : (∃ v, w.cell? ⟨g, i, none⟩ = some v) ∧ w.frozen? ⟨g, i, none⟩ = false := by
  rcases h.2 with ⟨h0, _⟩ | ⟨g', cap', cur, hv, hb, hg, h1, h2, h3, h4⟩
  · simp at h0
  · simp only [Value.slice.injEq, Option.some.injEq, Addr.mk.injEq, and_true, true_and] at hv
    obtain ⟨rfl, rfl⟩ := hv
    have hlt : i < cur.size := by
      have : n * sz ≤ cap * sz := Nat.mul_le_mul_right _ h1
      omega
    constructor
    · exact ⟨cur[i], by simp [World.cell?, hg, hlt]⟩
    · simp [World.frozen?, hg]
theorem mark_next1 (m : Value) (xs : List Value) (j : Nat) (h : j < xs.length) : (marks [m] j ++ xs.drop j).set j m = marks [m] (j + 1) ++ xs.drop (j + 1) := by
  rw [List.drop_eq_getElem_cons h, set_mid _ _ _ _ _ (by rw [marks_len]; simp), marks_add]
  simp [marks]
theorem grown_trans {a b c : World} {r : Option Nat} (h : a.grownBy b r) (k : b.grownBy c r) : a.grownBy c r := ⟨k.os.trans h.os, k.tape.trans h.tape, k.output.trans h.output, Nat.le_trans h.size k.size, fun i hi hr => (k.block i (Nat.lt_of_lt_of_le hi h.size) hr).trans (h.block i hi hr)⟩
theorem at_own {v : Value} {g : Nat} (h : atBlock v = some g) : v.ownBlock = some g := by
  unfold atBlock at h
  split at h
  · simpa [Value.ownBlock] using h
  · cases h
theorem Marked.grown {e : TypeId} {mc : List Value} {w w' : World} {v : Value} {r : Option Nat} (h : Marked e mc w v) (hg : w.grownBy w' r) (hne : ∀ g, atBlock v = some g → some g ≠ r) : Marked e mc w' v := h.keep fun g hk => hg.block g (h.lt hk) (hne g hk)
/-- append of several elements to a row of our own. -/
theorem wpApX (w : World) {ops : Array Oper} {rest : List Oper} {o : Oper} {a : Act} {Q : Exit → Act → World → Prop} (hgd : o.guard = none) (sl x : Operand) (t e : TypeId) (ht : Tryz.prog.underlying t = some (.slice e))
    (z : Value) (size bytes : Nat) (hinfo : (Tryz.prog.info? e).map (fun i => (i.zero, i.size, i.bytes)) = some (some z, size, bytes)) (hzs : z.cells.size = size) (hsp : 0 < size) (hby : bytes ≤ 1000)
    (ho : o.op = Op.call { callee := Callee.builtin Builtin.append, args := #[sl, x], argTypes := #[t, t] }) (B : Nat) (v : Value) (n : Nat) (xs : List Value) (hs : a.eval sl = v) (hown : w.ownsRow B e size v n xs)
    (news : List Value) (m : Nat) (hnl : news.length = m * size) (hone : ∀ u ∈ news, u.oneCell' = true) (hx : a.eval x = .slice (some ⟨w.heap.size, 0, none⟩) m m) (hb : n + m ≤ 1000000000) (hB : B ≤ w.heap.size)
    (h : ∀ (v' : Value) (w' : World), w'.ownsRow B e size v' (n + m) (xs ++ news) → w.grownBy w' v.ownBlock → (v'.ownBlock = v.ownBlock ∨ ∃ k, w.heap.size ≤ k ∧ v'.ownBlock = some k) → wpList Tryz.prog ops Q rest (a.put o.dst v') w') : wpList Tryz.prog ops Q (o :: rest) a (w.alloc (.cells news.toArray e)) := by
  obtain ⟨i, hi, hz0, hz1, hz2⟩ := info_parts hinfo
  refine wpList_append_own_at (w.alloc (.cells news.toArray e)) hgd sl x t ho B e i z size bytes ht hi hz0 hz1 hz2 hzs hsp v n xs hs (hown.alloc _) ⟨w.heap.size, 0, none⟩ m m news hx hnl ?_ hone (by unfold maxLen; omega) (by have : (n + m) * bytes ≤ 1000000000 * 1000 := Nat.mul_le_mul hb hby; omega) (by simp; omega) ?_
  · intro j u hj
    have hc : (w.alloc (.cells news.toArray e)).heap[w.heap.size]? = some (.cells news.toArray e (0, 0)) := heap_alloc_new _ _
    rw [addr_add]
    unfold World.cell?
    rw [hc]
    simpa using hj
  intro v' w' ho' hg _ hat
  exact h v' w' ho' (grown_after_alloc hg) (hat.imp_right fun e => ⟨w.heap.size + 1, by omega, by simpa using e⟩)
/-- append of marks to a row of marks. -/
theorem wpApM (w : World) {ops : Array Oper} {rest : List Oper} {o : Oper} {a : Act} {Q : Exit → Act → World → Prop} (hgd : o.guard = none) (sl x : Operand) (t e : TypeId) (ht : Tryz.prog.underlying t = some (.slice e))
    (z : Value) (size bytes : Nat) (hinfo : (Tryz.prog.info? e).map (fun i => (i.zero, i.size, i.bytes)) = some (some z, size, bytes)) (hzs : z.cells.size = size) (hsp : 0 < size) (hby : bytes ≤ 1000)
    (ho : o.op = Op.call { callee := Callee.builtin Builtin.append, args := #[sl, x], argTypes := #[t, t] }) (B : Nat) (v : Value) (n : Nat) (mc : List Value) (hmc : mc.length = size) (h1 : ∀ u ∈ mc, u.oneCell' = true) (hs : a.eval sl = v) (hown : w.ownsRow B e size v n (marks mc n))
    (m : Nat) (hx : a.eval x = .slice (some ⟨w.heap.size, 0, none⟩) m m) (hb : n + m ≤ 1000000000) (hB : B ≤ w.heap.size) (cur : Array Value) (hcur : cur.toList = marks mc m)
    (h : ∀ (v' : Value) (w' : World), w'.ownsRow B e size v' (n + m) (marks mc (n + m)) → w'.ownsRow B e size v n (marks mc n) → w.grownBy w' v.ownBlock → (v'.ownBlock = v.ownBlock ∨ ∃ k, w.heap.size ≤ k ∧ v'.ownBlock = some k) → (∀ u, Marked e mc w u → Marked e mc w' u) → wpList Tryz.prog ops Q rest (a.put o.dst v') w') : wpList Tryz.prog ops Q (o :: rest) a (w.alloc (.cells cur e)) := by
  obtain ⟨i, hi, hz0, hz1, hz2⟩ := info_parts hinfo
  obtain ⟨v', w', hr, q1, q2, q3, q4, q5⟩ := run_append_marks (P := Tryz.prog) (w.alloc (.cells cur e)) B t o.type e i z size bytes ht hi hz0 hz1 hz2 hzs hsp mc hmc h1 v n (hown.alloc _) ⟨w.heap.size, 0, none⟩ m m (by
    intro j u hj
    have hc : (w.alloc (.cells cur e)).heap[w.heap.size]? = some (.cells cur e (0, 0)) := heap_alloc_new _ _
    rw [addr_add]
    unfold World.cell?
    rw [hc]
    rw [← hcur] at hj
    simpa using hj) (by unfold maxLen; omega) (by have : (n + m) * bytes ≤ 1000000000 * 1000 := Nat.mul_le_mul hb hby; omega) (by simp; omega)
  exact Lib.wpList_append_run _ hgd sl x t t ho v _ hs hx v' w' hr (h v' w' q1 q2 (grown_after_alloc q3) (q4.imp_right fun e => ⟨w.heap.size + 1, by omega, by simpa using e⟩) (fun u hu => q5 u (hu.below ((Below.refl _ w).alloc (Nat.le_refl _) _))))
theorem info_string : (Tryz.prog.info? 9).map (fun i => (i.zero, i.size, i.bytes)) = some (some (.string ⟨#[]⟩), 1, 16) := by kernel_rfl
theorem info_rowS : (Tryz.prog.info? 40).map (fun i => (i.zero, i.size, i.bytes)) = some (some (.slice none 0 0), 1, 24) := by kernel_rfl
theorem info_rowN : (Tryz.prog.info? 25).map (fun i => (i.zero, i.size, i.bytes)) = some (some (.slice none 0 0), 1, 24) := by kernel_rfl
theorem info_rowI : (Tryz.prog.info? 30).map (fun i => (i.zero, i.size, i.bytes)) = some (some (.slice none 0 0), 1, 24) := by kernel_rfl
theorem info_rowC : (Tryz.prog.info? 77).map (fun i => (i.zero, i.size, i.bytes)) = some (some (.slice none 0 0), 1, 24) := by kernel_rfl
/-- What an own.. leaves: the list and what it grew to are recorded, each reads as its mark; blocks of old are left alone but these four. -/
def OwnR (w : World) (b : Nat) (eS eE eM : TypeId) (mc : List Value) (m l vS vM : Value) (k : Nat) (L M : List Value) (vS' vM' : Value) (w' : World) : Prop :=
  ∃ g1 g2 g3, w'.ownsRow 0 eS 1 vS' (k + 4) (L ++ [l, g1, g2, g3]) ∧ w'.ownsRow 0 eM 1 vM' (k + 4) (M ++ [m, m, m, m]) ∧
    (∀ u, u = l ∨ u = g1 ∨ u = g2 ∨ u = g3 → Marked eE mc w' u ∧ ∀ g, atBlock u = some g → (l.ownBlock = some g ∨ w.heap.size ≤ g) ∧ g ≠ b ∧ vS'.ownBlock ≠ some g ∧ vM'.ownBlock ≠ some g) ∧
    (∀ g, vS'.ownBlock = some g → (vS.ownBlock = some g ∨ w.heap.size ≤ g) ∧ g ≠ b ∧ vM'.ownBlock ≠ some g) ∧ (∀ g, vM'.ownBlock = some g → (vM.ownBlock = some g ∨ w.heap.size ≤ g) ∧ g ≠ b) ∧
    w'.os = w.os ∧ w'.tape = w.tape ∧ w'.output = w.output ∧ w.heap.size ≤ w'.heap.size ∧ ∀ i, i < w.heap.size → i ≠ b → l.ownBlock ≠ some i → vS.ownBlock ≠ some i → vM.ownBlock ≠ some i → w'.heap[i]? = w.heap[i]?
theorem ne_of_apart {u v : Value} (h : Apart u v) : v.ownBlock = none ∨ v.ownBlock ≠ u.ownBlock := by
  cases hv : v.ownBlock with
  | none => exact .inl rfl
  | some q => exact .inr fun e => h q e.symm hv
theorem Wb.grown {w w' : World} {b : Nat} {vl v1 v2 v3 v4 v5 v6 v7 v8 : Value} {nx : Int} {r : Option Nat} (h : Wb w b vl v1 v2 v3 v4 v5 v6 v7 v8 nx) (hg : w.grownBy w' r) (hne : r ≠ some b) : Wb w' b vl v1 v2 v3 v4 v5 v6 v7 v8 nx := (hg.block b h.lt fun e => hne e.symm).trans h
theorem Wb.set1 {w : World} {b : Nat} {vl v1 v2 v3 v4 v5 v6 v7 v8 : Value} {nx : Int} (h : Wb w b vl v1 v2 v3 v4 v5 v6 v7 v8 nx) (u : Value) : Wb (w.setCell ⟨b, 1, none⟩ u) b vl u v2 v3 v4 v5 v6 v7 v8 nx := by
  unfold Wb at *; rw [heap_setCell_at (i := 1) h]; rfl
theorem Wb.set2 {w : World} {b : Nat} {vl v1 v2 v3 v4 v5 v6 v7 v8 : Value} {nx : Int} (h : Wb w b vl v1 v2 v3 v4 v5 v6 v7 v8 nx) (u : Value) : Wb (w.setCell ⟨b, 2, none⟩ u) b vl v1 u v3 v4 v5 v6 v7 v8 nx := by
  unfold Wb at *; rw [heap_setCell_at (i := 2) h]; rfl
theorem Wb.set3 {w : World} {b : Nat} {vl v1 v2 v3 v4 v5 v6 v7 v8 : Value} {nx : Int} (h : Wb w b vl v1 v2 v3 v4 v5 v6 v7 v8 nx) (u : Value) : Wb (w.setCell ⟨b, 3, none⟩ u) b vl v1 v2 u v4 v5 v6 v7 v8 nx := by
  unfold Wb at *; rw [heap_setCell_at (i := 3) h]; rfl
theorem Wb.set4 {w : World} {b : Nat} {vl v1 v2 v3 v4 v5 v6 v7 v8 : Value} {nx : Int} (h : Wb w b vl v1 v2 v3 v4 v5 v6 v7 v8 nx) (u : Value) : Wb (w.setCell ⟨b, 4, none⟩ u) b vl v1 v2 v3 u v5 v6 v7 v8 nx := by
  unfold Wb at *; rw [heap_setCell_at (i := 4) h]; rfl
theorem Wb.set5 {w : World} {b : Nat} {vl v1 v2 v3 v4 v5 v6 v7 v8 : Value} {nx : Int} (h : Wb w b vl v1 v2 v3 v4 v5 v6 v7 v8 nx) (u : Value) : Wb (w.setCell ⟨b, 5, none⟩ u) b vl v1 v2 v3 v4 u v6 v7 v8 nx := by
  unfold Wb at *; rw [heap_setCell_at (i := 5) h]; rfl
theorem Wb.set6 {w : World} {b : Nat} {vl v1 v2 v3 v4 v5 v6 v7 v8 : Value} {nx : Int} (h : Wb w b vl v1 v2 v3 v4 v5 v6 v7 v8 nx) (u : Value) : Wb (w.setCell ⟨b, 6, none⟩ u) b vl v1 v2 v3 v4 v5 u v7 v8 nx := by
  unfold Wb at *; rw [heap_setCell_at (i := 6) h]; rfl
theorem Wb.set7 {w : World} {b : Nat} {vl v1 v2 v3 v4 v5 v6 v7 v8 : Value} {nx : Int} (h : Wb w b vl v1 v2 v3 v4 v5 v6 v7 v8 nx) (u : Value) : Wb (w.setCell ⟨b, 7, none⟩ u) b vl v1 v2 v3 v4 v5 v6 u v8 nx := by
  unfold Wb at *; rw [heap_setCell_at (i := 7) h]; rfl
theorem Wb.set8 {w : World} {b : Nat} {vl v1 v2 v3 v4 v5 v6 v7 v8 : Value} {nx : Int} (h : Wb w b vl v1 v2 v3 v4 v5 v6 v7 v8 nx) (u : Value) : Wb (w.setCell ⟨b, 8, none⟩ u) b vl v1 v2 v3 v4 v5 v6 v7 u nx := by
  unfold Wb at *; rw [heap_setCell_at (i := 8) h]; rfl
/-- How the list, the two rows and World's block lie to each other. -/
def Lies (b : Nat) (l vS vM : Value) : Prop := l.ownBlock ≠ some b ∧ vS.ownBlock ≠ some b ∧ vM.ownBlock ≠ some b ∧ Apart l vS ∧ Apart l vM ∧ Apart vS vM
/-- Behind the three that grew. -/
def OwnMid (w : World) (b : Nat) (eS eE eM : TypeId) (mc : List Value) (l vS vM : Value) (k : Nat) (L M : List Value) (g1 g2 g3 : Value) (w5 : World) : Prop :=
  w5.ownsRow 0 eS 1 vS k L ∧ w5.ownsRow 0 eM 1 vM k M ∧ (∀ g, vS.ownBlock = some g → g < w.heap.size) ∧ (∀ g, vM.ownBlock = some g → g < w.heap.size) ∧
  (∀ u, u = l ∨ u = g1 ∨ u = g2 ∨ u = g3 → Marked eE mc w5 u ∧ ∀ g, atBlock u = some g → l.ownBlock = some g ∨ w.heap.size ≤ g) ∧
  w5.os = w.os ∧ w5.tape = w.tape ∧ w5.output = w.output ∧ w.heap.size ≤ w5.heap.size ∧ ∀ i, i < w.heap.size → i ≠ b → l.ownBlock ≠ some i → w5.heap[i]? = w.heap[i]?
theorem own_mid {w w1 w5 : World} {b : Nat} {eS eE eM : TypeId} {mc : List Value} {l vS vM : Value} {k : Nat} {L M : List Value} {g1 g2 g3 : Value} (hS : w.ownsRow 0 eS 1 vS k L) (hM : w.ownsRow 0 eM 1 vM k M) (hA : Lies b l vS vM) (hb1 : But b w w1) (hg : w1.grownBy w5 l.ownBlock)
    (m0 : Marked eE mc w5 l) (m1 : Marked eE mc w5 g1) (m2 : Marked eE mc w5 g2) (m3 : Marked eE mc w5 g3)
    (a1 : g1.ownBlock = l.ownBlock ∨ ∃ k, w.heap.size ≤ k ∧ g1.ownBlock = some k) (a2 : g2.ownBlock = l.ownBlock ∨ ∃ k, w.heap.size ≤ k ∧ g2.ownBlock = some k) (a3 : g3.ownBlock = l.ownBlock ∨ ∃ k, w.heap.size ≤ k ∧ g3.ownBlock = some k) : OwnMid w b eS eE eM mc l vS vM k L M g1 g2 g3 w5 := by
  obtain ⟨al, aS, aM, lS, lM, aSM⟩ := hA
  have key : ∀ u : Value, (u.ownBlock = l.ownBlock ∨ ∃ k, w.heap.size ≤ k ∧ u.ownBlock = some k) → ∀ g, atBlock u = some g → l.ownBlock = some g ∨ w.heap.size ≤ g := by
    intro u hu g hg
    have := at_own hg
    rcases hu with e | ⟨k, hk, e⟩
    · exact .inl (e.symm.trans this)
    · rw [e] at this
      exact .inr (by simpa using (Option.some.inj this) ▸ hk)
  refine ⟨World.ownsRow.kept (World.ownsRow.kept hS hb1 (.inr aS)) hg (ne_of_apart lS), World.ownsRow.kept (World.ownsRow.kept hM hb1 (.inr aM)) hg (ne_of_apart lM), fun g hk => (World.ownsRow.lt hS g hk).2, fun g hk => (World.ownsRow.lt hM g hk).2, ?_, hg.os.trans hb1.os, hg.tape.trans hb1.tape, hg.output.trans hb1.output, Nat.le_trans hb1.size hg.size, fun i hi hib hil => (hg.block i (Nat.lt_of_lt_of_le hi hb1.size) (fun e => hil e.symm)).trans (hb1.block i hi (fun e => hib (Option.some.inj e)))⟩
  rintro u (rfl | rfl | rfl | rfl)
  · exact ⟨m0, key _ (.inl rfl)⟩
  · exact ⟨m1, key _ a1⟩
  · exact ⟨m2, key _ a2⟩
  · exact ⟨m3, key _ a3⟩
theorem OwnMid.rowM {w : World} {b : Nat} {eS eE eM : TypeId} {mc : List Value} {l vS vM : Value} {k : Nat} {L M : List Value} {g1 g2 g3 : Value} {w5 w6 : World} (h : OwnMid w b eS eE eM mc l vS vM k L M g1 g2 g3 w5) (hA : Lies b l vS vM) (gS : w5.grownBy w6 vS.ownBlock) (iS : Nat) (u : Value) : (w6.setCell ⟨b, iS, none⟩ u).ownsRow 0 eM 1 vM k M :=
  World.ownsRow.kept (World.ownsRow.kept h.2.1 gS (ne_of_apart hA.2.2.2.2.2)) (but_set b iS w6 u) (.inr hA.2.2.1)
theorem own_fin {w : World} {b : Nat} {eS eE eM : TypeId} {mc : List Value} {m l vS vM vS' vM' : Value} {k : Nat} {L M : List Value} {g1 g2 g3 : Value} {w5 w6 w7 : World} (hb : b < w.heap.size) (h : OwnMid w b eS eE eM mc l vS vM k L M g1 g2 g3 w5) (hA : Lies b l vS vM)
    (rS : w6.ownsRow 0 eS 1 vS' (k + 4) (L ++ [l, g1, g2, g3])) (gS : w5.grownBy w6 vS.ownBlock) (aS : vS'.ownBlock = vS.ownBlock ∨ ∃ k, w5.heap.size ≤ k ∧ vS'.ownBlock = some k) (iS : Nat)
    (rM : w7.ownsRow 0 eM 1 vM' (k + 4) (M ++ [m, m, m, m])) (gM : (w6.setCell ⟨b, iS, none⟩ vS').grownBy w7 vM.ownBlock) (aM : vM'.ownBlock = vM.ownBlock ∨ ∃ k, w6.heap.size ≤ k ∧ vM'.ownBlock = some k) (iM : Nat) :
    OwnR w b eS eE eM mc m l vS vM k L M vS' vM' (w7.setCell ⟨b, iM, none⟩ vM') := by
  obtain ⟨rS0, rM0, ltS, ltM, hmk, e1, e2, e3, e4, hfr⟩ := h
  obtain ⟨al, nS, nM, lS, lM, aSM⟩ := hA
  have s56 := gS.size
  have s67 := gM.size
  rw [setSize] at s67
  have fS : ∀ g, vS'.ownBlock = some g → vS.ownBlock = some g ∨ (w5.heap.size ≤ g ∧ w.heap.size ≤ g) := by
    intro g hg
    rcases aS with e | ⟨q, hq, e⟩
    · exact .inl (e ▸ hg)
    · rw [e] at hg; have := Option.some.inj hg; exact .inr (by omega)
  have fM : ∀ g, vM'.ownBlock = some g → vM.ownBlock = some g ∨ (w6.heap.size ≤ g ∧ w.heap.size ≤ g) := by
    intro g hg
    rcases aM with e | ⟨q, hq, e⟩
    · exact .inl (e ▸ hg)
    · rw [e] at hg; have := Option.some.inj hg; exact .inr (by omega)
  have nS' : vS'.ownBlock ≠ some b := fun e => by
    rcases fS b e with q | q
    · exact nS q
    · omega
  have nM' : vM'.ownBlock ≠ some b := fun e => by
    rcases fM b e with q | q
    · exact nM q
    · omega
  have apSM : vS'.ownBlock = none ∨ vS'.ownBlock ≠ vM.ownBlock := by
    cases hv : vS'.ownBlock with
    | none => exact .inl rfl
    | some q =>
      refine .inr fun e => ?_
      rcases fS q hv with p | p
      · exact aSM q p e.symm
      · have := ltM q e.symm; omega
  have ap2 : ∀ g, vS'.ownBlock = some g → vM'.ownBlock ≠ some g := by
    intro g hS hM
    rcases fM g hM with q | q
    · rcases apSM with z | z
      · rw [z] at hS; cases hS
      · exact z (hS.trans q.symm)
    · have := (World.ownsRow.lt rS g hS).2; omega
  refine ⟨g1, g2, g3, World.ownsRow.kept (World.ownsRow.kept (World.ownsRow.kept rS (but_set b iS w6 vS') (.inr nS')) gM apSM) (but_set b iM w7 vM') (.inr nS'), World.ownsRow.kept rM (but_set b iM w7 vM') (.inr nM'), ?_, fun g hg => ⟨?_, fun e => nS' (e ▸ hg), ap2 g hg⟩, fun g hg => ⟨?_, fun e => nM' (e ▸ hg)⟩, ?_, ?_, ?_, ?_, ?_⟩
  · intro u hu
    obtain ⟨mu, bu⟩ := hmk u hu
    have lt5 := fun g (hg : atBlock u = some g) => mu.lt hg
    have ub : ∀ g, atBlock u = some g → some g ≠ some b := fun g hg e => by
      have e' := Option.some.inj e
      rcases bu g hg with q | q
      · exact al (e' ▸ q)
      · omega
    have uS : ∀ g, atBlock u = some g → vS.ownBlock ≠ some g := fun g hg e => by
      rcases bu g hg with q | q
      · exact lS g q e
      · have := ltS g e; omega
    have uM : ∀ g, atBlock u = some g → vM.ownBlock ≠ some g := fun g hg e => by
      rcases bu g hg with q | q
      · exact lM g q e
      · have := ltM g e; omega
    refine ⟨(((mu.grown gS fun g hg e => uS g hg e.symm).grown (but_set b iS w6 vS') ub).grown gM fun g hg e => uM g hg e.symm).grown (but_set b iM w7 vM') ub, fun g hg => ⟨bu g hg, fun e => ub g hg (by rw [e]), fun e => ?_, fun e => ?_⟩⟩
    · rcases fS g e with q | q
      · exact uS g hg q
      · have := lt5 g hg; omega
    · rcases fM g e with q | q
      · exact uM g hg q
      · have := lt5 g hg; omega
  · exact (fS g hg).imp_right And.right
  · exact (fM g hg).imp_right And.right
  · exact ((but_set b iM w7 vM').os.trans gM.os).trans ((but_set b iS w6 vS').os.trans (gS.os.trans e1))
  · exact ((but_set b iM w7 vM').tape.trans gM.tape).trans ((but_set b iS w6 vS').tape.trans (gS.tape.trans e2))
  · exact ((but_set b iM w7 vM').output.trans gM.output).trans ((but_set b iS w6 vS').output.trans (gS.output.trans e3))
  · rw [setSize]; omega
  · intro i hi hib hil hiS hiM
    have hsb : some i ≠ some b := fun e => hib (Option.some.inj e)
    rw [(but_set b iM w7 vM').block i (by omega) hsb, gM.block i (by rw [setSize]; omega) (fun e => hiM e.symm), (but_set b iS w6 vS').block i (by omega) hsb, gS.block i (by omega) (fun e => hiS e.symm)]
    exact hfr i hi hib hil
end Go.Proofs.YtolgpnaoaodepaaGreat
/- The walk of ownTexts. -/
namespace Go.Proofs.YtolgpnaoaodepaaGreat
open Go.RowKit

theorem one_string (s : ByteArray) : ∀ u ∈ ([.string s] : List Value), u.oneCell' = true := by
  intro u hu; simp at hu; subst hu; rfl
set_option maxHeartbeats 1000000 in
set_option maxRecDepth 20000 in
theorem ownTexts_any (b : Nat) (vl v1 v2 v3 v4 v5 v6 v7 v8 : Value) (nx : Int) (l : Value) (n k : Nat) (cs L M : List Value) (w : World) (h : Wb w b vl v1 v2 v3 v4 v5 v6 v7 v8 nx)
    (hl : w.ownsRow 0 9 1 l n cs) (h5 : w.ownsRow 0 40 1 v5 k L) (h6 : w.ownsRow 0 9 1 v6 k M) (hn : n ≤ 100000) (hk : k ≤ 100000000)
    (hA : Lies b l v5 v6) :
    Calls Tryz.prog 103 #[.pointer (some ⟨b, 1, none⟩), l] w fun r w' => ∃ s ny v5' v6', r = .returned (.tuple #[]) ∧ Wb w' b vl v1 v2 v3 v4 v5' v6' v7 v8 ny ∧ OwnR w b 40 9 9 [.string s] (.string s) l v5 v6 k L M v5' v6' w' := by
  have HW := hid h
  have HL := hid hl
  have H5 := hid h5
  have H6 := hid h6
  have HA := hid hA
  have hbl := h.lt
  have HNL : Hid (cs.length = n) := by have := hl.1; simpa [Hid] using this
  obtain ⟨la, lc, rfl⟩ := rowShape hl
  obtain ⟨sa, sc, rfl⟩ := rowShape h5
  obtain ⟨ma, mc, rfl⟩ := rowShape h6
  clear h hl h5 h6 hA
  go_enter Tryz.func103, Tryz.ntmps103
  go_wp2_with fail
  refine (mark_any b vl v1 v2 v3 v4 _ _ v7 v8 nx w HW.out).mono ?_
  rintro r w1 ⟨s, ny, rfl, hw1, hb1⟩
  have HW1 := hid hw1
  have HB1 := hid hb1
  clear hw1 hb1
  go_wp2_with fail
  go_loopw [5] (fun i wr => ∃ j : Nat, j ≤ n ∧ i = .int .i64 j ∧ wr.ownsRow 0 9 1 (.slice la n lc) n (marks [.string s] j ++ cs.drop j) ∧ w1.grownBy wr (Value.slice la n lc).ownBlock) (fun i _ => n - (intOf i).toNat)
  case atStart => exact ⟨0, Nat.zero_le _, rfl, by simpa [marks] using World.ownsRow.kept HL.out HB1.out (.inr HA.out.1), ⟨rfl, rfl, rfl, Nat.le_refl _, fun _ _ _ => rfl⟩⟩
  case round =>
    obtain ⟨j, hj, rfl, hoj, hgj⟩ := hrel
    by_cases hjn : j < n
    · obtain ⟨g, rfl⟩ : ∃ g, la = some ⟨g, 0, none⟩ := by
        rcases hoj.2 with ⟨_, h0⟩ | ⟨g, cap, cur, hv, _⟩
        · omega
        · simp only [Value.slice.injEq] at hv; exact ⟨g, hv.1⟩
      obtain ⟨⟨cv, hcv⟩, hfz⟩ := row_at hoj j (by omega)
      have hst := row_store hoj j (.string s)
      rw [mark_next1 _ _ _ (by rw [HNL.out]; exact hjn)] at hst
      have HST := hid hst
      have HG := hid (grown_trans hgj (but_set g j wr (.string s)))
      clear hoj hgj hst
      go_wp2_with fail
      go_roundw
      case rel => exact ⟨j + 1, by omega, by go_num, HST.out, HG.out⟩
      case measure => simp [intOf]; omega
    · have hO : wr.ownsRow 0 9 1 (.slice la n lc) n (marks [.string s] n) := by
        rw [show j = n by omega, List.drop_eq_nil_of_le (by rw [HNL.out]; omega), List.append_nil] at hoj
        exact hoj
      have HO := hid hO
      have HG := hid hgj
      have hd : ¬ (j : Int) < (n : Int) := by omega
      clear hO hoj hgj
      go_wp2_with (first
        | (at_builtin; refine wpApM wr rfl (.tmp 21) (.tmp 23) 40 9 Tryz.underlying40 _ 1 16 info_string rfl (by omega) (by omega) rfl 0 (.slice la n lc) n [.string s] rfl (one_string s) rfl HO.out 1 rfl (by omega) (by omega) #[.string s] rfl ?_))
      intro g1 w3 ho3 hl3 hg3 hat3 hm3
      obtain ⟨g1a, g1c, rfl⟩ := rowShape ho3
      have HG1 := hid (And.intro hg3 (And.intro hat3 (marked_of ho3)))
      have HO3 := hid hl3
      clear ho3 hl3 hg3 hat3 HO hm3
      go_wp2_with (first
        | (at_builtin; refine wpApM w3 rfl (.tmp 25) (.tmp 28) 40 9 Tryz.underlying40 _ 1 16 info_string rfl (by omega) (by omega) rfl 0 (.slice la n lc) n [.string s] rfl (one_string s) rfl HO3.out 2 rfl (by omega) (by omega) #[.string s, .string s] rfl ?_))
      intro g2 w4 ho4 hl4 hg4 hat4 hm4
      obtain ⟨g2a, g2c, rfl⟩ := rowShape ho4
      have HG2 := hid (And.intro hg4 (And.intro hat4 (And.intro (marked_of ho4) (hm4 _ HG1.out.2.2))))
      have HO4 := hid hl4
      clear ho4 hl4 hg4 hat4 HO3 hm4
      go_wp2_with (first
        | (at_builtin; refine wpApM w4 rfl (.tmp 30) (.tmp 34) 40 9 Tryz.underlying40 _ 1 16 info_string rfl (by omega) (by omega) rfl 0 (.slice la n lc) n [.string s] rfl (one_string s) rfl HO4.out 3 rfl (by omega) (by omega) #[.string s, .string s, .string s] rfl ?_))
      intro g3 w5 ho5 hl5 hg5 hat5 hm5
      obtain ⟨g3a, g3c, rfl⟩ := rowShape ho5
      have HG3 := hid (And.intro hg5 (And.intro hat5 (And.intro (marked_of ho5) (And.intro (hm5 _ HG2.out.2.2.1) (And.intro (hm5 _ HG2.out.2.2.2) (marked_of hl5))))))
      clear ho5 hl5 hg5 hat5 HO4 hm5
      have hgl := grown_trans (grown_trans (grown_trans HG.out HG1.out.1) HG2.out.1) HG3.out.1
      have z1 := HB1.out.size
      have z2 := HG.out.size
      have z3 := HG1.out.1.size
      have z4 := HG2.out.1.size
      have z5 := HG3.out.1.size
      have HM := hid (own_mid H5.out H6.out HA.out HB1.out hgl HG3.out.2.2.2.2.2 HG3.out.2.2.2.2.1 HG3.out.2.2.2.1 HG3.out.2.2.1 (HG1.out.2.1.imp_right fun ⟨q, hq, e⟩ => ⟨q, by omega, e⟩) (HG2.out.2.1.imp_right fun ⟨q, hq, e⟩ => ⟨q, by omega, e⟩) (HG3.out.2.1.imp_right fun ⟨q, hq, e⟩ => ⟨q, by omega, e⟩))
      have HW5 := hid (HW1.out.grown hgl HA.out.1)
      clear HG HG1 HG2 HG3 hgl HB1 HW1 HL H5 H6 HW
      obtain ⟨-, -, -, -, -, c5, -, -, -, -, hfz⟩ := HW5.out.cells
      have f5 := hfz 5
      clear hfz
      go_wp2_with (first
        | (at_builtin; refine wpApX w5 rfl (.tmp 40) (.tmp 45) 70 40 Tryz.underlying70 _ 1 24 info_rowS rfl (by omega) (by omega) rfl 0 (.slice sa k sc) k L rfl HM.out.1 [.slice la n lc, .slice g1a (n + 1) g1c, .slice g2a (n + 2) g2c, .slice g3a (n + 3) g3c] 4 rfl (by intro u hu; simp at hu; rcases hu with rfl | rfl | rfl | rfl <;> rfl) rfl (by omega) (by omega) ?_))
      intro v5' w6 ho6 hg6 hat6
      obtain ⟨sa', sc', rfl⟩ := rowShape ho6
      have HS6 := hid (And.intro ho6 (And.intro hg6 hat6))
      have HW6 := hid (HW5.out.grown hg6 HA.out.2.1)
      have HR6 := hid (HM.out.rowM HA.out hg6 5 (.slice sa' (k + 4) sc'))
      have HW7 := hid (HW6.out.set5 (.slice sa' (k + 4) sc'))
      have z6 := hg6.size
      obtain ⟨-, -, -, -, -, d5, -, -, -, -, hfz⟩ := HW6.out.cells
      have f6 := hfz 5
      obtain ⟨-, -, -, -, -, -, d6, -, -, -, hfz2⟩ := HW7.out.cells
      have f7 := hfz2 6
      clear ho6 hg6 hat6 hfz hfz2 c5 f5
      go_wp2_with (first
        | (at_builtin; refine wpApX (w6.setCell ⟨b, 5, none⟩ (.slice sa' (k + 4) sc')) rfl (.tmp 53) (.tmp 58) 40 9 Tryz.underlying40 _ 1 16 info_string rfl (by omega) (by omega) rfl 0 (.slice ma k mc) k M rfl HR6.out [.string s, .string s, .string s, .string s] 4 rfl (by intro u hu; simp at hu; subst hu; rfl) (by simp [Act.eval]) (by omega) (by rw [setSize]; omega) ?_))
      intro v6' w7 ho7 hg7 hat7
      obtain ⟨ma', mc', rfl⟩ := rowShape ho7
      have HW8 := hid (HW7.out.grown hg7 HA.out.2.2.1)
      have HF := hid (own_fin hbl HM.out HA.out HS6.out.1 HS6.out.2.1 HS6.out.2.2 5 ho7 hg7 hat7 6)
      obtain ⟨-, -, -, -, -, -, e6, -, -, -, hfz⟩ := HW8.out.cells
      have f8 := hfz 6
      clear ho7 hg7 hat7 hfz d5 d6 f6 f7 HR6
      go_wp2_with fail
      go_end0
      exact ⟨s, ny, _, _, rfl, HW8.out.set6 _, HF.out⟩
end Go.Proofs.YtolgpnaoaodepaaGreat
/- The walk of ownNumbers. -/
namespace Go.Proofs.YtolgpnaoaodepaaGreat
open Go.RowKit

theorem one_int (q : Int) : ∀ u ∈ ([.int .i64 q] : List Value), u.oneCell' = true := by
  intro u hu; simp at hu; subst hu; rfl
set_option maxHeartbeats 1000000 in
set_option maxRecDepth 20000 in
theorem ownNumbers_any (b : Nat) (vl v1 v2 v3 v4 v5 v6 v7 v8 : Value) (nx : Int) (l : Value) (n k : Nat) (cs L M : List Value) (w : World) (h : Wb w b vl v1 v2 v3 v4 v5 v6 v7 v8 nx)
    (hl : w.ownsRow 0 3 1 l n cs) (h5 : w.ownsRow 0 25 1 v7 k L) (h6 : w.ownsRow 0 3 1 v8 k M) (hn : n ≤ 100000) (hk : k ≤ 100000000)
    (hA : Lies b l v7 v8) :
    Calls Tryz.prog 102 #[.pointer (some ⟨b, 1, none⟩), l] w fun r w' => ∃ q ny v7' v8', r = .returned (.tuple #[]) ∧ Wb w' b vl v1 v2 v3 v4 v5 v6 v7' v8' ny ∧ OwnR w b 25 3 3 [.int .i64 q] (.int .i64 q) l v7 v8 k L M v7' v8' w' := by
  have HW := hid h
  have HL := hid hl
  have H5 := hid h5
  have H6 := hid h6
  have HA := hid hA
  have hbl := h.lt
  have HNL : Hid (cs.length = n) := by have := hl.1; simpa [Hid] using this
  obtain ⟨la, lc, rfl⟩ := rowShape hl
  obtain ⟨sa, sc, rfl⟩ := rowShape h5
  obtain ⟨ma, mc, rfl⟩ := rowShape h6
  clear h hl h5 h6 hA
  obtain ⟨-, -, -, -, -, -, -, -, -, c9, hfz9⟩ := HW.out.cells
  have z9 := hfz9 9
  clear hfz9
  go_enter Tryz.func102, Tryz.ntmps102
  go_wp2_with fail
  generalize hny : wrap64 (nx + 1) = ny at *
  have HW1 := hid (HW.out.next ny)
  have HB1 := hid (but_set b 9 w (.int .i64 ny))
  clear hny c9 z9
  generalize w.setCell ⟨b, 9, none⟩ (.int .i64 ny) = w1 at *
  obtain ⟨-, -, -, -, -, -, -, -, -, c9, -⟩ := HW1.out.cells
  go_wp2_with fail
  generalize wrap64 (-ny) = q at *
  clear c9
  go_loopw [5] (fun i wr => ∃ j : Nat, j ≤ n ∧ i = .int .i64 j ∧ wr.ownsRow 0 3 1 (.slice la n lc) n (marks [.int .i64 q] j ++ cs.drop j) ∧ w1.grownBy wr (Value.slice la n lc).ownBlock) (fun i _ => n - (intOf i).toNat)
  case atStart => exact ⟨0, Nat.zero_le _, rfl, by simpa [marks] using World.ownsRow.kept HL.out HB1.out (.inr HA.out.1), ⟨rfl, rfl, rfl, Nat.le_refl _, fun _ _ _ => rfl⟩⟩
  case round =>
    obtain ⟨j, hj, rfl, hoj, hgj⟩ := hrel
    by_cases hjn : j < n
    · obtain ⟨g, rfl⟩ : ∃ g, la = some ⟨g, 0, none⟩ := by
        rcases hoj.2 with ⟨_, h0⟩ | ⟨g, cap, cur, hv, _⟩
        · omega
        · simp only [Value.slice.injEq] at hv; exact ⟨g, hv.1⟩
      obtain ⟨⟨cv, hcv⟩, hfz⟩ := row_at hoj j (by omega)
      have hst := row_store hoj j (.int .i64 q)
      rw [mark_next1 _ _ _ (by rw [HNL.out]; exact hjn)] at hst
      have HST := hid hst
      have HG := hid (grown_trans hgj (but_set g j wr (.int .i64 q)))
      clear hoj hgj hst
      go_wp2_with fail
      go_roundw
      case rel => exact ⟨j + 1, by omega, by go_num, HST.out, HG.out⟩
      case measure => simp [intOf]; omega
    · have hO : wr.ownsRow 0 3 1 (.slice la n lc) n (marks [.int .i64 q] n) := by
        rw [show j = n by omega, List.drop_eq_nil_of_le (by rw [HNL.out]; omega), List.append_nil] at hoj
        exact hoj
      have HO := hid hO
      have HG := hid hgj
      have hd : ¬ (j : Int) < (n : Int) := by omega
      clear hO hoj hgj
      go_wp2_with (first
        | (at_builtin; refine wpApM wr rfl (.tmp 31) (.tmp 33) 25 3 Tryz.underlying25 _ 1 8 info_int rfl (by omega) (by omega) rfl 0 (.slice la n lc) n [.int .i64 q] rfl (one_int q) rfl HO.out 1 rfl (by omega) (by omega) #[.int .i64 q] rfl ?_))
      intro g1 w3 ho3 hl3 hg3 hat3 hm3
      obtain ⟨g1a, g1c, rfl⟩ := rowShape ho3
      have HG1 := hid (And.intro hg3 (And.intro hat3 (marked_of ho3)))
      have HO3 := hid hl3
      clear ho3 hl3 hg3 hat3 HO hm3
      go_wp2_with (first
        | (at_builtin; refine wpApM w3 rfl (.tmp 35) (.tmp 38) 25 3 Tryz.underlying25 _ 1 8 info_int rfl (by omega) (by omega) rfl 0 (.slice la n lc) n [.int .i64 q] rfl (one_int q) rfl HO3.out 2 rfl (by omega) (by omega) #[.int .i64 q, .int .i64 q] rfl ?_))
      intro g2 w4 ho4 hl4 hg4 hat4 hm4
      obtain ⟨g2a, g2c, rfl⟩ := rowShape ho4
      have HG2 := hid (And.intro hg4 (And.intro hat4 (And.intro (marked_of ho4) (hm4 _ HG1.out.2.2))))
      have HO4 := hid hl4
      clear ho4 hl4 hg4 hat4 HO3 hm4
      go_wp2_with (first
        | (at_builtin; refine wpApM w4 rfl (.tmp 40) (.tmp 44) 25 3 Tryz.underlying25 _ 1 8 info_int rfl (by omega) (by omega) rfl 0 (.slice la n lc) n [.int .i64 q] rfl (one_int q) rfl HO4.out 3 rfl (by omega) (by omega) #[.int .i64 q, .int .i64 q, .int .i64 q] rfl ?_))
      intro g3 w5 ho5 hl5 hg5 hat5 hm5
      obtain ⟨g3a, g3c, rfl⟩ := rowShape ho5
      have HG3 := hid (And.intro hg5 (And.intro hat5 (And.intro (marked_of ho5) (And.intro (hm5 _ HG2.out.2.2.1) (And.intro (hm5 _ HG2.out.2.2.2) (marked_of hl5))))))
      clear ho5 hl5 hg5 hat5 HO4 hm5
      have hgl := grown_trans (grown_trans (grown_trans HG.out HG1.out.1) HG2.out.1) HG3.out.1
      have z1 := HB1.out.size
      have z2 := HG.out.size
      have z3 := HG1.out.1.size
      have z4 := HG2.out.1.size
      have z5 := HG3.out.1.size
      have HM := hid (own_mid H5.out H6.out HA.out HB1.out hgl HG3.out.2.2.2.2.2 HG3.out.2.2.2.2.1 HG3.out.2.2.2.1 HG3.out.2.2.1 (HG1.out.2.1.imp_right fun ⟨p, hp, e⟩ => ⟨p, by omega, e⟩) (HG2.out.2.1.imp_right fun ⟨p, hp, e⟩ => ⟨p, by omega, e⟩) (HG3.out.2.1.imp_right fun ⟨p, hp, e⟩ => ⟨p, by omega, e⟩))
      have HW5 := hid (HW1.out.grown hgl HA.out.1)
      clear HG HG1 HG2 HG3 hgl HB1 HW1 HL H5 H6 HW
      obtain ⟨-, -, -, -, -, -, -, c5, -, -, hfz⟩ := HW5.out.cells
      have f5 := hfz 7
      clear hfz
      go_wp2_with (first
        | (at_builtin; refine wpApX w5 rfl (.tmp 50) (.tmp 55) 71 25 Tryz.underlying71 _ 1 24 info_rowN rfl (by omega) (by omega) rfl 0 (.slice sa k sc) k L rfl HM.out.1 [.slice la n lc, .slice g1a (n + 1) g1c, .slice g2a (n + 2) g2c, .slice g3a (n + 3) g3c] 4 rfl (by intro u hu; simp at hu; rcases hu with rfl | rfl | rfl | rfl <;> rfl) rfl (by omega) (by omega) ?_))
      intro v5' w6 ho6 hg6 hat6
      obtain ⟨sa', sc', rfl⟩ := rowShape ho6
      have HS6 := hid (And.intro ho6 (And.intro hg6 hat6))
      have HW6 := hid (HW5.out.grown hg6 HA.out.2.1)
      have HR6 := hid (HM.out.rowM HA.out hg6 7 (.slice sa' (k + 4) sc'))
      have HW7 := hid (HW6.out.set7 (.slice sa' (k + 4) sc'))
      have z6 := hg6.size
      obtain ⟨-, -, -, -, -, -, -, d5, -, -, hfz⟩ := HW6.out.cells
      have f6 := hfz 7
      obtain ⟨-, -, -, -, -, -, -, -, d6, -, hfz2⟩ := HW7.out.cells
      have f7 := hfz2 8
      clear ho6 hg6 hat6 hfz hfz2 c5 f5
      go_wp2_with (first
        | (at_builtin; refine wpApX (w6.setCell ⟨b, 7, none⟩ (.slice sa' (k + 4) sc')) rfl (.tmp 63) (.tmp 68) 25 3 Tryz.underlying25 _ 1 8 info_int rfl (by omega) (by omega) rfl 0 (.slice ma k mc) k M rfl HR6.out [.int .i64 q, .int .i64 q, .int .i64 q, .int .i64 q] 4 rfl (by intro u hu; simp at hu; subst hu; rfl) (by simp [Act.eval]) (by omega) (by rw [setSize]; omega) ?_))
      intro v6' w7 ho7 hg7 hat7
      obtain ⟨ma', mc', rfl⟩ := rowShape ho7
      have HW8 := hid (HW7.out.grown hg7 HA.out.2.2.1)
      have HF := hid (own_fin hbl HM.out HA.out HS6.out.1 HS6.out.2.1 HS6.out.2.2 7 ho7 hg7 hat7 8)
      obtain ⟨-, -, -, -, -, -, -, -, e6, -, hfz⟩ := HW8.out.cells
      have f8 := hfz 8
      clear ho7 hg7 hat7 hfz d5 d6 f6 f7 HR6
      go_wp2_with fail
      go_end0
      exact ⟨q, ny, _, _, rfl, HW8.out.set8 _, HF.out⟩
end Go.Proofs.YtolgpnaoaodepaaGreat
