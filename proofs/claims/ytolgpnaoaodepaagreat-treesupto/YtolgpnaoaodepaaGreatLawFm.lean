/- The book of lists that came out; the walk of its mark. -/
import Derived.Test.YtolgpnaoaodepaaGreatRefOm
import Derived.Test.YtolgpnaoaodepaaGreatAidm
import Derived.Lib.AppendZeros
namespace Go.Proofs.YtolgpnaoaodepaaGreat
open Go.RowKit

/-- World's block: its trees, its book. -/
def Wb (w : World) (b : Nat) (vl v1 v2 v3 v4 v5 v6 v7 v8 : Value) (nx : Int) : Prop := w.heap[b]? = some (.cells #[vl, v1, v2, v3, v4, v5, v6, v7, v8, .int .i64 nx] 75 (0, 0))
theorem Wb.cells {w : World} {b : Nat} {vl v1 v2 v3 v4 v5 v6 v7 v8 : Value} {nx : Int} (h : Wb w b vl v1 v2 v3 v4 v5 v6 v7 v8 nx) : w.cell? ⟨b, 0, none⟩ = some vl ∧ w.cell? ⟨b, 1, none⟩ = some v1 ∧ w.cell? ⟨b, 2, none⟩ = some v2 ∧ w.cell? ⟨b, 3, none⟩ = some v3 ∧ w.cell? ⟨b, 4, none⟩ = some v4 ∧ w.cell? ⟨b, 5, none⟩ = some v5 ∧ w.cell? ⟨b, 6, none⟩ = some v6 ∧ w.cell? ⟨b, 7, none⟩ = some v7 ∧ w.cell? ⟨b, 8, none⟩ = some v8 ∧ w.cell? ⟨b, 9, none⟩ = some (.int .i64 nx) ∧ (∀ i, w.frozen? ⟨b, i, none⟩ = false) := by
  unfold Wb at h
  refine ⟨?_, ?_, ?_, ?_, ?_, ?_, ?_, ?_, ?_, ?_, fun i => ?_⟩ <;> simp [World.cell?, World.frozen?, h]
theorem Wb.next {w : World} {b : Nat} {vl v1 v2 v3 v4 v5 v6 v7 v8 : Value} {nx : Int} (h : Wb w b vl v1 v2 v3 v4 v5 v6 v7 v8 nx) (ny : Int) : Wb (w.setCell ⟨b, 9, none⟩ (.int .i64 ny)) b vl v1 v2 v3 v4 v5 v6 v7 v8 ny := by
  unfold Wb at *; rw [heap_setCell_at (i := 9) h]; rfl
theorem Wb.lt {w : World} {b : Nat} {vl v1 v2 v3 v4 v5 v6 v7 v8 : Value} {nx : Int} (h : Wb w b vl v1 v2 v3 v4 v5 v6 v7 v8 nx) : b < w.heap.size := (Array.getElem?_eq_some_iff.1 h).1
theorem Wb.below {w w' : World} {b B : Nat} {vl v1 v2 v3 v4 v5 v6 v7 v8 : Value} {nx : Int} (h : Wb w b vl v1 v2 v3 v4 v5 v6 v7 v8 nx) (hb : Below B w w') (hB : b < B) : Wb w' b vl v1 v2 v3 v4 v5 v6 v7 v8 nx := (hb.block b hB).trans h
theorem u8_back (p : Int) (h1 : 0 ≤ p) (h2 : p < 256) : ((UInt8.ofNat p.toNat).toNat : Int) = p := by rw [UInt8.toNat_ofNat']; omega
theorem addr_add (g j : Nat) : (⟨g, 0, none⟩ : Addr).add j = ⟨g, j, none⟩ := by
  by_cases h0 : j = 0
  · subst h0; simp [Addr.add]
  · simp [Addr.add, h0]
theorem conv3 (W : World) (g : Nat) (p q r : Int) (h1 : 0 ≤ p) (h2 : p < 256) (h3 : 0 ≤ q) (h4 : q < 256) (h5 : 0 ≤ r) (h6 : r < 256) (e : W.heap[g]? = some (.cells #[.int .u8 p, .int .u8 q, .int .u8 r] 5 (0, 0))) : ∃ s : ByteArray, s.size = 3 ∧ (convert 108 9 (.slice (some ⟨g, 0, none⟩) 3 3)).run Tryz.prog W = .ok (.string s) W := by
  refine ⟨⟨#[UInt8.ofNat p.toNat, UInt8.ofNat q.toNat, UInt8.ofNat r.toNat]⟩, rfl, ?_⟩
  refine run_convert_bytes_back (P := Tryz.prog) _ 108 9 5 ⟨g, 0, none⟩ 3 [UInt8.ofNat p.toNat, UInt8.ofNat q.toNat, UInt8.ofNat r.toNat] Tryz.underlying108 Tryz.underlying5 Tryz.underlying9 (fun j hj => ?_)
  rw [addr_add]
  match j, hj with
  | 0, _ => unfold World.cell?; rw [e]; show some (Value.int .u8 p) = some (Value.int .u8 ((UInt8.ofNat p.toNat).toNat : Int)); rw [u8_back p h1 h2]
  | 1, _ => unfold World.cell?; rw [e]; show some (Value.int .u8 q) = some (Value.int .u8 ((UInt8.ofNat q.toNat).toNat : Int)); rw [u8_back q h3 h4]
  | 2, _ => unfold World.cell?; rw [e]; show some (Value.int .u8 r) = some (Value.int .u8 ((UInt8.ofNat r.toNat).toNat : Int)); rw [u8_back r h5 h6]
set_option maxHeartbeats 1000000 in
set_option maxRecDepth 20000 in
theorem mark_any (b : Nat) (vl v1 v2 v3 v4 v5 v6 v7 v8 : Value) (nx : Int) (w : World) (h : Wb w b vl v1 v2 v3 v4 v5 v6 v7 v8 nx) :
    Calls Tryz.prog 115 #[.pointer (some ⟨b, 1, none⟩)] w fun r w' => ∃ s ny, r = .returned (.string s) ∧ Wb w' b vl v1 v2 v3 v4 v5 v6 v7 v8 ny ∧ But b w w' := by
  have HW := hid h
  obtain ⟨c0, c1, c2, c3, c4, c5, c6, c7, c8, c9, hfz⟩ := h.cells
  have z9 := hfz 9
  clear h hfz c0 c1 c2 c3 c4 c5 c6 c7 c8
  go_enter Tryz.func115, Tryz.ntmps115
  go_wp2_with fail
  generalize hny : wrap64 (nx + 1) = ny at *
  have HW1 := hid (HW.out.next ny)
  have HU1 := hid (but_set b 9 w (.int .i64 ny))
  clear hny HW c9 z9
  generalize w.setCell ⟨b, 9, none⟩ (.int .i64 ny) = w1 at *
  obtain ⟨-, -, -, -, -, -, -, -, -, c9, -⟩ := HW1.out.cells
  have hu8 : ∀ x : Int, 0 ≤ IntKind.u8.wrap x ∧ IntKind.u8.wrap x < 256 := fun x => by
    have : IntKind.u8.wrap x = x % 256 := rfl
    omega
  obtain ⟨s, hs3, hcv⟩ := conv3 ((w1.alloc (.cells #[.int .u8 (IntKind.u8.wrap ny), .int .u8 (IntKind.u8.wrap (ny / 256)), .int .u8 (IntKind.u8.wrap (ny / 65536))] 5)).drew) w1.heap.size _ _ _ (hu8 ny).1 (hu8 ny).2 (hu8 (ny / 256)).1 (hu8 (ny / 256)).2 (hu8 (ny / 65536)).1 (hu8 (ny / 65536)).2 (heap_alloc_new w1 _)
  clear hu8
  have e1 : ∀ w, (Op.stringOp .add ⟨#[109, 97, 114, 107]⟩ s).run Tryz.prog w = .ok (.string (⟨#[109, 97, 114, 107]⟩ ++ s)) w := fun w => run_string_add_sum w _ _ (by rw [hs3]; decide)
  clear hs3
  have HFIN : Hid (Wb ((w1.alloc (.cells #[.int .u8 (IntKind.u8.wrap ny), .int .u8 (IntKind.u8.wrap (ny / 256)), .int .u8 (IntKind.u8.wrap (ny / 65536))] 5)).drew) b vl v1 v2 v3 v4 v5 v6 v7 v8 ny ∧ But b w ((w1.alloc (.cells #[.int .u8 (IntKind.u8.wrap ny), .int .u8 (IntKind.u8.wrap (ny / 256)), .int .u8 (IntKind.u8.wrap (ny / 65536))] 5)).drew)) := by
    have hb := ((Below.refl w1.heap.size w1).alloc (Nat.le_refl _) (.cells #[.int .u8 (IntKind.u8.wrap ny), .int .u8 (IntKind.u8.wrap (ny / 256)), .int .u8 (IntKind.u8.wrap (ny / 65536))] 5)).drew
    exact ⟨HW1.out.below hb HW1.out.lt, but_trans HU1.out (but_below hb)⟩
  go_region_law (fail)
  all_goals
    go_wp2_with fail
    go_ret
    exact ⟨_, ny, rfl, HFIN.out⟩
end Go.Proofs.YtolgpnaoaodepaaGreat
/- The book's lists: append of marks, append of several elements, what each leaves alone. -/
namespace Go.Proofs.YtolgpnaoaodepaaGreat
open Go.RowKit

theorem set_mid {α : Type} (P R : List α) (x a : α) (k : Nat) (hk : k = P.length) : (P ++ x :: R).set k a = P ++ a :: R := by
  subst hk
  rw [List.set_append_right _ _ (Nat.le_refl _)]
  simp
/-- A row has a place for each of its cells, and is not shut. -/
theorem row_at {B : Nat} {e : TypeId} {sz g cap n : Nat} {xs : List Value} {w : World} (h : w.ownsRow B e sz (.slice (some ⟨g, 0, none⟩) n cap) n xs) (i : Nat) (hi : i < n * sz) : (∃ v, w.cell? ⟨g, i, none⟩ = some v) ∧ w.frozen? ⟨g, i, none⟩ = false := by
  rcases h.2 with ⟨h0, _⟩ | ⟨g', cap', cur, hv, hb, hg, h1, h2, h3, h4⟩
  · simp at h0
  · simp only [Value.slice.injEq, Option.some.injEq, Addr.mk.injEq, and_true, true_and] at hv
    obtain ⟨rfl, rfl⟩ := hv
    have hlt : i < cur.size := by
      have : n * sz ≤ cap * sz := Nat.mul_le_mul_right _ h1
      omega
    constructor
    · exact ⟨cur[i], by simp [World.cell?, hg, hlt]⟩
    · simp [World.frozen?, hg]
theorem grown_trans {a b c : World} {r : Option Nat} (h : a.grownBy b r) (k : b.grownBy c r) : a.grownBy c r := ⟨k.os.trans h.os, k.tape.trans h.tape, k.output.trans h.output, Nat.le_trans h.size k.size, fun i hi hr => (k.block i (Nat.lt_of_lt_of_le hi h.size) hr).trans (h.block i hi hr)⟩
theorem at_own {v : Value} {g : Nat} (h : atBlock v = some g) : v.ownBlock = some g := by
  unfold atBlock at h
  split at h
  · simpa [Value.ownBlock] using h
  · cases h
theorem Marked.grown {e : TypeId} {mc : List Value} {w w' : World} {v : Value} {r : Option Nat} (h : Marked e mc w v) (hg : w.grownBy w' r) (hne : ∀ g, atBlock v = some g → some g ≠ r) : Marked e mc w' v := h.keep fun g hk => hg.block g (h.lt hk) (hne g hk)
/-- append of several elements to a row of our own. -/
theorem wpApX (w : World) {ops : Array Oper} {rest : List Oper} {o : Oper} {a : Act} {Q : Exit → Act → World → Prop} (hgd : o.guard = none) (sl x : Operand) (t e : TypeId) (ht : Tryz.prog.underlying t = some (.slice e))
    (z : Value) (size bytes : Nat) (hinfo : (Tryz.prog.info? e).map (fun i => (i.zero, i.size, i.bytes)) = some (some z, size, bytes)) (hzs : z.cells.size = size) (hsp : 0 < size) (hby : bytes ≤ 1000)
    (ho : o.op = Op.call { callee := Callee.builtin Builtin.append, args := #[sl, x], argTypes := #[t, t] }) (B : Nat) (v : Value) (n : Nat) (xs : List Value) (hs : a.eval sl = v) (hown : w.ownsRow B e size v n xs)
    (news : List Value) (m : Nat) (hnl : news.length = m * size) (hone : ∀ u ∈ news, u.oneCell' = true) (hx : a.eval x = .slice (some ⟨w.heap.size, 0, none⟩) m m) (hb : n + m ≤ 1000000000) (hB : B ≤ w.heap.size)
    (h : ∀ (v' : Value) (w' : World), w'.ownsRow B e size v' (n + m) (xs ++ news) → w.grownBy w' v.ownBlock → (v'.ownBlock = v.ownBlock ∨ ∃ k, w.heap.size ≤ k ∧ v'.ownBlock = some k) → wpList Tryz.prog ops Q rest (a.put o.dst v') w') : wpList Tryz.prog ops Q (o :: rest) a (w.alloc (.cells news.toArray e)) := by
  obtain ⟨i, hi, hz0, hz1, hz2⟩ := info_parts hinfo
  refine wpList_append_own_at (w.alloc (.cells news.toArray e)) hgd sl x t ho B e i z size bytes ht hi hz0 hz1 hz2 hzs hsp v n xs hs (hown.alloc _) ⟨w.heap.size, 0, none⟩ m m news hx hnl ?_ hone (by unfold maxLen; omega) (by have : (n + m) * bytes ≤ 1000000000 * 1000 := Nat.mul_le_mul hb hby; omega) (by simp; omega) ?_
  · intro j u hj
    have hc : (w.alloc (.cells news.toArray e)).heap[w.heap.size]? = some (.cells news.toArray e (0, 0)) := heap_alloc_new _ _
    rw [addr_add]
    unfold World.cell?
    rw [hc]
    simpa using hj
  intro v' w' ho' hg _ hat
  exact h v' w' ho' (grown_after_alloc hg) (hat.imp_right fun e => ⟨w.heap.size + 1, by omega, by simpa using e⟩)
/-- append of marks to a row of marks. -/
theorem wpApM (w : World) {ops : Array Oper} {rest : List Oper} {o : Oper} {a : Act} {Q : Exit → Act → World → Prop} (hgd : o.guard = none) (sl x : Operand) (t e : TypeId) (ht : Tryz.prog.underlying t = some (.slice e))
    (z : Value) (size bytes : Nat) (hinfo : (Tryz.prog.info? e).map (fun i => (i.zero, i.size, i.bytes)) = some (some z, size, bytes)) (hzs : z.cells.size = size) (hsp : 0 < size) (hby : bytes ≤ 1000)
    (ho : o.op = Op.call { callee := Callee.builtin Builtin.append, args := #[sl, x], argTypes := #[t, t] }) (B : Nat) (v : Value) (n : Nat) (mc : List Value) (hmc : mc.length = size) (h1 : ∀ u ∈ mc, u.oneCell' = true) (hs : a.eval sl = v) (hown : w.ownsRow B e size v n (marks mc n))
    (m : Nat) (hx : a.eval x = .slice (some ⟨w.heap.size, 0, none⟩) m m) (hb : n + m ≤ 1000000000) (hB : B ≤ w.heap.size) (cur : Array Value) (hcur : cur.toList = marks mc m)
    (h : ∀ (v' : Value) (w' : World), w'.ownsRow B e size v' (n + m) (marks mc (n + m)) → w'.ownsRow B e size v n (marks mc n) → w.grownBy w' v.ownBlock → (v'.ownBlock = v.ownBlock ∨ ∃ k, w.heap.size ≤ k ∧ v'.ownBlock = some k) → (∀ u, Marked e mc w u → Marked e mc w' u) → wpList Tryz.prog ops Q rest (a.put o.dst v') w') : wpList Tryz.prog ops Q (o :: rest) a (w.alloc (.cells cur e)) := by
  obtain ⟨i, hi, hz0, hz1, hz2⟩ := info_parts hinfo
  obtain ⟨v', w', hr, q1, q2, q3, q4, q5⟩ := run_append_marks (P := Tryz.prog) (w.alloc (.cells cur e)) B t o.type e i z size bytes ht hi hz0 hz1 hz2 hzs hsp mc hmc h1 v n (hown.alloc _) ⟨w.heap.size, 0, none⟩ m m (by
    intro j u hj
    have hc : (w.alloc (.cells cur e)).heap[w.heap.size]? = some (.cells cur e (0, 0)) := heap_alloc_new _ _
    rw [addr_add]
    unfold World.cell?
    rw [hc]
    rw [← hcur] at hj
    simpa using hj) (by unfold maxLen; omega) (by have : (n + m) * bytes ≤ 1000000000 * 1000 := Nat.mul_le_mul hb hby; omega) (by simp; omega)
  exact Lib.wpList_append_run _ hgd sl x t t ho v _ hs hx v' w' hr (h v' w' q1 q2 (grown_after_alloc q3) (q4.imp_right fun e => ⟨w.heap.size + 1, by omega, by simpa using e⟩) (fun u hu => q5 u (hu.below ((Below.refl _ w).alloc (Nat.le_refl _) _))))
theorem info_string : (Tryz.prog.info? 9).map (fun i => (i.zero, i.size, i.bytes)) = some (some (.string ⟨#[]⟩), 1, 16) := by kernel_rfl
/-- What an own.. leaves: the list and what it grew to are recorded, each reads as its mark; blocks of old are left alone but these four. -/
def OwnR (w : World) (b : Nat) (eS eE eM : TypeId) (mc : List Value) (m l vS vM : Value) (k : Nat) (L M : List Value) (vS' vM' : Value) (w' : World) : Prop :=
  ∃ g1 g2 g3, w'.ownsRow 0 eS 1 vS' (k + 4) (L ++ [l, g1, g2, g3]) ∧ w'.ownsRow 0 eM 1 vM' (k + 4) (M ++ [m, m, m, m]) ∧
    (∀ u, u = l ∨ u = g1 ∨ u = g2 ∨ u = g3 → Marked eE mc w' u ∧ ∀ g, atBlock u = some g → (l.ownBlock = some g ∨ w.heap.size ≤ g) ∧ g ≠ b ∧ vS'.ownBlock ≠ some g ∧ vM'.ownBlock ≠ some g) ∧
    (∀ g, vS'.ownBlock = some g → (vS.ownBlock = some g ∨ w.heap.size ≤ g) ∧ g ≠ b ∧ vM'.ownBlock ≠ some g) ∧ (∀ g, vM'.ownBlock = some g → (vM.ownBlock = some g ∨ w.heap.size ≤ g) ∧ g ≠ b) ∧
    w'.os = w.os ∧ w'.tape = w.tape ∧ w'.output = w.output ∧ w.heap.size ≤ w'.heap.size ∧ ∀ i, i < w.heap.size → i ≠ b → l.ownBlock ≠ some i → vS.ownBlock ≠ some i → vM.ownBlock ≠ some i → w'.heap[i]? = w.heap[i]?
theorem ne_of_apart {u v : Value} (h : Apart u v) : v.ownBlock = none ∨ v.ownBlock ≠ u.ownBlock := by
  cases hv : v.ownBlock with
  | none => exact .inl rfl
  | some q => exact .inr fun e => h q e.symm hv
theorem Wb.grown {w w' : World} {b : Nat} {vl v1 v2 v3 v4 v5 v6 v7 v8 : Value} {nx : Int} {r : Option Nat} (h : Wb w b vl v1 v2 v3 v4 v5 v6 v7 v8 nx) (hg : w.grownBy w' r) (hne : r ≠ some b) : Wb w' b vl v1 v2 v3 v4 v5 v6 v7 v8 nx := (hg.block b h.lt fun e => hne e.symm).trans h
theorem Wb.set1 {w : World} {b : Nat} {vl v1 v2 v3 v4 v5 v6 v7 v8 : Value} {nx : Int} (h : Wb w b vl v1 v2 v3 v4 v5 v6 v7 v8 nx) (u : Value) : Wb (w.setCell ⟨b, 1, none⟩ u) b vl u v2 v3 v4 v5 v6 v7 v8 nx := by
  unfold Wb at *; rw [heap_setCell_at (i := 1) h]; rfl
theorem Wb.set2 {w : World} {b : Nat} {vl v1 v2 v3 v4 v5 v6 v7 v8 : Value} {nx : Int} (h : Wb w b vl v1 v2 v3 v4 v5 v6 v7 v8 nx) (u : Value) : Wb (w.setCell ⟨b, 2, none⟩ u) b vl v1 u v3 v4 v5 v6 v7 v8 nx := by
  unfold Wb at *; rw [heap_setCell_at (i := 2) h]; rfl
/-- How the list, the two rows and World's block lie to each other. -/
def Lies (b : Nat) (l vS vM : Value) : Prop := l.ownBlock ≠ some b ∧ vS.ownBlock ≠ some b ∧ vM.ownBlock ≠ some b ∧ Apart l vS ∧ Apart l vM ∧ Apart vS vM
/-- Behind the three that grew. -/
def OwnMid (w : World) (b : Nat) (eS eE eM : TypeId) (mc : List Value) (l vS vM : Value) (k : Nat) (L M : List Value) (g1 g2 g3 : Value) (w5 : World) : Prop :=
  w5.ownsRow 0 eS 1 vS k L ∧ w5.ownsRow 0 eM 1 vM k M ∧ (∀ g, vS.ownBlock = some g → g < w.heap.size) ∧ (∀ g, vM.ownBlock = some g → g < w.heap.size) ∧
  (∀ u, u = l ∨ u = g1 ∨ u = g2 ∨ u = g3 → Marked eE mc w5 u ∧ ∀ g, atBlock u = some g → l.ownBlock = some g ∨ w.heap.size ≤ g) ∧
  w5.os = w.os ∧ w5.tape = w.tape ∧ w5.output = w.output ∧ w.heap.size ≤ w5.heap.size ∧ ∀ i, i < w.heap.size → i ≠ b → l.ownBlock ≠ some i → w5.heap[i]? = w.heap[i]?
theorem own_mid {w w1 w5 : World} {b : Nat} {eS eE eM : TypeId} {mc : List Value} {l vS vM : Value} {k : Nat} {L M : List Value} {g1 g2 g3 : Value} (hS : w.ownsRow 0 eS 1 vS k L) (hM : w.ownsRow 0 eM 1 vM k M) (hA : Lies b l vS vM) (hb1 : But b w w1) (hg : w1.grownBy w5 l.ownBlock)
    (m0 : Marked eE mc w5 l) (m1 : Marked eE mc w5 g1) (m2 : Marked eE mc w5 g2) (m3 : Marked eE mc w5 g3)
    (a1 : g1.ownBlock = l.ownBlock ∨ ∃ k, w.heap.size ≤ k ∧ g1.ownBlock = some k) (a2 : g2.ownBlock = l.ownBlock ∨ ∃ k, w.heap.size ≤ k ∧ g2.ownBlock = some k) (a3 : g3.ownBlock = l.ownBlock ∨ ∃ k, w.heap.size ≤ k ∧ g3.ownBlock = some k) : OwnMid w b eS eE eM mc l vS vM k L M g1 g2 g3 w5 := by
  obtain ⟨al, aS, aM, lS, lM, aSM⟩ := hA
  have key : ∀ u : Value, (u.ownBlock = l.ownBlock ∨ ∃ k, w.heap.size ≤ k ∧ u.ownBlock = some k) → ∀ g, atBlock u = some g → l.ownBlock = some g ∨ w.heap.size ≤ g := by
    intro u hu g hg
    have := at_own hg
    rcases hu with e | ⟨k, hk, e⟩
    · exact .inl (e.symm.trans this)
    · rw [e] at this
      exact .inr (by simpa using (Option.some.inj this) ▸ hk)
  refine ⟨World.ownsRow.kept (World.ownsRow.kept hS hb1 (.inr aS)) hg (ne_of_apart lS), World.ownsRow.kept (World.ownsRow.kept hM hb1 (.inr aM)) hg (ne_of_apart lM), fun g hk => (World.ownsRow.lt hS g hk).2, fun g hk => (World.ownsRow.lt hM g hk).2, ?_, hg.os.trans hb1.os, hg.tape.trans hb1.tape, hg.output.trans hb1.output, Nat.le_trans hb1.size hg.size, fun i hi hib hil => (hg.block i (Nat.lt_of_lt_of_le hi hb1.size) (fun e => hil e.symm)).trans (hb1.block i hi (fun e => hib (Option.some.inj e)))⟩
  rintro u (rfl | rfl | rfl | rfl)
  · exact ⟨m0, key _ (.inl rfl)⟩
  · exact ⟨m1, key _ a1⟩
  · exact ⟨m2, key _ a2⟩
  · exact ⟨m3, key _ a3⟩
theorem OwnMid.rowM {w : World} {b : Nat} {eS eE eM : TypeId} {mc : List Value} {l vS vM : Value} {k : Nat} {L M : List Value} {g1 g2 g3 : Value} {w5 w6 : World} (h : OwnMid w b eS eE eM mc l vS vM k L M g1 g2 g3 w5) (hA : Lies b l vS vM) (gS : w5.grownBy w6 vS.ownBlock) (iS : Nat) (u : Value) : (w6.setCell ⟨b, iS, none⟩ u).ownsRow 0 eM 1 vM k M :=
  World.ownsRow.kept (World.ownsRow.kept h.2.1 gS (ne_of_apart hA.2.2.2.2.2)) (but_set b iS w6 u) (.inr hA.2.2.1)
theorem own_fin {w : World} {b : Nat} {eS eE eM : TypeId} {mc : List Value} {m l vS vM vS' vM' : Value} {k : Nat} {L M : List Value} {g1 g2 g3 : Value} {w5 w6 w7 : World} (hb : b < w.heap.size) (h : OwnMid w b eS eE eM mc l vS vM k L M g1 g2 g3 w5) (hA : Lies b l vS vM)
    (rS : w6.ownsRow 0 eS 1 vS' (k + 4) (L ++ [l, g1, g2, g3])) (gS : w5.grownBy w6 vS.ownBlock) (aS : vS'.ownBlock = vS.ownBlock ∨ ∃ k, w5.heap.size ≤ k ∧ vS'.ownBlock = some k) (iS : Nat)
    (rM : w7.ownsRow 0 eM 1 vM' (k + 4) (M ++ [m, m, m, m])) (gM : (w6.setCell ⟨b, iS, none⟩ vS').grownBy w7 vM.ownBlock) (aM : vM'.ownBlock = vM.ownBlock ∨ ∃ k, w6.heap.size ≤ k ∧ vM'.ownBlock = some k) (iM : Nat) :
    OwnR w b eS eE eM mc m l vS vM k L M vS' vM' (w7.setCell ⟨b, iM, none⟩ vM') := by
  obtain ⟨rS0, rM0, ltS, ltM, hmk, e1, e2, e3, e4, hfr⟩ := h
  obtain ⟨al, nS, nM, lS, lM, aSM⟩ := hA
  have s56 := gS.size
  have s67 := gM.size
  rw [setSize] at s67
  have fS : ∀ g, vS'.ownBlock = some g → vS.ownBlock = some g ∨ (w5.heap.size ≤ g ∧ w.heap.size ≤ g) := by
    intro g hg
    rcases aS with e | ⟨q, hq, e⟩
    · exact .inl (e ▸ hg)
    · rw [e] at hg; have := Option.some.inj hg; exact .inr (by omega)
  have fM : ∀ g, vM'.ownBlock = some g → vM.ownBlock = some g ∨ (w6.heap.size ≤ g ∧ w.heap.size ≤ g) := by
    intro g hg
    rcases aM with e | ⟨q, hq, e⟩
    · exact .inl (e ▸ hg)
    · rw [e] at hg; have := Option.some.inj hg; exact .inr (by omega)
  have nS' : vS'.ownBlock ≠ some b := fun e => by
    rcases fS b e with q | q
    · exact nS q
    · omega
  have nM' : vM'.ownBlock ≠ some b := fun e => by
    rcases fM b e with q | q
    · exact nM q
    · omega
  have apSM : vS'.ownBlock = none ∨ vS'.ownBlock ≠ vM.ownBlock := by
    cases hv : vS'.ownBlock with
    | none => exact .inl rfl
    | some q =>
      refine .inr fun e => ?_
      rcases fS q hv with p | p
      · exact aSM q p e.symm
      · have := ltM q e.symm; omega
  have ap2 : ∀ g, vS'.ownBlock = some g → vM'.ownBlock ≠ some g := by
    intro g hS hM
    rcases fM g hM with q | q
    · rcases apSM with z | z
      · rw [z] at hS; cases hS
      · exact z (hS.trans q.symm)
    · have := (World.ownsRow.lt rS g hS).2; omega
  refine ⟨g1, g2, g3, World.ownsRow.kept (World.ownsRow.kept (World.ownsRow.kept rS (but_set b iS w6 vS') (.inr nS')) gM apSM) (but_set b iM w7 vM') (.inr nS'), World.ownsRow.kept rM (but_set b iM w7 vM') (.inr nM'), ?_, fun g hg => ⟨?_, fun e => nS' (e ▸ hg), ap2 g hg⟩, fun g hg => ⟨?_, fun e => nM' (e ▸ hg)⟩, ?_, ?_, ?_, ?_, ?_⟩
  · intro u hu
    obtain ⟨mu, bu⟩ := hmk u hu
    have lt5 := fun g (hg : atBlock u = some g) => mu.lt hg
    have ub : ∀ g, atBlock u = some g → some g ≠ some b := fun g hg e => by
      have e' := Option.some.inj e
      rcases bu g hg with q | q
      · exact al (e' ▸ q)
      · omega
    have uS : ∀ g, atBlock u = some g → vS.ownBlock ≠ some g := fun g hg e => by
      rcases bu g hg with q | q
      · exact lS g q e
      · have := ltS g e; omega
    have uM : ∀ g, atBlock u = some g → vM.ownBlock ≠ some g := fun g hg e => by
      rcases bu g hg with q | q
      · exact lM g q e
      · have := ltM g e; omega
    refine ⟨(((mu.grown gS fun g hg e => uS g hg e.symm).grown (but_set b iS w6 vS') ub).grown gM fun g hg e => uM g hg e.symm).grown (but_set b iM w7 vM') ub, fun g hg => ⟨bu g hg, fun e => ub g hg (by rw [e]), fun e => ?_, fun e => ?_⟩⟩
    · rcases fS g e with q | q
      · exact uS g hg q
      · have := lt5 g hg; omega
    · rcases fM g e with q | q
      · exact uM g hg q
      · have := lt5 g hg; omega
  · exact (fS g hg).imp_right And.right
  · exact (fM g hg).imp_right And.right
  · exact ((but_set b iM w7 vM').os.trans gM.os).trans ((but_set b iS w6 vS').os.trans (gS.os.trans e1))
  · exact ((but_set b iM w7 vM').tape.trans gM.tape).trans ((but_set b iS w6 vS').tape.trans (gS.tape.trans e2))
  · exact ((but_set b iM w7 vM').output.trans gM.output).trans ((but_set b iS w6 vS').output.trans (gS.output.trans e3))
  · rw [setSize]; omega
  · intro i hi hib hil hiS hiM
    have hsb : some i ≠ some b := fun e => hib (Option.some.inj e)
    rw [(but_set b iM w7 vM').block i (by omega) hsb, gM.block i (by rw [setSize]; omega) (fun e => hiM e.symm), (but_set b iS w6 vS').block i (by omega) hsb, gS.block i (by omega) (fun e => hiS e.symm)]
    exact hfr i hi hib hil
end Go.Proofs.YtolgpnaoaodepaaGreat
/- The walk of ownTexts. -/
namespace Go.Proofs.YtolgpnaoaodepaaGreat
open Go.RowKit

end Go.Proofs.YtolgpnaoaodepaaGreat
/- The walk of ownNumbers. -/
namespace Go.Proofs.YtolgpnaoaodepaaGreat
open Go.RowKit

end Go.Proofs.YtolgpnaoaodepaaGreat
