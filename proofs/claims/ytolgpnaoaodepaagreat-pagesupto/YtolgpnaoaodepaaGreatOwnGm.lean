/- append(v, make([]byte, k)...) onto bytes that a call owns; bytes that were built just now are owned. -/
import Derived.Test.YtolgpnaoaodepaaGreatMathEm
import Derived.Lib.AppendZerosOnto
import Derived.Laws.OwnMore
import Derived.Test.YtolgpnaoaodepaaGreatRefOm
import Derived.Maps.AppendAt
namespace Go.Proofs.YtolgpnaoaodepaaGreat
open Go.RowKit

/-- Of all old blocks only v's own row has changed; v' lies in that row or in a new block. -/
def Grew (w w' : World) (v v' : Value) : Prop := w.grownBy w' v.ownBlock ∧ (v'.ownBlock = v.ownBlock ∨ ∃ k, w.heap.size ≤ k ∧ v'.ownBlock = some k)
theorem Grew.refl (w : World) (v : Value) : Grew w w v v := ⟨⟨rfl, rfl, rfl, Nat.le_refl _, fun _ _ _ => rfl⟩, .inl rfl⟩
theorem Grew.size {w w' : World} {v v' : Value} (h : Grew w w' v v') : w.heap.size ≤ w'.heap.size := h.1.size
theorem Grew.trans {a b c : World} {u v x : Value} (h : Grew a b u v) (k : Grew b c v x) : Grew a c u x := by
  refine ⟨⟨k.1.os.trans h.1.os, k.1.tape.trans h.1.tape, k.1.output.trans h.1.output, Nat.le_trans h.1.size k.1.size, fun i hi hne => ?_⟩, ?_⟩
  · refine (k.1.block i (Nat.lt_of_lt_of_le hi h.1.size) ?_).trans (h.1.block i hi hne)
    rcases h.2 with e | ⟨j, hj, e⟩
    · rw [e]; exact hne
    · rw [e]; intro e'; have : i = j := by simpa using e'
      omega
  · rcases k.2 with e | ⟨j, hj, e⟩
    · rw [e]; exact h.2
    · exact .inr ⟨j, Nat.le_trans h.1.size hj, e⟩
theorem Grew.below {B : Nat} {w w' : World} {v v' : Value} {T : TypeId} {sz n : Nat} {xs : List Value} (h : Grew w w' v v') (hown : w.ownsRow B T sz v n xs) (hB : B ≤ w.heap.size) : Below B w w' :=
  (Below.refl B w).grown h.1 hB fun k hk => (World.ownsRow.lt hown k hk).1
theorem Grew.cell {w w' : World} {v v' : Value} (h : Grew w w' v v') {a : Addr} {x : Value} (hc : w.cell? a = some x) (hne : v.ownBlock ≠ some a.block) : w'.cell? a = some x := h.1.cell hc (fun e => hne e.symm)
theorem Grew.pre {a b c : World} {v x : Value} (h : Below a.heap.size a b) (k : Grew b c v x) : Grew a c v x := by
  refine ⟨⟨k.1.os.trans h.os, k.1.tape.trans h.tape, k.1.output.trans h.output, Nat.le_trans h.size k.1.size, fun i hi hne => ?_⟩, ?_⟩
  · exact (k.1.block i (Nat.lt_of_lt_of_le hi h.size) hne).trans (h.block i hi)
  · rcases k.2 with e | ⟨j, hj, e⟩
    · exact .inl e
    · exact .inr ⟨j, Nat.le_trans h.size hj, e⟩
theorem Grew.post {a b c : World} {v x : Value} (k : Grew a b v x) (h : Below b.heap.size b c) : Grew a c v x :=
  ⟨⟨h.os.trans k.1.os, h.tape.trans k.1.tape, h.output.trans k.1.output, Nat.le_trans k.1.size h.size, fun i hi hne => (h.block i (Nat.lt_of_lt_of_le hi k.1.size)).trans (k.1.block i hi hne)⟩, k.2⟩
theorem Grew.drewN {a b : World} {v x : Value} (h : Grew a b v x) (q : Nat) : Grew a (b.drewN q) v x := ⟨⟨h.1.os, h.1.tape, h.1.output, h.1.size, h.1.block⟩, h.2⟩
theorem grew_alloc {w w' : World} {ob : Obj} {v v' : Value} (hg : (w.alloc ob).grownBy w' v.ownBlock) (hat : v'.ownBlock = v.ownBlock ∨ v'.ownBlock = some (w.heap.size + 1)) : Grew w w' v v' :=
  ⟨grown_after_alloc hg, hat.imp_right fun e => ⟨_, Nat.le_succ _, e⟩⟩
theorem owns_shrink {B C : Nat} {w : World} {v : Value} {l : List UInt8} (h : Owns B w v l) (hc : C ≤ B) : Owns C w v l := by
  refine ⟨h.1, ?_⟩
  rcases h.2 with hn | ⟨g, cap, cur, hv, hb', r⟩
  · exact .inl hn
  · exact .inr ⟨g, cap, cur, hv, Nat.le_trans hc hb', r⟩
theorem run_string_at (w : World) (B : Nat) (ty : TypeId) (v : Value) (l : List UInt8) (hown : Owns B w v l) (s : ByteArray) (hb : l.length + s.size ≤ 140737488355328) (hB : B ≤ w.heap.size) :
    ∃ v' w', (Builtin.append_ #[108, 9] ty #[v, .string s]).run Tryz.prog w = .ok v' w' ∧ Owns B w' v' (l ++ s.data.toList) ∧ Grew w w' v v' := by
  obtain ⟨i, hi, hz0, hz1, hz2⟩ := info_parts info_u8
  obtain ⟨v', w', hrun, ho', hg, hnil⟩ := Lib.run_append_own_string w B 108 9 ty 5 i Tryz.underlying108 Tryz.underlying9 hi hz0 hz1 hz2 v l.length (Lib.byteCells l) hown s (by unfold maxLen; omega) hb hB
  refine ⟨v', w', hrun, ?_, hg, ?_⟩
  · have e1 : Lib.byteCells (l ++ s.data.toList) = Lib.byteCells l ++ Lib.strCells s := by rw [Lib.byteCells_append]; rfl
    unfold Owns
    rw [e1, List.length_append, show s.data.toList.length = s.size by simp]
    exact ho'
  · rcases hown.2 with ⟨rfl, hn⟩ | ⟨g, cap, cur, rfl, hbg, hg', hnc, hcm, hcs, htake⟩
    · by_cases hm : s.size = 0
      · rw [hnil.2 ⟨rfl, hm⟩]; exact .inl rfl
      · have hr := run_append_nil_string (P := Tryz.prog) w 108 9 ty 5 i (.int .u8 0) Tryz.underlying108 Tryz.underlying9 hi hz0 s (by omega) (by omega) (by rw [hz2]; omega)
        rw [hrun] at hr
        simp only [Result.ok.injEq] at hr
        rw [hr.1]
        exact .inr ⟨_, Nat.le_refl _, rfl⟩
    · by_cases hroom : l.length + s.size ≤ cap
      · have hr := Lib.run_append_room_string (P := Tryz.prog) w 108 9 ty 5 i Tryz.underlying108 Tryz.underlying9 hi hz1 g l.length cap cur hg' s hroom (by omega)
        rw [hrun] at hr
        simp only [Result.ok.injEq] at hr
        rw [hr.1]
        exact .inl rfl
      · have hr := Lib.run_append_grow_string (P := Tryz.prog) w 108 9 ty 5 i (.int .u8 0) Tryz.underlying108 Tryz.underlying9 hi hz0 ⟨g, 0, none⟩ l.length cap (Lib.byteCells l) (by rw [hz1]; exact hown.1) hown.cells s (by omega) (by omega) (by rw [hz2]; exact growslice_fits (by omega) (by omega))
        rw [hrun] at hr
        simp only [Result.ok.injEq] at hr
        rw [hr.1]
        exact .inr ⟨_, Nat.le_refl _, rfl⟩
/-- append(v, s...), s a string. -/
theorem wpApSg (w : World) {ops : Array Oper} {rest : List Oper} {o : Oper} {a : Act} {Q : Exit → Act → World → Prop} (hgd : o.guard = none) (sl x : Operand)
    (ho : o.op = Op.call { callee := Callee.builtin Builtin.append, args := #[sl, x], argTypes := #[108, 9] }) (B : Nat) (v : Value) (l : List UInt8) (hs : a.eval sl = v) (hown : Owns B w v l)
    (s : ByteArray) (hx : a.eval x = .string s) (hb : l.length + s.size ≤ 140737488355328) (hB : B ≤ w.heap.size)
    (h : ∀ (v' : Value) (w' : World), Owns B w' v' (l ++ s.data.toList) → Grew w w' v v' → wpList Tryz.prog ops Q rest (a.put o.dst v') w') : wpList Tryz.prog ops Q (o :: rest) a w := by
  obtain ⟨v', w', hr, h1, h2⟩ := run_string_at w B o.type v l hown s hb hB
  exact Lib.wpList_append_run w hgd sl x 108 9 ho v _ hs hx v' w' hr (h v' w' h1 h2)
theorem wpAp4 (w : World) {ops : Array Oper} {rest : List Oper} {o : Oper} {a : Act} {Q : Exit → Act → World → Prop} (hgd : o.guard = none) (sl x : Operand)
    (ho : o.op = Op.call { callee := Callee.builtin Builtin.append, args := #[sl, x], argTypes := #[108, 108] }) (B : Nat) (v : Value) (l : List UInt8) (hs : a.eval sl = v) (hown : Owns B w v l)
    (b c d e : UInt8) (n m p q : Int) (hn : n = (b.toNat : Int)) (hm : m = (c.toNat : Int)) (hp : p = (d.toNat : Int)) (hq : q = (e.toNat : Int)) (hx : a.eval x = .slice (some ⟨w.heap.size, 0, none⟩) 4 4)
    (hb : l.length + 4 ≤ 140737488355328) (hB : B ≤ w.heap.size)
    (h : ∀ (v' : Value) (w' : World), Owns B w' v' (l ++ [b, c, d, e]) → Grew w w' v v' → wpList Tryz.prog ops Q rest (a.put o.dst v') w') : wpList Tryz.prog ops Q (o :: rest) a (w.alloc (.cells #[.int .u8 n, .int .u8 m, .int .u8 p, .int .u8 q] 5)) := by
  subst hn hm hp hq
  refine wpApB (w.alloc (.cells #[.int .u8 (b.toNat : Int), .int .u8 (c.toNat : Int), .int .u8 (d.toNat : Int), .int .u8 (e.toNat : Int)] 5)) hgd sl x ho B v l hs (hown.alloc _) ⟨w.heap.size, 0, none⟩ 4 [b, c, d, e] hx (laid_cells w _ [b, c, d, e] _ (by simp [Lib.byteCells])) (by simpa using hb) (by simp; omega) ?_
  intro v' w' h1 h2 h3
  exact h v' w' h1 (grew_alloc h2 (by simpa using h3))
theorem zeros_cells (k : Nat) : (Builtin.zeroCells (Value.int .u8 0).cells k).toList = Lib.byteCells (List.replicate k 0) := by
  rw [show (Value.int .u8 0).cells = #[Value.int .u8 0] from rfl]
  apply List.ext_getElem
  · simp [Builtin.zeroCells, Lib.byteCells]
  · intro i h1 h2
    simp [Builtin.zeroCells, Lib.byteCells, Nat.mod_one]
theorem run_room_zeros (w : World) (ty : TypeId) (g n cap : Nat) (cur : Array Value) (hg : w.heap[g]? = some (.cells cur 5 (0, 0))) (k : Nat) (hk : k ≤ 1000000000) (hroom : n + k ≤ cap) (hfit : n + k ≤ cur.size) :
    (Builtin.append_ #[108, 3] ty #[.slice (some ⟨g, 0, none⟩) n cap, .int .i64 (k : Int)]).run Tryz.prog w = .ok (.slice (some ⟨g, 0, none⟩) (n + k) cap) (w.setRow g (cur.toList.take n ++ Lib.byteCells (List.replicate k 0) ++ cur.toList.drop (n + k)).toArray) := by
  obtain ⟨i, hi, hz0, hz1, hz2⟩ := info_parts info_u8
  have hst := run_storeCells_at Tryz.prog g n 5 (Lib.byteCells (List.replicate k 0)) 0 cur w hg (by rw [Lib.byteCells_length, List.length_replicate]; omega) (byteCells_one _)
  simp only [Nat.add_zero, Lib.byteCells_length, List.length_replicate] at hst
  have hw : IntKind.i64.wrap (k : Int) = k := by rw [IntKind.wrap_i64]; omega
  have hneg : ¬ ((k : Int) < 0) := by omega
  have h48 : ¬ (281474976710656 < (k : Int)) := by omega
  by_cases hk0 : k = 0
  · subst hk0
    have hroom' : n ≤ cap := hroom
    have hw0 : IntKind.i64.wrap 0 = 0 := rfl
    simp [Lib.byteCells] at hst
    simp [Builtin.append_, run_underlying Tryz.underlying108, run_underlying Tryz.underlying3, sizeOf, typeInfo, hi, hz1, hz2, asInt, asIntOf, hw0, hroom', Addr.add_lit, Lib.byteCells, hst]
  · have hzc : Builtin.zeroCells (Value.int .u8 0).cells k = (Lib.byteCells (List.replicate k 0)).toArray := by rw [← zeros_cells]
    simp [Builtin.append_, run_underlying Tryz.underlying108, run_underlying Tryz.underlying3, sizeOf, typeInfo, zeroValue, hi, hz0, hz1, hz2, asInt, asIntOf, hw, hneg, h48, hk0, hroom, Addr.add_lit, hzc, hst]
theorem run_append_zeros (w : World) (B : Nat) (ty : TypeId) (v : Value) (l : List UInt8) (hown : Owns B w v l) (hpos : 0 < l.length) (k : Nat) (hk : k ≤ 1000000000) (hl : l.length ≤ 100000000000) (hB : B ≤ w.heap.size) :
    ∃ v' w', (Builtin.append_ #[108, 3] ty #[v, .int .i64 (k : Int)]).run Tryz.prog w = .ok v' w' ∧ Owns B w' v' (l ++ List.replicate k 0) ∧ Grew w w' v v' := by
  obtain ⟨i, hi, hz0, hz1, hz2⟩ := info_parts info_u8
  have hlen : (Lib.byteCells (l ++ List.replicate k 0)).length = (l.length + k) * 1 := by rw [Lib.byteCells_length]; simp
  rcases hown.2 with ⟨rfl, hn⟩ | ⟨g, cap, cur, rfl, hbg, hg, hnc, hcm, hcs, htake⟩
  · omega
  · by_cases hroom : l.length + k ≤ cap
    · have hr := run_room_zeros w ty g l.length cap cur hg k hk hroom (by omega)
      refine ⟨_, _, hr, ?_, ⟨rfl, rfl, rfl, by simp, fun j _ hj => setRow_other w g j _ (fun e => hj (by simp [Value.ownBlock, e]))⟩, .inl rfl⟩
      unfold Owns
      rw [show (l ++ List.replicate k (0 : UInt8)).length = l.length + k by simp]
      refine ⟨hlen, .inr ⟨g, cap, _, rfl, hbg, setRow_heap w g cur _ _ _ hg, hroom, hcm, ?_, ?_⟩⟩
      · simp only [List.size_toArray, List.length_append, List.length_take, List.length_drop, Array.length_toList, Lib.byteCells_length, List.length_replicate]
        omega
      · rw [show List.take l.length cur.toList = Lib.byteCells l by simpa using htake, ← Lib.byteCells_append, ← hlen]
        exact List.take_left
    · have hk0 : 0 < k := by omega
      have hold := run_firstCells_some (P := Tryz.prog) w.drew 1 l.length ⟨g, 0, none⟩ l.length cap (Lib.byteCells l) hown.1 (hown.cells)
      have hr := Lib.run_append_grow_zeros (P := Tryz.prog) w 108 3 ty 5 i (.int .u8 0) .i64 .i64 Tryz.underlying108 Tryz.underlying3 hi hz0 (some ⟨g, 0, none⟩) l.length cap (Lib.byteCells l) (by rw [hz1]; exact hold) k hk0 (by rw [hz1]; decide) (by omega) (by omega) (by rw [hz2]; omega) (growslice_fits (by omega) (by rw [hz2]; omega))
      refine ⟨_, _, hr, ?_, ⟨rfl, rfl, rfl, by simp, fun k hk _ => Below.heap_alloc w.drew _ k hk⟩, .inr ⟨_, Nat.le_refl _, rfl⟩⟩
      unfold Owns
      rw [show (l ++ List.replicate k (0 : UInt8)).length = l.length + k by simp]
      have hge := grownCap_ge w (l.length + k) cap 5
      refine ⟨hlen, .inr ⟨w.heap.size, _, _, rfl, hB, heap_alloc_new w.drew _, hge, grownCap_le_maxLen w _ _ _ (by unfold maxLen; omega), ?_, ?_⟩⟩
      · simp only [Array.size_append, List.size_toArray, size_zeroCells, Lib.byteCells_length]
        show _ + _ * 1 + _ * 1 = _
        omega
      · simp only [Array.toList_append, zeros_cells]
        rw [← Lib.byteCells_append, ← hlen]
        exact List.take_left
/-- append(v, make([]byte, k)...). -/
theorem wpApZ (w : World) {ops : Array Oper} {rest : List Oper} {o : Oper} {a : Act} {Q : Exit → Act → World → Prop} (hgd : o.guard = none) (sl x : Operand)
    (ho : o.op = Op.call { callee := Callee.builtin Builtin.append, args := #[sl, x], argTypes := #[108, 3] }) (B : Nat) (v : Value) (l : List UInt8) (hs : a.eval sl = v) (hown : Owns B w v l) (hpos : 0 < l.length)
    (k : Nat) (hx : a.eval x = .int .i64 (k : Int)) (hk : k ≤ 1000000000) (hl : l.length ≤ 100000000000) (hB : B ≤ w.heap.size)
    (h : ∀ (v' : Value) (w' : World), Owns B w' v' (l ++ List.replicate k 0) → Grew w w' v v' → wpList Tryz.prog ops Q rest (a.put o.dst v') w') : wpList Tryz.prog ops Q (o :: rest) a w := by
  obtain ⟨v', w', hr, h1, h2⟩ := run_append_zeros w B o.type v l hown hpos k hk hl hB
  exact Lib.wpList_append_run w hgd sl x 108 3 ho v _ hs hx v' w' hr (h v' w' h1 h2)
/-- Bytes that were built just now. -/
theorem owns_lit (w : World) (B : Nat) (hB : B ≤ w.heap.size) (bs : List UInt8) (cs : Array Value) (hc : cs.toList = Lib.byteCells bs) (hl : bs.length ≤ 1000000) : Owns B (w.alloc (.cells cs 5)) (.slice (some ⟨w.heap.size, 0, none⟩) bs.length bs.length) bs := by
  have hsz : cs.size = bs.length * 1 := by rw [← Array.length_toList, hc, Lib.byteCells_length, Nat.mul_one]
  have := World.ownsRow_lit (base := B) (e := 5) (size := 1) w cs bs.length hB (by unfold maxLen; omega) hsz
  rw [hc] at this
  exact this
end Go.Proofs.YtolgpnaoaodepaaGreat
/- Lists that are written full with a mark, and grow by it: what is recorded of them stays. -/
namespace Go.Proofs.YtolgpnaoaodepaaGreat
open Go.RowKit

/-- So many marks. -/
def marks (mc : List Value) (n : Nat) : List Value := (List.replicate n mc).flatten
theorem marks_len (mc : List Value) (n : Nat) : (marks mc n).length = n * mc.length := by
  unfold marks; simp [List.length_flatten]
theorem marks_add (mc : List Value) (n m : Nat) : marks mc (n + m) = marks mc n ++ marks mc m := by
  unfold marks; rw [← List.flatten_append, List.replicate_append_replicate]
theorem marks_zero (mc : List Value) : marks mc 0 = [] := rfl
/-- A list that reads as its mark throughout. -/
def Marked (e : TypeId) (mc : List Value) (w : World) (v : Value) : Prop := ∃ a n cap, v = .slice a n cap ∧ n ≤ cap ∧ cap ≤ maxLen ∧ (n = 0 ∨ ∃ g cur, a = some ⟨g, 0, none⟩ ∧ w.heap[g]? = some (.cells cur e (0, 0)) ∧ cur.toList.take (n * mc.length) = marks mc n)
/-- The block that a list lies in, if it has elements. -/
def atBlock : Value → Option Nat
  | .slice (some ⟨g, _, _⟩) (_ + 1) _ => some g
  | _ => none
theorem marked_of {B : Nat} {e : TypeId} {mc : List Value} {w : World} {v : Value} {n : Nat} (h : w.ownsRow B e mc.length v n (marks mc n)) : Marked e mc w v := by
  rcases h.2 with ⟨rfl, hn⟩ | ⟨g, cap, cur, rfl, hbg, hg, hnc, hcm, hcs, ht⟩
  · exact ⟨none, 0, 0, rfl, Nat.le_refl _, Nat.zero_le _, .inl rfl⟩
  · exact ⟨_, _, _, rfl, hnc, hcm, .inr ⟨g, cur, rfl, hg, ht⟩⟩
theorem Marked.keep {e : TypeId} {mc : List Value} {w w' : World} {v : Value} (h : Marked e mc w v) (hb : ∀ g, atBlock v = some g → w'.heap[g]? = w.heap[g]?) : Marked e mc w' v := by
  obtain ⟨a, n, cap, rfl, h1, h2, h3⟩ := h
  refine ⟨a, n, cap, rfl, h1, h2, ?_⟩
  rcases h3 with h3 | ⟨g, cur, rfl, hg, ht⟩
  · exact .inl h3
  · match n, ht with
    | 0, _ => exact .inl rfl
    | n + 1, ht => exact .inr ⟨g, cur, rfl, (hb g rfl).trans hg, ht⟩
theorem Marked.lt {e : TypeId} {mc : List Value} {w : World} {v : Value} (h : Marked e mc w v) {g : Nat} (hg : atBlock v = some g) : g < w.heap.size := by
  obtain ⟨a, n, cap, rfl, -, -, h3⟩ := h
  match n, h3 with
  | 0, _ => simp [atBlock] at hg
  | n + 1, .inl h => omega
  | n + 1, .inr ⟨k, cur, ha, hk, _⟩ =>
    subst ha
    have : k = g := by simpa [atBlock] using hg
    subst this
    exact (Array.getElem?_eq_some_iff.1 hk).1
theorem Marked.below {e : TypeId} {mc : List Value} {w w' : World} {v : Value} (h : Marked e mc w v) (hb : Below w.heap.size w w') : Marked e mc w' v := h.keep fun g hg => hb.block g (h.lt hg)
theorem take_marks {l : List Value} {mc : List Value} {n k : Nat} (h : l.take (n * mc.length) = marks mc n) (hk : k ≤ n) : l.take (k * mc.length) = marks mc k := by
  have : l.take (k * mc.length) = (l.take (n * mc.length)).take (k * mc.length) := by rw [List.take_take, Nat.min_eq_left (Nat.mul_le_mul_right _ hk)]
  rw [this, h, show n = k + (n - k) by omega, marks_add, ← marks_len mc k, List.take_left]
section
variable {P : Program}
/-- append of marks to a row of marks: the new row, the old one, and all that was recorded read as marks. -/
theorem run_append_marks (w : World) (B : Nat) (t ty e : TypeId) (i : TypeInfo) (z : Value) (size bytes : Nat) (ht : P.underlying t = some (.slice e)) (hi : P.info? e = some i) (hz : i.zero = some z)
    (hsize : i.size = size) (hby : i.bytes = bytes) (hzs : z.cells.size = size) (hsz : 0 < size)
    (mc : List Value) (hmc : mc.length = size) (h1 : ∀ u ∈ mc, u.oneCell' = true)
    (v : Value) (n : Nat) (hown : w.ownsRow B e size v n (marks mc n))
    (a : Addr) (m c : Nat) (hnews : ∀ j u, (marks mc m)[j]? = some u → w.cell? (a.add j) = some u)
    (h63 : n + m ≤ maxLen) (hbytes : (n + m) * bytes ≤ 140737488355328) (hbase : B ≤ w.heap.size) :
    ∃ v' w', (Builtin.append_ #[t, t] ty #[v, .slice (some a) m c]).run P w = .ok v' w' ∧ w'.ownsRow B e size v' (n + m) (marks mc (n + m)) ∧ w'.ownsRow B e size v n (marks mc n) ∧ w.grownBy w' v.ownBlock ∧
      (v'.ownBlock = v.ownBlock ∨ v'.ownBlock = some w.heap.size) ∧ (∀ u, Marked e mc w u → Marked e mc w' u) := by
  have hm1 : ∀ u ∈ marks mc m, u.oneCell' = true := by
    intro u hu
    unfold marks at hu
    obtain ⟨l, hl, hul⟩ := List.mem_flatten.1 hu
    rw [(List.mem_replicate.1 hl).2] at hul
    exact h1 u hul
  have hl : (marks mc m).length = m * size := by rw [marks_len, hmc]
  obtain ⟨v', w', hrun, ho, hg, _, hat⟩ := run_append_own_at (P := P) w B t ty e i z size bytes ht hi hz hsize hby hzs hsz v n (marks mc n) hown a m c (marks mc m) hl hnews hm1 h63 hbytes hbase
  rw [← marks_add] at ho
  subst hsize
  subst hby
  rcases hown.2 with ⟨rfl, rfl⟩ | ⟨g, cap, cur, rfl, hbg, hgc, hnc, hcm, hcs, htake⟩
  · exact ⟨v', w', hrun, ho, by rw [marks_zero]; exact World.ownsRow_nil _ _ _ _, hg, hat, fun u hu => hu.keep fun k hk => hg.block k (hu.lt hk) (by simp [Value.ownBlock])⟩
  · by_cases hroom : n + m ≤ cap
    · have hfit : n * i.size + (marks mc m).length ≤ cur.size := by rw [hl, hcs, ← Nat.add_mul]; exact Nat.mul_le_mul_right _ hroom
      have hr := run_append_room (P := P) w t ty e i ht hi g n cap cur hgc a m c (marks mc m) hl hnews hm1 hroom hfit
      rw [hrun] at hr
      simp only [Result.ok.injEq] at hr
      obtain ⟨rfl, rfl⟩ := hr
      have hheap := setRow_heap w g cur (cur.toList.take (n * i.size) ++ marks mc m ++ cur.toList.drop (n * i.size + (marks mc m).length)).toArray e _ hgc
      have hcur : (cur.toList.take (n * i.size) ++ marks mc m ++ cur.toList.drop (n * i.size + (marks mc m).length)).take ((n + m) * i.size) = marks mc (n + m) := by
        rw [htake, ← marks_add]
        have : (marks mc (n + m)).length = (n + m) * i.size := by rw [marks_len, hmc]
        rw [← this]; exact List.take_left
      refine ⟨_, _, hrun, ho, ?_, hg, hat, fun u hu => ?_⟩
      · refine ⟨hown.1, .inr ⟨g, cap, _, rfl, hbg, hheap, hnc, hcm, ?_, ?_⟩⟩
        · simp only [List.size_toArray, List.length_append, List.length_take, List.length_drop, Array.length_toList]
          omega
        · have := take_marks (n := n + m) (k := n) (by rw [hmc]; exact hcur) (by omega)
          rw [hmc] at this
          exact this
      · obtain ⟨au, k, capu, rfl, u1, u2, u3⟩ := hu
        rcases u3 with u3 | ⟨gu, curu, rfl, hgu, htu⟩
        · exact ⟨_, _, _, rfl, u1, u2, .inl u3⟩
        · by_cases he : gu = g
          · subst he
            rw [hgc] at hgu
            simp only [Option.some.injEq, Obj.cells.injEq, and_true] at hgu
            obtain ⟨rfl, -⟩ := hgu
            refine ⟨_, _, _, rfl, u1, u2, .inr ⟨gu, _, rfl, hheap, ?_⟩⟩
            by_cases hk : k ≤ n + m
            · exact take_marks (n := n + m) (by rw [hmc]; exact hcur) hk
            · have hk2 : n + m ≤ k := by omega
              show (cur.toList.take (n * i.size) ++ marks mc m ++ cur.toList.drop (n * i.size + (marks mc m).length)).take (k * mc.length) = _
              rw [htake, ← marks_add, hl, ← Nat.add_mul]
              have e1 : cur.toList.take ((n + m) * i.size) = marks mc (n + m) := by
                have := take_marks htu hk2
                rw [hmc] at this
                exact this
              rw [← e1, List.take_append_drop]
              exact htu
          · exact ⟨_, _, _, rfl, u1, u2, .inr ⟨gu, curu, rfl, (setRow_other w g gu _ he).trans hgu, htu⟩⟩
    · have holds : ∀ j u, (marks mc n)[j]? = some u → w.cell? ((⟨g, 0, none⟩ : Addr).add j) = some u := hown.cells (g := g) rfl
      have hsmall : n + m ≤ 9223372036854775807 := by simp only [maxLen] at h63; omega
      have hr := run_append_grow (P := P) w t ty e i z ht hi hz ⟨g, 0, none⟩ n cap (marks mc n) hown.1 holds a m c (marks mc m) hl hnews (by omega) (by omega) (growslice_fits (by omega) hbytes)
      rw [hrun] at hr
      simp only [Result.ok.injEq] at hr
      obtain ⟨rfl, rfl⟩ := hr
      refine ⟨_, _, hrun, ho, ?_, hg, hat, fun u hu => hu.keep fun k hk => Below.heap_alloc w.drew _ k (hu.lt hk)⟩
      exact ⟨hown.1, .inr ⟨g, cap, cur, rfl, hbg, (Below.heap_alloc w.drew _ g (Array.getElem?_eq_some_iff.1 hgc).1).trans hgc, hnc, hcm, hcs, htake⟩⟩
end
end Go.Proofs.YtolgpnaoaodepaaGreat
/- The book of lists that came out; the walk of its mark. -/
namespace Go.Proofs.YtolgpnaoaodepaaGreat
open Go.RowKit

/-- World's block: its trees, its book. -/
def Wb (w : World) (b : Nat) (vl v1 v2 v3 v4 v5 v6 v7 v8 : Value) (nx : Int) : Prop := w.heap[b]? = some (.cells #[vl, v1, v2, v3, v4, v5, v6, v7, v8, .int .i64 nx] 75 (0, 0))
theorem Wb.cells {w : World} {b : Nat} {vl v1 v2 v3 v4 v5 v6 v7 v8 : Value} {nx : Int} (h : Wb w b vl v1 v2 v3 v4 v5 v6 v7 v8 nx) : w.cell? ⟨b, 0, none⟩ = some vl ∧ w.cell? ⟨b, 1, none⟩ = some v1 ∧ w.cell? ⟨b, 2, none⟩ = some v2 ∧ w.cell? ⟨b, 3, none⟩ = some v3 ∧ w.cell? ⟨b, 4, none⟩ = some v4 ∧ w.cell? ⟨b, 5, none⟩ = some v5 ∧ w.cell? ⟨b, 6, none⟩ = some v6 ∧ w.cell? ⟨b, 7, none⟩ = some v7 ∧ w.cell? ⟨b, 8, none⟩ = some v8 ∧ w.cell? ⟨b, 9, none⟩ = some (.int .i64 nx) ∧ (∀ i, w.frozen? ⟨b, i, none⟩ = false) := by
  unfold Wb at h
  refine ⟨?_, ?_, ?_, ?_, ?_, ?_, ?_, ?_, ?_, ?_, fun i => ?_⟩ <;> simp [World.cell?, World.frozen?, h]
theorem Wb.next {w : World} {b : Nat} {vl v1 v2 v3 v4 v5 v6 v7 v8 : Value} {nx : Int} (h : Wb w b vl v1 v2 v3 v4 v5 v6 v7 v8 nx) (ny : Int) : Wb (w.setCell ⟨b, 9, none⟩ (.int .i64 ny)) b vl v1 v2 v3 v4 v5 v6 v7 v8 ny := by
  unfold Wb at *; rw [heap_setCell_at (i := 9) h]; rfl
theorem Wb.lt {w : World} {b : Nat} {vl v1 v2 v3 v4 v5 v6 v7 v8 : Value} {nx : Int} (h : Wb w b vl v1 v2 v3 v4 v5 v6 v7 v8 nx) : b < w.heap.size := (Array.getElem?_eq_some_iff.1 h).1
theorem Wb.below {w w' : World} {b B : Nat} {vl v1 v2 v3 v4 v5 v6 v7 v8 : Value} {nx : Int} (h : Wb w b vl v1 v2 v3 v4 v5 v6 v7 v8 nx) (hb : Below B w w') (hB : b < B) : Wb w' b vl v1 v2 v3 v4 v5 v6 v7 v8 nx := (hb.block b hB).trans h
theorem u8_back (p : Int) (h1 : 0 ≤ p) (h2 : p < 256) : ((UInt8.ofNat p.toNat).toNat : Int) = p := by rw [UInt8.toNat_ofNat']; omega
theorem addr_add (g j : Nat) : (⟨g, 0, none⟩ : Addr).add j = ⟨g, j, none⟩ := by
  by_cases h0 : j = 0
  · subst h0; simp [Addr.add]
  · simp [Addr.add, h0]
theorem conv3 (W : World) (g : Nat) (p q r : Int) (h1 : 0 ≤ p) (h2 : p < 256) (h3 : 0 ≤ q) (h4 : q < 256) (h5 : 0 ≤ r) (h6 : r < 256) (e : W.heap[g]? = some (.cells #[.int .u8 p, .int .u8 q, .int .u8 r] 5 (0, 0))) : ∃ s : ByteArray, s.size = 3 ∧ (convert 108 9 (.slice (some ⟨g, 0, none⟩) 3 3)).run Tryz.prog W = .ok (.string s) W := by
  refine ⟨⟨#[UInt8.ofNat p.toNat, UInt8.ofNat q.toNat, UInt8.ofNat r.toNat]⟩, rfl, ?_⟩
  refine run_convert_bytes_back (P := Tryz.prog) _ 108 9 5 ⟨g, 0, none⟩ 3 [UInt8.ofNat p.toNat, UInt8.ofNat q.toNat, UInt8.ofNat r.toNat] Tryz.underlying108 Tryz.underlying5 Tryz.underlying9 (fun j hj => ?_)
  rw [addr_add]
  match j, hj with
  | 0, _ => unfold World.cell?; rw [e]; show some (Value.int .u8 p) = some (Value.int .u8 ((UInt8.ofNat p.toNat).toNat : Int)); rw [u8_back p h1 h2]
  | 1, _ => unfold World.cell?; rw [e]; show some (Value.int .u8 q) = some (Value.int .u8 ((UInt8.ofNat q.toNat).toNat : Int)); rw [u8_back q h3 h4]
  | 2, _ => unfold World.cell?; rw [e]; show some (Value.int .u8 r) = some (Value.int .u8 ((UInt8.ofNat r.toNat).toNat : Int)); rw [u8_back r h5 h6]
set_option maxHeartbeats 1000000 in
set_option maxRecDepth 20000 in
theorem mark_any (b : Nat) (vl v1 v2 v3 v4 v5 v6 v7 v8 : Value) (nx : Int) (w : World) (h : Wb w b vl v1 v2 v3 v4 v5 v6 v7 v8 nx) :
    Calls Tryz.prog 115 #[.pointer (some ⟨b, 1, none⟩)] w fun r w' => ∃ s ny, r = .returned (.string s) ∧ Wb w' b vl v1 v2 v3 v4 v5 v6 v7 v8 ny ∧ But b w w' := by
  have HW := hid h
  obtain ⟨c0, c1, c2, c3, c4, c5, c6, c7, c8, c9, hfz⟩ := h.cells
  have z9 := hfz 9
  clear h hfz c0 c1 c2 c3 c4 c5 c6 c7 c8
  go_enter Tryz.func115, Tryz.ntmps115
  go_wp2_with fail
  generalize hny : wrap64 (nx + 1) = ny at *
  have HW1 := hid (HW.out.next ny)
  have HU1 := hid (but_set b 9 w (.int .i64 ny))
  clear hny HW c9 z9
  generalize w.setCell ⟨b, 9, none⟩ (.int .i64 ny) = w1 at *
  obtain ⟨-, -, -, -, -, -, -, -, -, c9, -⟩ := HW1.out.cells
  have hu8 : ∀ x : Int, 0 ≤ IntKind.u8.wrap x ∧ IntKind.u8.wrap x < 256 := fun x => by
    have : IntKind.u8.wrap x = x % 256 := rfl
    omega
  obtain ⟨s, hs3, hcv⟩ := conv3 ((w1.alloc (.cells #[.int .u8 (IntKind.u8.wrap ny), .int .u8 (IntKind.u8.wrap (ny / 256)), .int .u8 (IntKind.u8.wrap (ny / 65536))] 5)).drew) w1.heap.size _ _ _ (hu8 ny).1 (hu8 ny).2 (hu8 (ny / 256)).1 (hu8 (ny / 256)).2 (hu8 (ny / 65536)).1 (hu8 (ny / 65536)).2 (heap_alloc_new w1 _)
  clear hu8
  have e1 : ∀ w, (Op.stringOp .add ⟨#[109, 97, 114, 107]⟩ s).run Tryz.prog w = .ok (.string (⟨#[109, 97, 114, 107]⟩ ++ s)) w := fun w => run_string_add_sum w _ _ (by rw [hs3]; decide)
  clear hs3
  have HFIN : Hid (Wb ((w1.alloc (.cells #[.int .u8 (IntKind.u8.wrap ny), .int .u8 (IntKind.u8.wrap (ny / 256)), .int .u8 (IntKind.u8.wrap (ny / 65536))] 5)).drew) b vl v1 v2 v3 v4 v5 v6 v7 v8 ny ∧ But b w ((w1.alloc (.cells #[.int .u8 (IntKind.u8.wrap ny), .int .u8 (IntKind.u8.wrap (ny / 256)), .int .u8 (IntKind.u8.wrap (ny / 65536))] 5)).drew)) := by
    have hb := ((Below.refl w1.heap.size w1).alloc (Nat.le_refl _) (.cells #[.int .u8 (IntKind.u8.wrap ny), .int .u8 (IntKind.u8.wrap (ny / 256)), .int .u8 (IntKind.u8.wrap (ny / 65536))] 5)).drew
    exact ⟨HW1.out.below hb HW1.out.lt, but_trans HU1.out (but_below hb)⟩
  go_region_law (fail)
  all_goals
    go_wp2_with fail
    go_ret
    exact ⟨_, ny, rfl, HFIN.out⟩
end Go.Proofs.YtolgpnaoaodepaaGreat
