/- append(v, make([]byte, k)...) onto bytes that a call owns; bytes that were built just now are owned. -/
import Derived.Test.YtolgpnaoaodepaaGen
import Derived.Lib.AppendZerosOnto
import Derived.Laws.OwnMore
namespace Go.Proofs.Ytolgpnaoaodepaa
open Go.RowKit

/-- Of all old blocks only v's own row has changed; v' lies in that row or in a new block. -/
def Grew (w w' : World) (v v' : Value) : Prop := w.grownBy w' v.ownBlock ∧ (v'.ownBlock = v.ownBlock ∨ ∃ k, w.heap.size ≤ k ∧ v'.ownBlock = some k)
theorem Grew.refl (w : World) (v : Value) : Grew w w v v := ⟨⟨rfl, rfl, rfl, Nat.le_refl _, fun _ _ _ => rfl⟩, .inl rfl⟩
theorem Grew.size {w w' : World} {v v' : Value} (h : Grew w w' v v') : w.heap.size ≤ w'.heap.size := h.1.size
theorem Grew.trans {a b c : World} {u v x : Value} (h : Grew a b u v) (k : Grew b c v x) : Grew a c u x := by
  refine ⟨⟨k.1.os.trans h.1.os, k.1.tape.trans h.1.tape, k.1.output.trans h.1.output, Nat.le_trans h.1.size k.1.size, fun i hi hne => ?_⟩, ?_⟩
  · refine (k.1.block i (Nat.lt_of_lt_of_le hi h.1.size) ?_).trans (h.1.block i hi hne)
    rcases h.2 with e | ⟨j, hj, e⟩
    · rw [e]; exact hne
    · rw [e]; intro e'; have : i = j := by simpa using e'
      omega
  · rcases k.2 with e | ⟨j, hj, e⟩
    · rw [e]; exact h.2
    · exact .inr ⟨j, Nat.le_trans h.1.size hj, e⟩
theorem Grew.below {B : Nat} {w w' : World} {v v' : Value} {T : TypeId} {sz n : Nat} {xs : List Value} (h : Grew w w' v v') (hown : w.ownsRow B T sz v n xs) (hB : B ≤ w.heap.size) : Below B w w' :=
  (Below.refl B w).grown h.1 hB fun k hk => (World.ownsRow.lt hown k hk).1
theorem Grew.cell {w w' : World} {v v' : Value} (h : Grew w w' v v') {a : Addr} {x : Value} (hc : w.cell? a = some x) (hne : v.ownBlock ≠ some a.block) : w'.cell? a = some x := h.1.cell hc (fun e => hne e.symm)
theorem Grew.pre {a b c : World} {v x : Value} (h : Below a.heap.size a b) (k : Grew b c v x) : Grew a c v x := by
  refine ⟨⟨k.1.os.trans h.os, k.1.tape.trans h.tape, k.1.output.trans h.output, Nat.le_trans h.size k.1.size, fun i hi hne => ?_⟩, ?_⟩
  · exact (k.1.block i (Nat.lt_of_lt_of_le hi h.size) hne).trans (h.block i hi)
  · rcases k.2 with e | ⟨j, hj, e⟩
    · exact .inl e
    · exact .inr ⟨j, Nat.le_trans h.size hj, e⟩
theorem Grew.post {a b c : World} {v x : Value} (k : Grew a b v x) (h : Below b.heap.size b c) : Grew a c v x :=
  ⟨⟨h.os.trans k.1.os, h.tape.trans k.1.tape, h.output.trans k.1.output, Nat.le_trans k.1.size h.size, fun i hi hne => (h.block i (Nat.lt_of_lt_of_le hi k.1.size)).trans (k.1.block i hi hne)⟩, k.2⟩
theorem Grew.drewN {a b : World} {v x : Value} (h : Grew a b v x) (q : Nat) : Grew a (b.drewN q) v x := ⟨⟨h.1.os, h.1.tape, h.1.output, h.1.size, h.1.block⟩, h.2⟩
theorem grew_alloc {w w' : World} {ob : Obj} {v v' : Value} (hg : (w.alloc ob).grownBy w' v.ownBlock) (hat : v'.ownBlock = v.ownBlock ∨ v'.ownBlock = some (w.heap.size + 1)) : Grew w w' v v' :=
  ⟨grown_after_alloc hg, hat.imp_right fun e => ⟨_, Nat.le_succ _, e⟩⟩
theorem owns_shrink {B C : Nat} {w : World} {v : Value} {l : List UInt8} (h : Owns B w v l) (hc : C ≤ B) : Owns C w v l := by
  refine ⟨h.1, ?_⟩
  rcases h.2 with hn | ⟨g, cap, cur, hv, hb', r⟩
  · exact .inl hn
  · exact .inr ⟨g, cap, cur, hv, Nat.le_trans hc hb', r⟩
theorem run_string_at (w : World) (B : Nat) (ty : TypeId) (v : Value) (l : List UInt8) (hown : Owns B w v l) (s : ByteArray) (hb : l.length + s.size ≤ 140737488355328) (hB : B ≤ w.heap.size) :
    ∃ v' w', (Builtin.append_ #[59, 9] ty #[v, .string s]).run Try.prog w = .ok v' w' ∧ Owns B w' v' (l ++ s.data.toList) ∧ Grew w w' v v' := by
  obtain ⟨i, hi, hz0, hz1, hz2⟩ := info_parts info_u8
  obtain ⟨v', w', hrun, ho', hg, hnil⟩ := Lib.run_append_own_string w B 59 9 ty 5 i Try.underlying59 Try.underlying9 hi hz0 hz1 hz2 v l.length (Lib.byteCells l) hown s (by unfold maxLen; omega) hb hB
  refine ⟨v', w', hrun, ?_, hg, ?_⟩
  · have e1 : Lib.byteCells (l ++ s.data.toList) = Lib.byteCells l ++ Lib.strCells s := by rw [Lib.byteCells_append]; rfl
    unfold Owns
    rw [e1, List.length_append, show s.data.toList.length = s.size by simp]
    exact ho'
  · rcases hown.2 with ⟨rfl, hn⟩ | ⟨g, cap, cur, rfl, hbg, hg', hnc, hcm, hcs, htake⟩
    · by_cases hm : s.size = 0
      · rw [hnil.2 ⟨rfl, hm⟩]; exact .inl rfl
      · have hr := run_append_nil_string (P := Try.prog) w 59 9 ty 5 i (.int .u8 0) Try.underlying59 Try.underlying9 hi hz0 s (by omega) (by omega) (by rw [hz2]; omega)
        rw [hrun] at hr
        simp only [Result.ok.injEq] at hr
        rw [hr.1]
        exact .inr ⟨_, Nat.le_refl _, rfl⟩
    · by_cases hroom : l.length + s.size ≤ cap
      · have hr := Lib.run_append_room_string (P := Try.prog) w 59 9 ty 5 i Try.underlying59 Try.underlying9 hi hz1 g l.length cap cur hg' s hroom (by omega)
        rw [hrun] at hr
        simp only [Result.ok.injEq] at hr
        rw [hr.1]
        exact .inl rfl
      · have hr := Lib.run_append_grow_string (P := Try.prog) w 59 9 ty 5 i (.int .u8 0) Try.underlying59 Try.underlying9 hi hz0 ⟨g, 0, none⟩ l.length cap (Lib.byteCells l) (by rw [hz1]; exact hown.1) hown.cells s (by omega) (by omega) (by rw [hz2]; exact growslice_fits (by omega) (by omega))
        rw [hrun] at hr
        simp only [Result.ok.injEq] at hr
        rw [hr.1]
        exact .inr ⟨_, Nat.le_refl _, rfl⟩
/-- append(v, s...), s a string. -/
theorem wpApSg (w : World) {ops : Array Oper} {rest : List Oper} {o : Oper} {a : Act} {Q : Exit → Act → World → Prop} (hgd : o.guard = none) (sl x : Operand)
    (ho : o.op = Op.call { callee := Callee.builtin Builtin.append, args := #[sl, x], argTypes := #[59, 9] }) (B : Nat) (v : Value) (l : List UInt8) (hs : a.eval sl = v) (hown : Owns B w v l)
    (s : ByteArray) (hx : a.eval x = .string s) (hb : l.length + s.size ≤ 140737488355328) (hB : B ≤ w.heap.size)
    (h : ∀ (v' : Value) (w' : World), Owns B w' v' (l ++ s.data.toList) → Grew w w' v v' → wpList Try.prog ops Q rest (a.put o.dst v') w') : wpList Try.prog ops Q (o :: rest) a w := by
  obtain ⟨v', w', hr, h1, h2⟩ := run_string_at w B o.type v l hown s hb hB
  exact Lib.wpList_append_run w hgd sl x 59 9 ho v _ hs hx v' w' hr (h v' w' h1 h2)
theorem wpAp4 (w : World) {ops : Array Oper} {rest : List Oper} {o : Oper} {a : Act} {Q : Exit → Act → World → Prop} (hgd : o.guard = none) (sl x : Operand)
    (ho : o.op = Op.call { callee := Callee.builtin Builtin.append, args := #[sl, x], argTypes := #[59, 59] }) (B : Nat) (v : Value) (l : List UInt8) (hs : a.eval sl = v) (hown : Owns B w v l)
    (b c d e : UInt8) (n m p q : Int) (hn : n = (b.toNat : Int)) (hm : m = (c.toNat : Int)) (hp : p = (d.toNat : Int)) (hq : q = (e.toNat : Int)) (hx : a.eval x = .slice (some ⟨w.heap.size, 0, none⟩) 4 4)
    (hb : l.length + 4 ≤ 140737488355328) (hB : B ≤ w.heap.size)
    (h : ∀ (v' : Value) (w' : World), Owns B w' v' (l ++ [b, c, d, e]) → Grew w w' v v' → wpList Try.prog ops Q rest (a.put o.dst v') w') : wpList Try.prog ops Q (o :: rest) a (w.alloc (.cells #[.int .u8 n, .int .u8 m, .int .u8 p, .int .u8 q] 5)) := by
  subst hn hm hp hq
  refine wpApB (w.alloc (.cells #[.int .u8 (b.toNat : Int), .int .u8 (c.toNat : Int), .int .u8 (d.toNat : Int), .int .u8 (e.toNat : Int)] 5)) hgd sl x ho B v l hs (hown.alloc _) ⟨w.heap.size, 0, none⟩ 4 [b, c, d, e] hx (laid_cells w _ [b, c, d, e] _ (by simp [Lib.byteCells])) (by simpa using hb) (by simp; omega) ?_
  intro v' w' h1 h2 h3
  exact h v' w' h1 (grew_alloc h2 (by simpa using h3))
theorem zeros_cells (k : Nat) : (Builtin.zeroCells (Value.int .u8 0).cells k).toList = Lib.byteCells (List.replicate k 0) := by
  rw [show (Value.int .u8 0).cells = #[Value.int .u8 0] from rfl]
  apply List.ext_getElem
  · simp [Builtin.zeroCells, Lib.byteCells]
  · intro i h1 h2
    simp [Builtin.zeroCells, Lib.byteCells, Nat.mod_one]
theorem run_room_zeros (w : World) (ty : TypeId) (g n cap : Nat) (cur : Array Value) (hg : w.heap[g]? = some (.cells cur 5 (0, 0))) (k : Nat) (hk : k ≤ 1000000000) (hroom : n + k ≤ cap) (hfit : n + k ≤ cur.size) :
    (Builtin.append_ #[59, 3] ty #[.slice (some ⟨g, 0, none⟩) n cap, .int .i64 (k : Int)]).run Try.prog w = .ok (.slice (some ⟨g, 0, none⟩) (n + k) cap) (w.setRow g (cur.toList.take n ++ Lib.byteCells (List.replicate k 0) ++ cur.toList.drop (n + k)).toArray) := by
  obtain ⟨i, hi, hz0, hz1, hz2⟩ := info_parts info_u8
  have hst := run_storeCells_at Try.prog g n 5 (Lib.byteCells (List.replicate k 0)) 0 cur w hg (by rw [Lib.byteCells_length, List.length_replicate]; omega) (byteCells_one _)
  simp only [Nat.add_zero, Lib.byteCells_length, List.length_replicate] at hst
  have hw : IntKind.i64.wrap (k : Int) = k := by rw [IntKind.wrap_i64]; omega
  have hneg : ¬ ((k : Int) < 0) := by omega
  have h48 : ¬ (281474976710656 < (k : Int)) := by omega
  by_cases hk0 : k = 0
  · subst hk0
    have hroom' : n ≤ cap := hroom
    have hw0 : IntKind.i64.wrap 0 = 0 := rfl
    simp [Lib.byteCells] at hst
    simp [Builtin.append_, run_underlying Try.underlying59, run_underlying Try.underlying3, sizeOf, typeInfo, hi, hz1, hz2, asInt, asIntOf, hw0, hroom', Addr.add_lit, Lib.byteCells, hst]
  · have hzc : Builtin.zeroCells (Value.int .u8 0).cells k = (Lib.byteCells (List.replicate k 0)).toArray := by rw [← zeros_cells]
    simp [Builtin.append_, run_underlying Try.underlying59, run_underlying Try.underlying3, sizeOf, typeInfo, zeroValue, hi, hz0, hz1, hz2, asInt, asIntOf, hw, hneg, h48, hk0, hroom, Addr.add_lit, hzc, hst]
theorem run_append_zeros (w : World) (B : Nat) (ty : TypeId) (v : Value) (l : List UInt8) (hown : Owns B w v l) (hpos : 0 < l.length) (k : Nat) (hk : k ≤ 1000000000) (hl : l.length ≤ 100000000000) (hB : B ≤ w.heap.size) :
    ∃ v' w', (Builtin.append_ #[59, 3] ty #[v, .int .i64 (k : Int)]).run Try.prog w = .ok v' w' ∧ Owns B w' v' (l ++ List.replicate k 0) ∧ Grew w w' v v' := by
  obtain ⟨i, hi, hz0, hz1, hz2⟩ := info_parts info_u8
  have hlen : (Lib.byteCells (l ++ List.replicate k 0)).length = (l.length + k) * 1 := by rw [Lib.byteCells_length]; simp
  rcases hown.2 with ⟨rfl, hn⟩ | ⟨g, cap, cur, rfl, hbg, hg, hnc, hcm, hcs, htake⟩
  · omega
  · by_cases hroom : l.length + k ≤ cap
    · have hr := run_room_zeros w ty g l.length cap cur hg k hk hroom (by omega)
      refine ⟨_, _, hr, ?_, ⟨rfl, rfl, rfl, by simp, fun j _ hj => setRow_other w g j _ (fun e => hj (by simp [Value.ownBlock, e]))⟩, .inl rfl⟩
      unfold Owns
      rw [show (l ++ List.replicate k (0 : UInt8)).length = l.length + k by simp]
      refine ⟨hlen, .inr ⟨g, cap, _, rfl, hbg, setRow_heap w g cur _ _ _ hg, hroom, hcm, ?_, ?_⟩⟩
      · simp only [List.size_toArray, List.length_append, List.length_take, List.length_drop, Array.length_toList, Lib.byteCells_length, List.length_replicate]
        omega
      · rw [show List.take l.length cur.toList = Lib.byteCells l by simpa using htake, ← Lib.byteCells_append, ← hlen]
        exact List.take_left
    · have hk0 : 0 < k := by omega
      have hold := run_firstCells_some (P := Try.prog) w.drew 1 l.length ⟨g, 0, none⟩ l.length cap (Lib.byteCells l) hown.1 (hown.cells)
      have hr := Lib.run_append_grow_zeros (P := Try.prog) w 59 3 ty 5 i (.int .u8 0) .i64 .i64 Try.underlying59 Try.underlying3 hi hz0 (some ⟨g, 0, none⟩) l.length cap (Lib.byteCells l) (by rw [hz1]; exact hold) k hk0 (by rw [hz1]; decide) (by omega) (by omega) (by rw [hz2]; omega) (growslice_fits (by omega) (by rw [hz2]; omega))
      refine ⟨_, _, hr, ?_, ⟨rfl, rfl, rfl, by simp, fun k hk _ => Below.heap_alloc w.drew _ k hk⟩, .inr ⟨_, Nat.le_refl _, rfl⟩⟩
      unfold Owns
      rw [show (l ++ List.replicate k (0 : UInt8)).length = l.length + k by simp]
      have hge := grownCap_ge w (l.length + k) cap 5
      refine ⟨hlen, .inr ⟨w.heap.size, _, _, rfl, hB, heap_alloc_new w.drew _, hge, grownCap_le_maxLen w _ _ _ (by unfold maxLen; omega), ?_, ?_⟩⟩
      · simp only [Array.size_append, List.size_toArray, size_zeroCells, Lib.byteCells_length]
        show _ + _ * 1 + _ * 1 = _
        omega
      · simp only [Array.toList_append, zeros_cells]
        rw [← Lib.byteCells_append, ← hlen]
        exact List.take_left
/-- append(v, make([]byte, k)...). -/
theorem wpApZ (w : World) {ops : Array Oper} {rest : List Oper} {o : Oper} {a : Act} {Q : Exit → Act → World → Prop} (hgd : o.guard = none) (sl x : Operand)
    (ho : o.op = Op.call { callee := Callee.builtin Builtin.append, args := #[sl, x], argTypes := #[59, 3] }) (B : Nat) (v : Value) (l : List UInt8) (hs : a.eval sl = v) (hown : Owns B w v l) (hpos : 0 < l.length)
    (k : Nat) (hx : a.eval x = .int .i64 (k : Int)) (hk : k ≤ 1000000000) (hl : l.length ≤ 100000000000) (hB : B ≤ w.heap.size)
    (h : ∀ (v' : Value) (w' : World), Owns B w' v' (l ++ List.replicate k 0) → Grew w w' v v' → wpList Try.prog ops Q rest (a.put o.dst v') w') : wpList Try.prog ops Q (o :: rest) a w := by
  obtain ⟨v', w', hr, h1, h2⟩ := run_append_zeros w B o.type v l hown hpos k hk hl hB
  exact Lib.wpList_append_run w hgd sl x 59 3 ho v _ hs hx v' w' hr (h v' w' h1 h2)
/-- Bytes that were built just now. -/
theorem owns_lit (w : World) (B : Nat) (hB : B ≤ w.heap.size) (bs : List UInt8) (cs : Array Value) (hc : cs.toList = Lib.byteCells bs) (hl : bs.length ≤ 1000000) : Owns B (w.alloc (.cells cs 5)) (.slice (some ⟨w.heap.size, 0, none⟩) bs.length bs.length) bs := by
  have hsz : cs.size = bs.length * 1 := by rw [← Array.length_toList, hc, Lib.byteCells_length, Nat.mul_one]
  have := World.ownsRow_lit (base := B) (e := 5) (size := 1) w cs bs.length hB (by unfold maxLen; omega) hsz
  rw [hc] at this
  exact this
end Go.Proofs.Ytolgpnaoaodepaa
