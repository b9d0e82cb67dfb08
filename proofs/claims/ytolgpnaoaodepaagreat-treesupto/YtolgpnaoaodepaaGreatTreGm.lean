/- slices.Delete and slices.Insert of items. -/
import Derived.Test.YtolgpnaoaodepaaGreatTreCm
import Derived.Test.YtolgpnaoaodepaaGreatAidm
namespace Go.Proofs.YtolgpnaoaodepaaGreat
open Go.RowKit

section
variable {P : Program}
/-- A built-in function of two arguments whose run is known, as a step of a region that draws; in a list of operations. -/
theorem stepAp (w : World) {ops : Array Oper} {o : Oper} {a : Act} {K : Act → World → Prop} {Q : Exit → Act → World → Prop} {E : Prop} (hgd : o.guard = none) (s x : Operand) (t tn : TypeId)
    (ho : o.op = Op.call { callee := Callee.builtin Builtin.append, args := #[s, x], argTypes := #[t, tn] }) (v u : Value) (hs : a.eval s = v) (hx : a.eval x = u) (v' : Value) (w' : World)
    (hr : (Builtin.append_ #[t, tn] o.type #[v, u]).run P w = .ok v' w') (h : K (a.put o.dst v') w') : if Region.wanted o (yielded ops a.tmps) = true then Oper.wp P o a w K Q else E := by
  have hw : Region.wanted o (yielded ops a.tmps) = true := by simp [Region.wanted, hgd]
  rw [if_pos hw]
  unfold Oper.wp
  simp [execOp, ho, resolve, invoke, builtin, hs, hx, hr, Result.andThen]
  exact h
theorem stepCp (w : World) {ops : Array Oper} {o : Oper} {a : Act} {K : Act → World → Prop} {Q : Exit → Act → World → Prop} {E : Prop} (hgd : o.guard = none) (s x : Operand) (t tn : TypeId)
    (ho : o.op = Op.call { callee := Callee.builtin Builtin.copy, args := #[s, x], argTypes := #[t, tn] }) (v u : Value) (hs : a.eval s = v) (hx : a.eval x = u) (v' : Value) (w' : World)
    (hr : (Builtin.copy_ #[t, tn] o.type #[v, u]).run P w = .ok v' w') (h : K (a.put o.dst v') w') : if Region.wanted o (yielded ops a.tmps) = true then Oper.wp P o a w K Q else E := by
  have hw : Region.wanted o (yielded ops a.tmps) = true := by simp [Region.wanted, hgd]
  rw [if_pos hw]
  unfold Oper.wp
  simp [execOp, ho, resolve, invoke, builtin, hs, hx, hr, Result.andThen]
  exact h
theorem wpCp (w : World) {ops : Array Oper} {rest : List Oper} {o : Oper} {a : Act} {Q : Exit → Act → World → Prop} (hgd : o.guard = none) (s x : Operand) (t tn : TypeId)
    (ho : o.op = Op.call { callee := Callee.builtin Builtin.copy, args := #[s, x], argTypes := #[t, tn] }) (v u : Value) (hs : a.eval s = v) (hx : a.eval x = u) (v' : Value) (w' : World)
    (hr : (Builtin.copy_ #[t, tn] o.type #[v, u]).run P w = .ok v' w') (h : wpList P ops Q rest (a.put o.dst v') w') : wpList P ops Q (o :: rest) a w := by
  refine wpList_plain hgd fun K hK => ?_
  unfold Oper.wp
  simp [execOp, ho, resolve, invoke, builtin, hs, hx, hr, Result.andThen]
  exact hK _ _ h
theorem wpCl (w : World) {ops : Array Oper} {rest : List Oper} {o : Oper} {a : Act} {Q : Exit → Act → World → Prop} (hgd : o.guard = none) (s : Operand) (t : TypeId)
    (ho : o.op = Op.call { callee := Callee.builtin Builtin.clear, args := #[s], argTypes := #[t] }) (v : Value) (hs : a.eval s = v) (v' : Value) (w' : World)
    (hr : (Builtin.clear_ #[t] o.type #[v]).run P w = .ok v' w') (h : wpList P ops Q rest (a.put o.dst v') w') : wpList P ops Q (o :: rest) a w := by
  refine wpList_plain hgd fun K hK => ?_
  unfold Oper.wp
  simp [execOp, ho, resolve, invoke, builtin, hs, hr, Result.andThen]
  exact hK _ _ h
end
/-- A row's cells, cut anew. -/
theorem row_of {w : World} {g cap n size : Nat} {e : TypeId} {cur xs : List Value} (hg : w.heap[g]? = some (.cells cur.toArray e (0, 0))) (hc : n ≤ cap) (hm : cap ≤ maxLen) (hs : cur.length = cap * size) (hx : cur.take (n * size) = xs) (hl : xs.length = n * size) : w.ownsRow 0 e size (.slice (some ⟨g, 0, none⟩) n cap) n xs :=
  ⟨hl, .inr ⟨g, cap, cur.toArray, rfl, Nat.zero_le _, hg, hc, hm, by simpa using hs, by simpa using hx⟩⟩
theorem icells_append : ∀ a b : List (ByteArray × ByteArray), icells (a ++ b) = icells a ++ icells b
  | [], _ => rfl
  | x :: r, b => by
    show [Value.string x.1, Value.string x.2] ++ icells (r ++ b) = ([Value.string x.1, Value.string x.2] ++ icells r) ++ icells b
    rw [icells_append r b, List.append_assoc]
theorem icells_drop (l : List (ByteArray × ByteArray)) (i : Nat) (hi : i ≤ l.length) : icells (l.drop i) = (icells l).drop (i * 2) := by
  have h : icells l = icells (l.take i) ++ icells (l.drop i) := by rw [← icells_append, List.take_append_drop]
  have h2 : (icells (l.take i)).length = i * 2 := by rw [icells_len2, List.length_take]; omega
  rw [h, ← h2, List.drop_left]
theorem icells_take (l : List (ByteArray × ByteArray)) (i : Nat) (hi : i ≤ l.length) : icells (l.take i) = (icells l).take (i * 2) := by
  have h : icells l = icells (l.take i) ++ icells (l.drop i) := by rw [← icells_append, List.take_append_drop]
  have h2 : (icells (l.take i)).length = i * 2 := by rw [icells_len2, List.length_take]; omega
  rw [h, ← h2, List.take_left]
/-- A row's items, from a place on, lie there. -/
theorem items_src {w : World} {g cap : Nat} {il : List (ByteArray × ByteArray)} (h : OwnsI 0 w (.slice (some ⟨g, 0, none⟩) il.length cap) il) (i : Nat) (hi : i ≤ il.length) : ∀ j u, (icells (il.drop i))[j]? = some u → w.cell? ⟨g, i * 2 + j, none⟩ = some u := by
  intro j u hj
  rw [icells_drop _ _ hi, List.getElem?_drop] at hj
  have := World.ownsRow.cells h (g := g) rfl _ _ hj
  rwa [add_at] at this
theorem zeroI : ∀ w, (Go.zeroValue 51).run Tryz.prog w = .ok (.agg #[.string ⟨#[]⟩, .string ⟨#[]⟩]) w := by
  intro w
  obtain ⟨i, hi, hz0, hz1, hz2⟩ := info_parts info_item
  simp [Go.zeroValue, typeInfo, hi, hz0]
theorem zeroI_cells (n : Nat) : (Builtin.zeroCells (Value.agg #[.string ⟨#[]⟩, .string ⟨#[]⟩]).cells n).size = n * 2 ∧ ∀ v ∈ (Builtin.zeroCells (Value.agg #[.string ⟨#[]⟩, .string ⟨#[]⟩]).cells n).toList, v.oneCell' = true := by
  constructor
  · rw [size_zeroCells]; rfl
  · intro v hv
    simp only [Builtin.zeroCells, Array.toList_map, List.mem_map] at hv
    obtain ⟨i, _, rfl⟩ := hv
    show ((#[Value.string ⟨#[]⟩, Value.string ⟨#[]⟩] : Array Value)[i % 2]!).oneCell' = true
    rcases (show i % 2 = 0 ∨ i % 2 = 1 by omega) with q | q <;> rw [q] <;> rfl

set_option maxHeartbeats 1000000 in
set_option maxRecDepth 20000 in
theorem deleteI_any (v : Value) (il : List (ByteArray × ByteArray)) (i : Nat) (w : World) (hi : i < il.length) (h : OwnsI 0 w v il) (hl : il.length ≤ 1000000) :
    Calls Tryz.prog 170 #[v, .int .i64 (i : Nat), .int .i64 ((i : Nat) + 1)] w fun r w' => ∃ v', r = .returned v' ∧ OwnsI 0 w' v' (il.take i ++ il.drop (i + 1)) ∧ w.grownBy w' v.ownBlock ∧ v'.ownBlock = v.ownBlock := by
  rcases h.2 with ⟨_, hn⟩ | ⟨g, cap, cur, rfl, hb, hg, hc, hm, hcs, htk⟩
  · omega
  have hcap : cap ≤ 9223372036854775807 := by unfold maxLen at hm; omega
  obtain ⟨inf, hinf, hz0, hz1, hz2⟩ := info_parts info_item
  obtain ⟨ad, had, hnews⟩ : ∃ ad : Addr, (if cap = i + 1 then some ⟨g, 0, none⟩ else some ⟨g, (i + 1) * 2, none⟩) = some ad ∧ ∀ j u, (icells (il.drop (i + 1)))[j]? = some u → w.drew.cell? (ad.add j) = some u := by
    by_cases hce : cap = i + 1
    · refine ⟨⟨g, 0, none⟩, if_pos hce, fun j u hj => ?_⟩
      rw [List.drop_of_length_le (by omega)] at hj
      simp [icells] at hj
    · refine ⟨⟨g, (i + 1) * 2, none⟩, if_neg hce, fun j u hj => ?_⟩
      rw [off_add]
      exact items_src h (i + 1) (by omega) j u hj
  have hnl : (icells (il.drop (i + 1))).length = (il.length - (i + 1)) * inf.size := by rw [icells_len2, List.length_drop, hz1]
  have hclen : cur.toList.length = cap * 2 := by simpa using hcs
  have e1 := run_append_room (P := Tryz.prog) w.drew 30 30 51 inf Tryz.underlying30 hinf g i cap cur hg ad (il.length - (i + 1)) (cap - (i + 1)) (icells (il.drop (i + 1))) hnl hnews (one_icells _) (by omega) (by rw [hz1, icells_len2, List.length_drop, hcs]; omega)
  rw [hz1] at e1
  have hil' : i + (il.length - (i + 1)) = il.length - 1 := by omega
  have hln : (icells (il.drop (i + 1))).length = (il.length - 1 - i) * 2 := by rw [icells_len2, List.length_drop]; omega
  -- the row behind the append
  have hR1 : (cur.toList.take (i * 2) ++ icells (il.drop (i + 1)) ++ cur.toList.drop (i * 2 + (icells (il.drop (i + 1))).length)).length = cap * 2 := by
    simp only [List.length_append, List.length_take, List.length_drop, hln, hclen]; omega
  have hT1 : (cur.toList.take (i * 2) ++ icells (il.drop (i + 1)) ++ cur.toList.drop (i * 2 + (icells (il.drop (i + 1))).length)).take ((il.length - 1) * 2) = icells (il.take i ++ il.drop (i + 1)) := by
    rw [List.take_append_of_le_length (by simp only [List.length_append, List.length_take, hln, hclen]; omega), List.take_of_length_le (by simp only [List.length_append, List.length_take, hln, hclen]; omega), icells_append, icells_take _ _ (by omega)]
    rw [← htk, List.take_take]
    congr 2
    omega
  generalize hc1 : cur.toList.take (i * 2) ++ icells (il.drop (i + 1)) ++ cur.toList.drop (i * 2 + (icells (il.drop (i + 1))).length) = cur1 at *
  have HG1 := hid (setRow_at (w := w.drew) hg cur1)
  have HGR1 := hid (setRow_grown w.drew g cur1.toArray)
  have HM := hid hm
  have HR1 := hid hR1
  have HT1 := hid hT1
  have HE1 := hid e1
  have HFIN : Hid (∀ Z : List Value, Z.length = 2 → OwnsI 0 ((w.drew.setRow g cur1.toArray).setRow g (cur1.take ((il.length - 1) * 2) ++ (Z ++ cur1.drop ((il.length - 1) * 2 + 2))).toArray) (.slice (some ⟨g, 0, none⟩) (il.length - 1) cap) (il.take i ++ il.drop (i + 1)) ∧ w.grownBy ((w.drew.setRow g cur1.toArray).setRow g (cur1.take ((il.length - 1) * 2) ++ (Z ++ cur1.drop ((il.length - 1) * 2 + 2))).toArray) (some g)) := by
    intro Z hZ
    have hll : (il.take i ++ il.drop (i + 1)).length = il.length - 1 := by simp; omega
    constructor
    · unfold OwnsI
      rw [hll]
      refine row_of (setRow_at HG1.out _) (by omega) hm ?_ ?_ (by rw [icells_len2, hll])
      · simp only [List.length_append, List.length_take, List.length_drop, hR1, hZ]; omega
      · rw [List.take_append_of_le_length (by rw [List.length_take, hR1]; omega), List.take_take, Nat.min_self, hT1]
    · have h1 := setRow_grown w.drew g cur1.toArray
      have h2 := setRow_grown (w.drew.setRow g cur1.toArray) g (cur1.take ((il.length - 1) * 2) ++ (Z ++ cur1.drop ((il.length - 1) * 2 + 2))).toArray
      exact ⟨h2.os.trans h1.os, h2.tape.trans h1.tape, h2.output.trans h1.output, Nat.le_trans h1.size h2.size, fun k hk hne => (h2.block k (Nat.lt_of_lt_of_le hk h1.size) hne).trans (h1.block k hk hne)⟩
  clear e1 hc1 hg hcs htk h hm hb hR1 hT1 hnews hnl hclen hln
  have hic : i ≤ cap := by omega
  have hic2 : (i : Int) ≤ (cap : Int) := by omega
  have hil : i + 1 ≤ il.length := by omega
  have hil2 : (i : Int) + 1 ≤ (il.length : Int) := by omega
  have hil3 : (0 : Int) ≤ (i : Int) + 1 := by omega
  have hic4 : i + 1 ≤ cap := by omega
  have hne : ((i : Int) == (i : Int) + 1) = false := by simp; omega
  go_enter Tryz.func170, Tryz.ntmps170
  go_upto_region 5 with fail
  go_region_law (refine stepAp _ (by rfl) (.tmp 22) (.tmp 25) _ _ (by rfl) _ _ (by rfl) (by simp [Act.eval]; rfl) _ _ HE1.out ?_)
  all_goals
    have hcn : ¬ cap = il.length - 1 := by omega
    have h11 : il.length - (il.length - 1) = 1 := by omega
    have hb1 : il.length - 1 ≤ il.length := by omega
    have hb2 : il.length ≤ cap := hc
    go_wp2_with (refine wpCl _ (by rfl) (.tmp 31) 30 (by rfl) _ (by rfl) _ _ (run_clear_at _ _ _ 51 (.agg #[.string ⟨#[]⟩, .string ⟨#[]⟩]) 2 g ((il.length - 1) * 2) 1 (cap - (il.length - 1)) cur1.toArray 51 Tryz.underlying30 zeroI (zeroI_cells 1).1 (zeroI_cells 1).2 HG1.out (by have := HR1.out; simp; omega)) ?_)
    go_ret
    have hF := HFIN.out (Builtin.zeroCells #[Value.string ⟨#[]⟩, Value.string ⟨#[]⟩] 1).toList (by rw [Array.length_toList, size_zeroCells]; rfl)
    exact ⟨_, rfl, hF.1, hF.2, rfl⟩
end Go.Proofs.YtolgpnaoaodepaaGreat
/- slices.Insert of an item. -/
namespace Go.Proofs.YtolgpnaoaodepaaGreat
open Go.RowKit

theorem grownT {a b c : World} {r : Option Nat} (h1 : a.grownBy b r) (h2 : b.grownBy c r) : a.grownBy c r :=
  ⟨h2.os.trans h1.os, h2.tape.trans h1.tape, h2.output.trans h1.output, Nat.le_trans h1.size h2.size, fun k hk hne => (h2.block k (Nat.lt_of_lt_of_le hk h1.size) hne).trans (h1.block k hk hne)⟩
theorem grownN {a b c : World} {r : Option Nat} {g : Nat} (h1 : a.grownBy b r) (h2 : b.grownBy c (some g)) (hg : a.heap.size ≤ g) : a.grownBy c r :=
  ⟨h2.os.trans h1.os, h2.tape.trans h1.tape, h2.output.trans h1.output, Nat.le_trans h1.size h2.size, fun k hk hne => (h2.block k (Nat.lt_of_lt_of_le hk h1.size) (fun e => by have := Option.some.inj e; omega)).trans (h1.block k hk hne)⟩
/-- Where an item comes in. -/
def insI (il : List (ByteArray × ByteArray)) (i : Nat) (x : ByteArray × ByteArray) : List (ByteArray × ByteArray) := il.take i ++ x :: il.drop i
theorem insI_len (il : List (ByteArray × ByteArray)) (i : Nat) (x : ByteArray × ByteArray) (hi : i ≤ il.length) : (insI il i x).length = il.length + 1 := by simp [insI]; omega
theorem insI_cells (il : List (ByteArray × ByteArray)) (i : Nat) (x : ByteArray × ByteArray) : icells (insI il i x) = icells (il.take i) ++ [.string x.1, .string x.2] ++ icells (il.drop i) := by
  unfold insI
  rw [icells_append, List.append_assoc]; rfl
structure InsQ (v : Value) (l : List (ByteArray × ByteArray)) (w : World) (v' : Value) (w' : World) : Prop where
  o : OwnsI 0 w' v' l
  g : w.grownBy w' v.ownBlock
  b : v'.ownBlock = v.ownBlock ∨ ∃ k, w.heap.size ≤ k ∧ v'.ownBlock = some k

set_option maxHeartbeats 1000000 in
set_option maxRecDepth 20000 in
theorem insertEnd_any (v : Value) (il : List (ByteArray × ByteArray)) (x : ByteArray × ByteArray) (gx : Nat) (w : World) (h : OwnsI 0 w v il) (hl : il.length ≤ 1000000) (hx : w.heap[gx]? = some (.cells #[.string x.1, .string x.2] 51 (0, 0))) :
    Calls Tryz.prog 171 #[v, .int .i64 (il.length : Nat), .slice (some ⟨gx, 0, none⟩) 1 1] w fun r w' => ∃ v', r = .returned v' ∧ InsQ v (insI il il.length x) w v' w' := by
  have HX := hid hx
  have HO := hid h
  have HI : Hid (insI il il.length x = il ++ [x]) := by show _ = _; unfold insI; simp
  rcases h.2 with ⟨rfl, hn⟩ | ⟨g, cap, cur, rfl, hb, hg, hc, hm, hcs, htk⟩
  · have hl0 : il = [] := List.eq_nil_of_length_eq_zero hn
    subst hl0
    clear h hx
    go_enter Tryz.func171, Tryz.ntmps171
    go_wp2_with (refine wpApI2 _ (by rfl) (.tmp 23) (.tmp 24) (by rfl) 0 (.slice none 0 0) [] (by rfl) HO.out (.slice (some ⟨gx, 0, none⟩) 1 1) [x] (by rfl) (.inr ⟨_, _, rfl, fun j u hj => by rw [off_add]; unfold World.cell?; rw [HX.out]; simpa [icells] using hj⟩) (by simp) (Nat.zero_le _) ?_; intro v1 w1 ho1 hg1 hb1)
    go_ret
    exact ⟨v1, rfl, by simpa [insI] using ho1, hg1, hb1⟩
  · have hcap : cap ≤ 9223372036854775807 := by unfold maxLen at hm; omega
    clear h hx hg hcs htk hm hb
    go_enter Tryz.func171, Tryz.ntmps171
    go_wp2_with (refine wpApI2 _ (by rfl) (.tmp 23) (.tmp 24) (by rfl) 0 (.slice (some ⟨g, 0, none⟩) il.length cap) il (by rfl) HO.out (.slice (some ⟨gx, 0, none⟩) 1 1) [x] (by rfl) (.inr ⟨_, _, rfl, fun j u hj => by rw [off_add]; unfold World.cell?; rw [HX.out]; simpa [icells] using hj⟩) (by simp; omega) (Nat.zero_le _) ?_; intro v1 w1 ho1 hg1 hb1)
    all_goals
      go_ret
      exact ⟨v1, rfl, by rw [HI.out]; exact ho1, hg1, hb1⟩
set_option maxHeartbeats 400000 in
set_option maxRecDepth 20000 in
theorem insertIn_any (g cap : Nat) (il : List (ByteArray × ByteArray)) (i : Nat) (x : ByteArray × ByteArray) (gx : Nat) (w : World) (hi : i < il.length) (hroom : il.length + 1 ≤ cap) (h : OwnsI 0 w (.slice (some ⟨g, 0, none⟩) il.length cap) il) (hl : il.length ≤ 1000000) (hx : w.heap[gx]? = some (.cells #[.string x.1, .string x.2] 51 (0, 0))) (hne : gx ≠ g) :
    Calls Tryz.prog 171 #[.slice (some ⟨g, 0, none⟩) il.length cap, .int .i64 (i : Nat), .slice (some ⟨gx, 0, none⟩) 1 1] w fun r w' => ∃ v', r = .returned v' ∧ InsQ (.slice (some ⟨g, 0, none⟩) il.length cap) (insI il i x) w v' w' := by
  rcases h.2 with ⟨_, hn⟩ | ⟨g', cap', cur, e, hb, hg, hc, hm, hcs, htk⟩
  · omega
  simp only [Value.slice.injEq, Option.some.injEq, Addr.mk.injEq, and_true, true_and] at e
  obtain ⟨rfl, rfl⟩ := e
  have hcap : cap ≤ 9223372036854775807 := by unfold maxLen at hm; omega
  have hclen : cur.toList.length = cap * 2 := by simpa using hcs
  -- the two copies
  have hC : (icells (il.drop i)).length = (il.length - i) * 2 := by rw [icells_len2, List.length_drop]
  have hA : cur.toList.take (i * 2) = icells (il.take i) := by
    rw [icells_take _ _ (by omega), ← htk, List.take_take]; congr 1; omega
  have e1 := run_copy_min (P := Tryz.prog) w.drew 30 30 3 51 2 g ((i + 1) * 2) (il.length - i) (cap - (i + 1)) g (i * 2) (il.length + 1 - i) (cap - i) (il.length - i) cur 51 (icells (il.drop i)) Tryz.underlying30 (by kernel_rfl) hg (Nat.min_eq_right (by omega)) hC (fun j u hj => items_src h i (by omega) j u hj) (by rw [hC, hcs]; omega) (one_icells _)
  rw [hC, show (i + 1) * 2 + (il.length - i) * 2 = (il.length + 1) * 2 by omega] at e1
  have hR1 : (cur.toList.take ((i + 1) * 2) ++ icells (il.drop i) ++ cur.toList.drop ((il.length + 1) * 2)).length = cap * 2 := by
    simp only [List.length_append, List.length_take, List.length_drop, hC, hclen]; omega
  have hT1 : (cur.toList.take ((i + 1) * 2) ++ icells (il.drop i) ++ cur.toList.drop ((il.length + 1) * 2)).take (i * 2) = icells (il.take i) := by
    rw [List.append_assoc, List.take_append_of_le_length (by rw [List.length_take, hclen]; omega), List.take_take, ← hA]; congr 1; omega
  have hD1 : (cur.toList.take ((i + 1) * 2) ++ icells (il.drop i) ++ cur.toList.drop ((il.length + 1) * 2)).drop (i * 2 + 2) = icells (il.drop i) ++ cur.toList.drop ((il.length + 1) * 2) := by
    rw [List.append_assoc, show i * 2 + 2 = (cur.toList.take ((i + 1) * 2)).length by rw [List.length_take, hclen]; omega, List.drop_left]
  generalize hc1 : cur.toList.take ((i + 1) * 2) ++ icells (il.drop i) ++ cur.toList.drop ((il.length + 1) * 2) = cur1 at *
  have hg1 := setRow_at (w := w.drew) hg cur1
  have hgr1 := setRow_grown w.drew g cur1.toArray
  have hx1 : (w.drew.setRow g cur1.toArray).heap[gx]? = some (.cells #[Value.string x.1, Value.string x.2] 51 (0, 0)) := (hgr1.block gx (Array.getElem?_eq_some_iff.1 hx).1 (fun e => hne (Option.some.inj e))).trans hx
  have e2 := run_copy_at (P := Tryz.prog) (w.drew.setRow g cur1.toArray) 30 30 3 51 2 g (i * 2) (il.length + 1 - i) (cap - i) (.slice (some ⟨gx, 0, none⟩) 1 1) 1 cur1.toArray 51 [Value.string x.1, Value.string x.2] Tryz.underlying30 (by kernel_rfl) hg1 (by omega) ⟨_, _, rfl, rfl, .inr ⟨gx, 0, rfl, (Array.getElem?_eq_some_iff.1 hx1).1, fun j u hj => by unfold World.cell?; simp only [hx1, Nat.zero_add]; simpa using hj⟩⟩ (by simp; omega) (by intro u hu; simp at hu; rcases hu with rfl | rfl <;> rfl)
  simp only [List.length_cons, List.length_nil] at e2
  rw [show i * 2 + (0 + 1 + 1) = i * 2 + 2 by omega, hT1, hD1] at e2
  have HQ : Hid (InsQ (.slice (some ⟨g, 0, none⟩) il.length cap) (insI il i x) w (.slice (some ⟨g, 0, none⟩) (il.length + 1) cap) ((w.drew.setRow g cur1.toArray).setRow g (icells (il.take i) ++ [Value.string x.1, Value.string x.2] ++ (icells (il.drop i) ++ cur.toList.drop ((il.length + 1) * 2))).toArray)) := by
    have hA2 : (icells (il.take i)).length = i * 2 := by rw [icells_len2, List.length_take]; omega
    refine ⟨?_, ?_, .inl rfl⟩
    · unfold OwnsI
      rw [insI_len _ _ _ (by omega)]
      refine row_of (setRow_at hg1 _) hroom hm ?_ ?_ (by rw [icells_len2, insI_len _ _ _ (by omega)])
      · simp only [List.length_append, List.length_drop, hA2, hC, hclen, List.length_cons, List.length_nil]; omega
      · rw [insI_cells, ← List.append_assoc, List.take_append_of_le_length (by simp only [List.length_append, hA2, hC, List.length_cons, List.length_nil]; omega), List.take_of_length_le (by simp only [List.length_append, hA2, hC, List.length_cons, List.length_nil]; omega)]
    · have h2 := setRow_grown (w.drew.setRow g cur1.toArray) g (icells (il.take i) ++ [Value.string x.1, Value.string x.2] ++ (icells (il.drop i) ++ cur.toList.drop ((il.length + 1) * 2))).toArray
      exact grownT (⟨hgr1.os, hgr1.tape, hgr1.output, hgr1.size, hgr1.block⟩ : w.grownBy _ (some g)) h2
  have eo : (callFunc 220 #[.slice (some ⟨gx, 0, none⟩) 1 1, .slice (some ⟨g, (i + 1) * 2, none⟩) (il.length - i) (cap - (i + 1))]).run Tryz.prog w = .ok (.value (.bool false)) w := by
    rw [run_callFunc_extern Tryz.func220 (by kernel_rfl) (by kernel_rfl) (by kernel_rfl) (e := Extern.SlicesOverlaps.overlaps #[30, 30] #[4]) (by kernel_rfl), Lib.run_overlaps_apart w 30 4 51 Tryz.underlying30 2 (by
      intro w
      obtain ⟨inf, hinf, hz0, hz1, hz2⟩ := info_parts info_item
      simp [Go.sizeOf, typeInfo, hinf, hz1]) ⟨gx, 0, none⟩ ⟨g, (i + 1) * 2, none⟩ 1 1 _ _ hne 51 51 2 (cap * 2) (by simp [World.shape?, hx]) (by simp [World.shape?, hg, hcs]) (by omega) (by simp [World.frozen?, hx]) (by simp [World.frozen?, hx])]
    rfl
  have HE1 := hid e1
  have HE2 := hid e2
  clear e1 e2 hg1 hgr1 hx1 hT1 hD1 hR1 hc1 hA hC hclen htk hcs hg hm hb h hx
  have b1 : i ≤ cap := by omega
  have b2 : i ≤ il.length := by omega
  have b3 : i + 1 ≤ il.length + 1 := by omega
  have b4 : (il.length : Int) + 1 ≤ (cap : Int) := by omega
  have b5 : ¬ cap = i := by omega
  have b6 : ¬ cap = i + 1 := by omega
  have b7 : i ≤ il.length + 1 := by omega
  have b8 : ((i : Int) == (il.length : Int)) = false := by simp; omega
  have b10 : i ≤ il.length + 1 := by omega
  have b11 : (i : Int) ≤ (il.length : Int) + 1 := by omega
  have w1 : IntKind.i64.wrap ((i : Int) + 1) = (i : Int) + 1 := by rw [IntKind.wrap_i64]; omega
  have w2 : ((i : Int) + 1).toNat = i + 1 := by omega
  have w3 : (0 : Int) ≤ (i : Int) + 1 := by omega
  have w4 : (i : Int) + 1 ≤ (il.length : Int) + 1 := by omega
  have b9 : decide ((cap : Int) < (il.length : Int) + 1) = false := by simp; omega
  go_enter Tryz.func171, Tryz.ntmps171
  go_upto_region 15 with fail
  go_region_law (refine stepCp _ (by rfl) (.tmp 73) (.tmp 76) _ _ (by rfl) _ _ (by simp [Act.eval, Act.put]) (by simp [Act.eval, Act.put]) _ _ HE1.out ?_)
  all_goals
    go_wp2_with (refine wpCp _ (by rfl) (.tmp 80) (.tmp 81) _ _ (by rfl) _ _ (by rfl) (by rfl) _ _ HE2.out ?_)
    go_ret
    have hF := HQ.out
    simp only [List.append_assoc, List.cons_append, List.nil_append] at hF
    exact ⟨_, rfl, hF⟩
end Go.Proofs.YtolgpnaoaodepaaGreat
/- slices.Insert of an item where there is no room. -/
namespace Go.Proofs.YtolgpnaoaodepaaGreat
open Go.RowKit

set_option maxHeartbeats 400000 in
set_option maxRecDepth 20000 in
theorem insertGrow_any (g cap : Nat) (il : List (ByteArray × ByteArray)) (i : Nat) (x : ByteArray × ByteArray) (gx : Nat) (w : World) (hi : i < il.length) (hroom : cap < il.length + 1) (h : OwnsI 0 w (.slice (some ⟨g, 0, none⟩) il.length cap) il) (hl : il.length ≤ 1000000) (hx : w.heap[gx]? = some (.cells #[.string x.1, .string x.2] 51 (0, 0))) :
    Calls Tryz.prog 171 #[.slice (some ⟨g, 0, none⟩) il.length cap, .int .i64 (i : Nat), .slice (some ⟨gx, 0, none⟩) 1 1] w fun r w' => ∃ v', r = .returned v' ∧ InsQ (.slice (some ⟨g, 0, none⟩) il.length cap) (insI il i x) w v' w' := by
  rcases h.2 with ⟨_, hn⟩ | ⟨g', cap', cur, e, hb, hg, hc, hm, hcs, htk⟩
  · omega
  simp only [Value.slice.injEq, Option.some.injEq, Addr.mk.injEq, and_true, true_and] at e
  obtain ⟨rfl, rfl⟩ := e
  have hcap : cap ≤ 9223372036854775807 := by unfold maxLen at hm; omega
  have hglt := (Array.getElem?_eq_some_iff.1 hg).1
  have hxlt := (Array.getElem?_eq_some_iff.1 hx).1
  obtain ⟨inf, hinf, hz0, hz1, hz2⟩ := info_parts info_item
  have hC : (icells (il.drop i)).length = (il.length - i) * 2 := by rw [icells_len2, List.length_drop]
  have hA2 : (icells (il.take i)).length = i * 2 := by rw [icells_len2, List.length_take]; omega
  have hold : (Builtin.firstCells inf.size i (.slice (some ⟨g, 0, none⟩) i cap)).run Tryz.prog w.drew = .ok (icells (il.take i)).toArray w.drew := by
    have := run_loadCells_list (P := Tryz.prog) w.drew ⟨g, 0, none⟩ (icells (il.take i)) (fun j u hj => by
      rw [icells_take _ _ (by omega)] at hj
      have hj' : (icells il)[j]? = some u := by
        rw [List.getElem?_take] at hj
        split at hj
        · exact hj
        · cases hj
      exact World.ownsRow.cells h (g := g) rfl _ _ hj')
    rw [hA2] at this
    simpa [Builtin.firstCells, hz1] using this
  have hnc : Builtin.nextslicecap (i + (il.length + 1 - i)) cap * inf.bytes ≤ 281474976710656 := growslice_fits (by omega) (by rw [hz2]; omega)
  have e0 := Lib.run_append_grow_zeros (P := Tryz.prog) w 30 3 30 51 inf (.agg #[.string ⟨#[]⟩, .string ⟨#[]⟩]) .i64 .i64 Tryz.underlying30 Tryz.underlying3 hinf hz0 (some ⟨g, 0, none⟩) i cap (icells (il.take i)) hold (il.length + 1 - i) (by omega) (by rw [hz1]; omega) (by omega) (by omega) (by rw [hz2]; omega) hnc
  rw [show i + (il.length + 1 - i) = il.length + 1 by omega] at e0
  have hge := grownCap_ge w (il.length + 1) cap 51
  have hgm : grownCap w (il.length + 1) cap 51 ≤ maxLen := grownCap_le_maxLen w (il.length + 1) cap 51 (by unfold maxLen; omega)
  generalize grownCap w (il.length + 1) cap 51 = c' at *
  have hZ1 := (zeroI_cells (il.length + 1 - i)).1
  have hZ2 := (zeroI_cells (c' - (il.length + 1))).1
  have hl0 : ((icells (il.take i)).toArray ++ Builtin.zeroCells (Value.agg #[.string ⟨#[]⟩, .string ⟨#[]⟩]).cells (il.length + 1 - i) ++ Builtin.zeroCells (Value.agg #[.string ⟨#[]⟩, .string ⟨#[]⟩]).cells (c' - (il.length + 1))).toList.length = c' * 2 := by
    simp only [Array.length_toList, Array.size_append, List.size_toArray, hA2, hZ1, hZ2]; omega
  have ht0 : ((icells (il.take i)).toArray ++ Builtin.zeroCells (Value.agg #[.string ⟨#[]⟩, .string ⟨#[]⟩]).cells (il.length + 1 - i) ++ Builtin.zeroCells (Value.agg #[.string ⟨#[]⟩, .string ⟨#[]⟩]).cells (c' - (il.length + 1))).toList.take (i * 2) = icells (il.take i) := by
    rw [Array.append_assoc, Array.toList_append, ← hA2, List.take_left]
  generalize (icells (il.take i)).toArray ++ Builtin.zeroCells (Value.agg #[.string ⟨#[]⟩, .string ⟨#[]⟩]).cells (il.length + 1 - i) ++ Builtin.zeroCells (Value.agg #[.string ⟨#[]⟩, .string ⟨#[]⟩]).cells (c' - (il.length + 1)) = cur0 at *
  have hB1 : Below w.heap.size w (w.drew.alloc (.cells cur0 51)) := (Below.refl w.heap.size w).drew.alloc (Nat.le_refl _) _
  have hG1 : (w.drew.alloc (.cells cur0 51)).heap[w.heap.size]? = some (.cells cur0 51 (0, 0)) := heap_alloc_new w.drew _
  generalize w.drew.alloc (.cells cur0 51) = W1 at *
  have hx1 := (hB1.block gx hxlt).trans hx
  have e1 := run_copy_at (P := Tryz.prog) W1 30 30 3 51 2 w.heap.size (i * 2) (il.length + 1 - i) (c' - i) (.slice (some ⟨gx, 0, none⟩) 1 1) 1 cur0 51 [Value.string x.1, Value.string x.2] Tryz.underlying30 (by kernel_rfl) hG1 (by omega) ⟨_, _, rfl, rfl, .inr ⟨gx, 0, rfl, (Array.getElem?_eq_some_iff.1 hx1).1, fun j u hj => by unfold World.cell?; simp only [hx1, Nat.zero_add]; simpa using hj⟩⟩ (by simp at hl0 ⊢; omega) (by intro u hu; simp at hu; rcases hu with rfl | rfl <;> rfl)
  simp only [List.length_cons, List.length_nil] at e1
  rw [show i * 2 + (0 + 1 + 1) = i * 2 + 2 by omega, ht0] at e1
  have hl1 : (icells (il.take i) ++ [Value.string x.1, Value.string x.2] ++ cur0.toList.drop (i * 2 + 2)).length = c' * 2 := by
    simp only [List.length_append, hA2, List.length_drop, hl0, List.length_cons, List.length_nil]; omega
  have ht1 : (icells (il.take i) ++ [Value.string x.1, Value.string x.2] ++ cur0.toList.drop (i * 2 + 2)).take ((i + 1) * 2) = icells (il.take i) ++ [Value.string x.1, Value.string x.2] := by
    rw [show (i + 1) * 2 = (icells (il.take i) ++ [Value.string x.1, Value.string x.2]).length by simp [hA2]; omega, List.take_left]
  generalize icells (il.take i) ++ [Value.string x.1, Value.string x.2] ++ cur0.toList.drop (i * 2 + 2) = cur1 at *
  have hG2 := setRow_at hG1 cur1
  have hgr2 := setRow_grown W1 w.heap.size cur1.toArray
  have hcells : ∀ (j : Nat) (u : Value), (icells (il.drop i))[j]? = some u → (W1.setRow w.heap.size cur1.toArray).drew.cell? ⟨g, i * 2 + j, none⟩ = some u := fun j u hj => by
    have q := items_src h i (by omega) j u hj
    rw [← q]
    exact World.cell?_of_block ((hgr2.block g (Nat.lt_of_lt_of_le hglt hB1.size) (fun e => by have := Option.some.inj e; omega)).trans (hB1.block g hglt))
  have e2 := run_copy_min (P := Tryz.prog) (W1.setRow w.heap.size cur1.toArray).drew 30 30 3 51 2 w.heap.size ((i + 1) * 2) (il.length - i) (c' - (i + 1)) g (i * 2) (il.length - i) (cap - i) (il.length - i) cur1.toArray 51 (icells (il.drop i)) Tryz.underlying30 (by kernel_rfl) hG2 (Nat.min_self _) hC hcells (by rw [hC]; simp; omega) (one_icells _)
  rw [hC, show (i + 1) * 2 + (il.length - i) * 2 = (il.length + 1) * 2 by omega] at e2
  simp only [ht1] at e2
  have HQ : Hid (InsQ (.slice (some ⟨g, 0, none⟩) il.length cap) (insI il i x) w (.slice (some ⟨w.heap.size, 0, none⟩) (il.length + 1) c') ((W1.setRow w.heap.size cur1.toArray).drew.setRow w.heap.size (icells (il.take i) ++ [Value.string x.1, Value.string x.2] ++ icells (il.drop i) ++ cur1.drop ((il.length + 1) * 2)).toArray)) := by
    refine ⟨?_, ?_, .inr ⟨w.heap.size, Nat.le_refl _, rfl⟩⟩
    · unfold OwnsI
      rw [insI_len _ _ _ (by omega)]
      refine row_of (setRow_at (w := (W1.setRow w.heap.size cur1.toArray).drew) hG2 _) hge hgm ?_ ?_ (by rw [icells_len2, insI_len _ _ _ (by omega)])
      · simp only [List.length_append, List.length_drop, hA2, hC, hl1, List.length_cons, List.length_nil]; omega
      · rw [insI_cells, List.take_append_of_le_length (by simp only [List.length_append, hA2, hC, List.length_cons, List.length_nil]; omega), List.take_of_length_le (by simp only [List.length_append, hA2, hC, List.length_cons, List.length_nil]; omega)]
    · have h2 := setRow_grown (W1.setRow w.heap.size cur1.toArray).drew w.heap.size (icells (il.take i) ++ [Value.string x.1, Value.string x.2] ++ icells (il.drop i) ++ cur1.drop ((il.length + 1) * 2)).toArray
      have h0 : w.grownBy W1 (some g) := ⟨hB1.os, hB1.tape, hB1.output, hB1.size, fun k hk _ => hB1.block k hk⟩
      have h1 : w.grownBy (W1.setRow w.heap.size cur1.toArray).drew (some g) := grownN h0 ⟨hgr2.os, hgr2.tape, hgr2.output, hgr2.size, hgr2.block⟩ (Nat.le_refl _)
      exact grownN h1 h2 (Nat.le_refl _)
  have HE0 := hid e0
  have HE1 := hid e1
  have HE2 := hid e2
  clear e0 e1 e2 hG1 hG2 hgr2 hcells hl0 hl1 ht0 ht1 hZ1 hZ2 hold hnc hB1 hx1 hC hA2 htk hcs hg hm hb h hx hgm hinf hz0 hz1 hz2
  have b1 : i ≤ cap := by omega
  have b2 : i ≤ il.length := by omega
  have b5 : ¬ cap = i := by omega
  have b6 : ¬ c' = i := by omega
  have b6' : ¬ c' = i + 1 := by omega
  have b7 : i ≤ il.length + 1 := by omega
  have b8 : ((i : Int) == (il.length : Int)) = false := by simp; omega
  have b9 : decide ((cap : Int) < (il.length : Int) + 1) = true := by simp; omega
  have b10 : (i : Int) ≤ (il.length : Int) + 1 := by omega
  have w1 : IntKind.i64.wrap ((i : Int) + 1) = (i : Int) + 1 := by rw [IntKind.wrap_i64]; omega
  have w2 : ((i : Int) + 1).toNat = i + 1 := by omega
  have w3 : (0 : Int) ≤ (i : Int) + 1 := by omega
  have w4 : (i : Int) + 1 ≤ (il.length : Int) + 1 := by omega
  have w5 : ((il.length : Int) + 1 - (i : Int)) = ((il.length + 1 - i : Nat) : Int) := by omega
  go_enter Tryz.func171, Tryz.ntmps171
  go_upto_region 10 with (at_builtin; refine Lib.wpList_append_run w rfl (.tmp 34) (.tmp 39) 30 3 rfl (.slice (some ⟨g, 0, none⟩) i cap) (.int .i64 ((il.length + 1 - i : Nat) : Int)) rfl rfl _ _ HE0.out ?_)
  go_upto_region 11 with (refine wpCp W1 rfl (.tmp 43) (.tmp 44) 30 30 rfl _ _ rfl rfl _ _ HE1.out ?_)
  go_region_law (refine stepCp _ (by rfl) (.tmp 50) (.tmp 53) _ _ (by rfl) _ _ (by simp [Act.eval, Act.put]) (by simp [Act.eval, Act.put]) _ _ HE2.out ?_)
  all_goals
    go_wp2_with fail
    go_ret
    have hF := HQ.out
    simp only [List.append_assoc, List.cons_append, List.nil_append] at hF
    exact ⟨_, rfl, hF⟩
end Go.Proofs.YtolgpnaoaodepaaGreat
/- What a leaf's items come to by a change; what a call may have turned. -/
namespace Go.Proofs.YtolgpnaoaodepaaGreat.Tr

/-- A key's value is put, or taken away. -/
def rest (l : List It) (k : Key) : List It := match l with
  | [] => []
  | x :: r => if x.1 = k then r else x :: r
def putK (l : List It) (k : Key) (o : Option Key) : List It := l.takeWhile (fun x => decide (x.1 < k)) ++ ((o.map fun v => (k, v)).toList ++ rest (l.dropWhile fun x => decide (x.1 < k)) k)
theorem rest_sub (l : List It) (k : Key) : (rest l k).Sublist l := by
  cases l with
  | nil => exact List.Sublist.refl _
  | cons x r =>
    unfold rest; simp only
    split
    · exact List.sublist_cons_self _ _
    · exact List.Sublist.refl _
theorem tw_lt {l : List It} {k : Key} {x : It} (h : x ∈ l.takeWhile fun x => decide (x.1 < k)) : x.1 < k := by
  have := List.all_takeWhile (p := fun x : It => decide (x.1 < k)) (l := l)
  exact of_decide_eq_true (List.all_eq_true.1 this x h)
theorem dw_ge {l : List It} (hr : Rising l) {k : Key} {x : It} (h : x ∈ l.dropWhile fun x => decide (x.1 < k)) : ¬ x.1 < k := by
  have hh := List.head?_dropWhile_not (fun x : It => decide (x.1 < k)) l
  have hs : (l.dropWhile fun x => decide (x.1 < k)) <:+ l := List.dropWhile_suffix _
  have hr' : Rising (l.dropWhile fun x => decide (x.1 < k)) := List.Pairwise.sublist hs.sublist hr
  generalize (l.dropWhile fun x => decide (x.1 < k)) = D at *
  match D, h, hh, hr' with
  | y :: D, hx, hh, hr' =>
    simp at hh
    rcases List.mem_cons.1 hx with rfl | hx
    · exact List.not_lt.2 hh
    · have := (List.pairwise_cons.1 hr').1 x hx
      exact fun q => (List.not_lt.2 hh) (lt_tr this q)
theorem rest_gt {l : List It} (hr : Rising l) {k : Key} {x : It} (h : x ∈ rest (l.dropWhile fun x => decide (x.1 < k)) k) : k < x.1 := by
  have hge := fun y hy => dw_ge hr (k := k) (x := y) hy
  have hs : (l.dropWhile fun x => decide (x.1 < k)) <:+ l := List.dropWhile_suffix _
  have hr' : Rising (l.dropWhile fun x => decide (x.1 < k)) := List.Pairwise.sublist hs.sublist hr
  generalize (l.dropWhile fun x => decide (x.1 < k)) = D at *
  match D, h, hge, hr' with
  | y :: D, hx, hge, hr' =>
    unfold rest at hx
    simp only at hx
    split at hx
    · next e => have := (List.pairwise_cons.1 hr').1 x hx; rw [e] at this; exact this
    · next e =>
      have hxk : ¬ x.1 = k := by
        rintro rfl
        rcases List.mem_cons.1 hx with rfl | hx
        · exact e rfl
        · have := (List.pairwise_cons.1 hr').1 x hx
          exact hge y (List.mem_cons_self ..) this
      by_cases q : k < x.1
      · exact q
      · exact absurd (tri _ _ (hge x hx) q) hxk
theorem putK_mem {l : List It} {k : Key} {o : Option Key} {x : It} (h : x ∈ putK l k o) : x ∈ l ∨ ∃ v, o = some v ∧ x = (k, v) := by
  unfold putK at h
  rcases List.mem_append.1 h with h | h
  · exact .inl ((List.takeWhile_prefix _).sublist.subset h)
  · rcases List.mem_append.1 h with h | h
    · cases o with
      | none => simp at h
      | some v => simp at h; exact .inr ⟨v, rfl, h⟩
    · exact .inl ((List.dropWhile_suffix _).sublist.subset ((rest_sub _ _).subset h))
theorem putK_rising {l : List It} (hr : Rising l) (k : Key) (o : Option Key) : Rising (putK l k o) := by
  have h1 : Rising (l.takeWhile fun x => decide (x.1 < k)) := List.Pairwise.sublist (List.takeWhile_prefix _).sublist hr
  have h2 : Rising (rest (l.dropWhile fun x => decide (x.1 < k)) k) := List.Pairwise.sublist ((rest_sub _ _).trans (List.dropWhile_suffix _).sublist) hr
  refine List.pairwise_append.2 ⟨h1, List.pairwise_append.2 ⟨?_, h2, ?_⟩, ?_⟩
  · cases o <;> simp
  · intro a ha b hb
    cases o with
    | none => simp at ha
    | some v => simp at ha; subst ha; exact rest_gt hr hb
  · intro a ha b hb
    have ha' := tw_lt ha
    rcases List.mem_append.1 hb with hb | hb
    · cases o with
      | none => simp at hb
      | some v => simp at hb; subst hb; exact ha'
    · exact lt_tr ha' (rest_gt hr hb)
theorem look_rest {l : List It} {k k' : Key} (h : k' ≠ k) : look (rest l k) k' = look l k' := by
  cases l with
  | nil => rfl
  | cons x r =>
    unfold rest; simp only
    split
    · next e => rw [look, if_neg (by rw [e]; exact fun q => h q.symm)]
    · rfl
theorem putK_look {l : List It} (hr : Rising l) (k : Key) (o : Option Key) (k' : Key) : look (putK l k o) k' = if k' = k then o else look l k' := by
  unfold putK
  rw [look_append, look_append]
  by_cases e : k' = k
  · subst e
    rw [if_pos rfl, look_none (fun x hx q => by have := tw_lt hx; rw [q] at this; exact lt_ir _ this)]
    cases o with
    | none => simp only [Option.map_none, Option.toList_none, look, Option.none_or]; exact look_none fun x hx q => by have := rest_gt hr hx; rw [q] at this; exact lt_ir _ this
    | some v => simp [look]
  · rw [if_neg e, look_rest e]
    have h1 : look ((o.map fun v => (k, v)).toList) k' = none := by
      refine look_none fun x hx q => ?_
      cases o with
      | none => simp at hx
      | some v => simp at hx; subst hx; exact e q.symm
    rw [h1, Option.none_or, ← look_append, List.takeWhile_append_dropWhile]
theorem putK_len (l : List It) (k : Key) (o : Option Key) : (putK l k o).length ≤ l.length + 1 := by
  unfold putK
  have h1 : (l.takeWhile fun x => decide (x.1 < k)).length + (l.dropWhile fun x => decide (x.1 < k)).length = l.length := by
    rw [← List.length_append, List.takeWhile_append_dropWhile]
  have h2 := (rest_sub (l.dropWhile fun x => decide (x.1 < k)) k).length_le
  simp only [List.length_append]
  have h3 : ((o.map fun v => (k, v)).toList).length ≤ 1 := by cases o <;> simp
  omega
end Go.Proofs.YtolgpnaoaodepaaGreat.Tr
namespace Go.Proofs.YtolgpnaoaodepaaGreat
open Go.RowKit
/-- What may have turned: blocks of which F holds, and new ones. -/
structure Mod (F : Nat → Prop) (w w' : World) : Prop where
  os : w'.os = w.os
  tape : w'.tape = w.tape
  output : w'.output = w.output
  size : w.heap.size ≤ w'.heap.size
  block : ∀ k, k < w.heap.size → ¬ F k → w'.heap[k]? = w.heap[k]?
theorem Mod.of_below {w w' : World} {F : Nat → Prop} (h : Below w.heap.size w w') : Mod F w w' := ⟨h.os, h.tape, h.output, h.size, fun k hk _ => h.block k hk⟩
theorem Mod.of_grown {w w' : World} {r : Option Nat} (h : w.grownBy w' r) : Mod (fun k => r = some k) w w' := ⟨h.os, h.tape, h.output, h.size, fun k hk hne => h.block k hk (fun e => hne e.symm)⟩
theorem Mod.trans {F G H : Nat → Prop} {a b c : World} (h1 : Mod F a b) (h2 : Mod G b c) (hF : ∀ k, k < a.heap.size → F k → H k) (hG : ∀ k, k < a.heap.size → G k → H k) : Mod H a c :=
  ⟨h2.os.trans h1.os, h2.tape.trans h1.tape, h2.output.trans h1.output, Nat.le_trans h1.size h2.size, fun k hk hn => (h2.block k (Nat.lt_of_lt_of_le hk h1.size) (fun q => hn (hG k hk q))).trans (h1.block k hk (fun q => hn (hF k hk q)))⟩
theorem Mod.mono {F H : Nat → Prop} {a b : World} (h : Mod F a b) (hF : ∀ k, k < a.heap.size → F k → H k) : Mod H a b := ⟨h.os, h.tape, h.output, h.size, fun k hk hn => h.block k hk (fun q => hn (hF k hk q))⟩
theorem Mod.setCell (w : World) (p : Nat) (i : Nat) (v : Value) : Mod (fun k => k = p) w (w.setCell ⟨p, i, none⟩ v) := by
  have h := but_set p i w v
  exact ⟨h.os, h.tape, h.output, h.size, fun k hk hne => h.block k hk (fun e => hne (Option.some.inj e))⟩
theorem Mod.row {F : Nat → Prop} {w w' : World} (h : Mod F w w') {B : Nat} {e : TypeId} {s n : Nat} {v : Value} {xs : List Value} (hr : w.ownsRow B e s v n xs) (hv : ∀ g, v.ownBlock = some g → ¬ F g) : w'.ownsRow B e s v n xs :=
  ⟨hr.1, hr.2.imp_right fun ⟨g, cap, cur, e1, hb, hg, q⟩ => ⟨g, cap, cur, e1, hb, (h.block g (Array.getElem?_eq_some_iff.1 hg).1 (hv g (by rw [e1]; rfl))).trans hg, q⟩⟩
theorem Mod.nod {F : Nat → Prop} {w w' : World} (h : Mod F w w') {p : Nat} {vi vp vc : Value} (hn : NodT w p vi vp vc) (hp : ¬ F p) : NodT w' p vi vp vc := (h.block p hn.lt hp).trans hn
theorem NodT.seti {w : World} {p : Nat} {vi vp vc : Value} (h : NodT w p vi vp vc) (u : Value) : NodT (w.setCell ⟨p, 0, none⟩ u) p u vp vc := by unfold NodT at *; rw [heap_setCell_at (i := 0) h]; rfl
theorem NodT.setp {w : World} {p : Nat} {vi vp vc : Value} (h : NodT w p vi vp vc) (u : Value) : NodT (w.setCell ⟨p, 1, none⟩ u) p vi u vc := by unfold NodT at *; rw [heap_setCell_at (i := 1) h]; rfl
theorem NodT.setc {w : World} {p : Nat} {vi vp vc : Value} (h : NodT w p vi vp vc) (u : Value) : NodT (w.setCell ⟨p, 2, none⟩ u) p vi vp u := by unfold NodT at *; rw [heap_setCell_at (i := 2) h]; rfl
/-- Insert, wherever. -/
theorem insertI_any (v : Value) (il : List (ByteArray × ByteArray)) (i : Nat) (x : ByteArray × ByteArray) (gx : Nat) (w : World) (hi : i ≤ il.length) (h : OwnsI 0 w v il) (hl : il.length ≤ 1000000) (hx : w.heap[gx]? = some (.cells #[.string x.1, .string x.2] 51 (0, 0))) (hne : v.ownBlock ≠ some gx) :
    Calls Tryz.prog 171 #[v, .int .i64 (i : Nat), .slice (some ⟨gx, 0, none⟩) 1 1] w fun r w' => ∃ v', r = .returned v' ∧ InsQ v (insI il i x) w v' w' := by
  by_cases he : i = il.length
  · subst he
    exact insertEnd_any v il x gx w h hl hx
  · have h0 := h
    rcases h.2 with ⟨_, hn⟩ | ⟨g, cap, cur, rfl, _⟩
    · omega
    · by_cases hroom : il.length + 1 ≤ cap
      · exact insertIn_any g cap il i x gx w (by omega) hroom h0 hl hx (fun e => hne (by rw [e]; rfl))
      · exact insertGrow_any g cap il i x gx w (by omega) (by omega) h0 hl hx
end Go.Proofs.YtolgpnaoaodepaaGreat
