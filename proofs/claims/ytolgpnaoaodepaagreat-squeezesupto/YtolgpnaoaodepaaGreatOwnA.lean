/- Bytes that a call owns: what append and the conversion to a string do to them. -/
import Derived.Test.YtolgpnaoaodepaaGreatWalkB
import Derived.Lib.BufferRead
import Derived.Laws.IdiomStrings
import Derived.Laws.DeepStrings4
namespace Go.Proofs.YtolgpnaoaodepaaGreat
open Go.RowKit

/-- The slice value v owns the bytes l, in a row from block B on. -/
def Owns (B : Nat) (w : World) (v : Value) (l : List UInt8) : Prop := w.ownsRow B 5 1 v l.length (Lib.byteCells l)

theorem info_u8 : (Tryz.prog.info? 5).map (fun i => (i.zero, i.size, i.bytes)) = some (some (.int .u8 0), 1, 1) := by kernel_rfl

theorem Owns.nil (B : Nat) (w : World) : Owns B w (.slice none 0 0) [] := World.ownsRow_nil _ _ _ _
theorem Owns.alloc {B : Nat} {w : World} {v : Value} {l : List UInt8} (h : Owns B w v l) (o : Obj) : Owns B (w.alloc o) v l := World.ownsRow.alloc h o
theorem Owns.drewN {B : Nat} {w : World} {v : Value} {l : List UInt8} (h : Owns B w v l) (q : Nat) : Owns B (w.drewN q) v l := h
theorem Owns.drew {B : Nat} {w : World} {v : Value} {l : List UInt8} (h : Owns B w v l) : Owns B w.drew v l := h
theorem Owns.shape {B : Nat} {w : World} {v : Value} {l : List UInt8} (h : Owns B w v l) : ∃ a cap, v = .slice a l.length cap := by
  rcases h.2 with ⟨rfl, hn⟩ | ⟨g, cap, cur, rfl, _⟩
  · exact ⟨none, 0, by rw [hn]⟩
  · exact ⟨_, _, rfl⟩
theorem Owns.below {B C : Nat} {w w' : World} {v : Value} {l : List UInt8} (h : Owns B w v l) (hb : Below C w w') (hlt : ∀ k, v.ownBlock = some k → k < C) : Owns B w' v l := by
  refine ⟨h.1, ?_⟩
  rcases h.2 with hn | ⟨g, cap, cur, rfl, hb', hg, r⟩
  · exact .inl hn
  · exact .inr ⟨g, cap, cur, rfl, hb', by rw [hb.block g (hlt g rfl)]; exact hg, r⟩
theorem below_drewN {B : Nat} {a w : World} (h : Below B a w) (n : Nat) : Below B a (w.drewN n) := h.trans ⟨rfl, rfl, rfl, Nat.le_refl _, fun _ _ => rfl⟩

/-- string(v). -/
theorem Owns.str {B : Nat} {w : World} {v : Value} {l : List UInt8} (h : Owns B w v l) : (convert 108 9 v).run Tryz.prog w = .ok (.string ⟨l.toArray⟩) w := by
  rcases h.2 with ⟨rfl, hn⟩ | ⟨g, cap, cur, rfl, hb, hg, _, _, _, htk⟩
  · have : l = [] := List.length_eq_zero_iff.1 hn
    subst this
    exact Lib.run_convert_nil_bytes w _ _ 5 0 Tryz.underlying108 Tryz.underlying5 Tryz.underlying9
  · refine run_convert_bytes_back w _ _ 5 ⟨g, 0, none⟩ cap l Tryz.underlying108 Tryz.underlying5 Tryz.underlying9 ?_
    exact Lib.bytes_of_row hg (by simpa using htk)

theorem byteCells_one (l : List UInt8) : ∀ u ∈ Lib.byteCells l, u.oneCell' = true := by
  intro u hu
  simp [Lib.byteCells] at hu
  obtain ⟨b, _, rfl⟩ := hu
  rfl

/-- append(v, s...), s a string. -/
theorem wpApS (w : World) {ops : Array Oper} {rest : List Oper} {o : Oper} {a : Act} {Q : Exit → Act → World → Prop} (hgd : o.guard = none) (sl x : Operand)
    (ho : o.op = Op.call { callee := Callee.builtin Builtin.append, args := #[sl, x], argTypes := #[108, 9] }) (B : Nat) (v : Value) (l : List UInt8) (hs : a.eval sl = v) (hown : Owns B w v l)
    (s : ByteArray) (hx : a.eval x = .string s) (hb : l.length + s.size ≤ 140737488355328) (hB : B ≤ w.heap.size)
    (h : ∀ (v' : Value) (w' : World), Owns B w' v' (l ++ s.data.toList) → Below B w w' → wpList Tryz.prog ops Q rest (a.put o.dst v') w') : wpList Tryz.prog ops Q (o :: rest) a w := by
  obtain ⟨i, hi, hz0, hz1, hz2⟩ := info_parts info_u8
  refine Lib.wpList_append_own_string w hgd sl x 108 9 ho B 5 i Tryz.underlying108 Tryz.underlying9 hi hz0 hz1 hz2 v l.length (Lib.byteCells l) hs hown s hx (by unfold maxLen; omega) hb hB ?_
  intro v' w' ho' hg _
  refine h v' w' ?_ ((Below.refl B w).grown hg hB fun k hk => (World.ownsRow.lt hown k hk).1)
  have e1 : Lib.byteCells (l ++ s.data.toList) = Lib.byteCells l ++ Lib.strCells s := by rw [Lib.byteCells_append]; rfl
  unfold Owns
  rw [e1, List.length_append, show s.data.toList.length = s.size by simp]
  exact ho'

/-- append(v, xs...), xs bytes that lie somewhere. -/
theorem wpApB (w : World) {ops : Array Oper} {rest : List Oper} {o : Oper} {a : Act} {Q : Exit → Act → World → Prop} (hgd : o.guard = none) (sl x : Operand)
    (ho : o.op = Op.call { callee := Callee.builtin Builtin.append, args := #[sl, x], argTypes := #[108, 108] }) (B : Nat) (v : Value) (l : List UInt8) (hs : a.eval sl = v) (hown : Owns B w v l)
    (ad : Addr) (c : Nat) (news : List UInt8) (hx : a.eval x = .slice (some ad) news.length c) (hnews : ∀ j u, (Lib.byteCells news)[j]? = some u → w.cell? (ad.add j) = some u)
    (hb : l.length + news.length ≤ 140737488355328) (hB : B ≤ w.heap.size)
    (h : ∀ (v' : Value) (w' : World), Owns B w' v' (l ++ news) → w.grownBy w' v.ownBlock → (v'.ownBlock = v.ownBlock ∨ v'.ownBlock = some w.heap.size) → wpList Tryz.prog ops Q rest (a.put o.dst v') w') : wpList Tryz.prog ops Q (o :: rest) a w := by
  obtain ⟨i, hi, hz0, hz1, hz2⟩ := info_parts info_u8
  refine wpList_append_own_at w hgd sl x 108 ho B 5 i (.int .u8 0) 1 1 Tryz.underlying108 hi hz0 hz1 hz2 rfl (by decide) v l.length (Lib.byteCells l) hs hown ad news.length c (Lib.byteCells news) hx (by rw [Lib.byteCells_length]; omega) hnews (byteCells_one _) (by unfold maxLen; omega) (by omega) hB ?_
  intro v' w' ho' hg _ hat
  refine h v' w' ?_ hg hat
  unfold Owns
  rw [Lib.byteCells_append, List.length_append]
  exact ho'

/-- A row of bytes that was laid just now. -/
theorem laid_cells (w : World) (T : TypeId) (bs : List UInt8) (cur : Array Value) (hc : cur.toList = Lib.byteCells bs) : ∀ j u, (Lib.byteCells bs)[j]? = some u → (w.alloc (.cells cur T)).cell? ((⟨w.heap.size, 0, none⟩ : Addr).add j) = some u := by
  intro j u hj
  rw [← hc, Array.getElem?_toList] at hj
  have e : ∀ j, (w.alloc (.cells cur T)).cell? ⟨w.heap.size, j, none⟩ = cur[j]? := fun j => World.cell?_alloc_at cur T _ j rfl
  by_cases h0 : j = 0
  · subst h0; simp only [Addr.add, if_pos]; rw [e]; exact hj
  · simp only [Addr.add, if_neg h0, Nat.zero_add]; rw [e]; exact hj

/-- append(v, b): b lies in a new block of its own. -/
theorem wpAp1 (w : World) {ops : Array Oper} {rest : List Oper} {o : Oper} {a : Act} {Q : Exit → Act → World → Prop} (hgd : o.guard = none) (sl x : Operand)
    (ho : o.op = Op.call { callee := Callee.builtin Builtin.append, args := #[sl, x], argTypes := #[108, 108] }) (B : Nat) (v : Value) (l : List UInt8) (hs : a.eval sl = v) (hown : Owns B w v l)
    (b : UInt8) (n : Int) (hn : n = (b.toNat : Int)) (hx : a.eval x = .slice (some ⟨w.heap.size, 0, none⟩) 1 1)
    (hb : l.length + 1 ≤ 140737488355328) (hB : B ≤ w.heap.size)
    (h : ∀ (v' : Value) (w' : World), Owns B w' v' (l ++ [b]) → (w.alloc (.cells #[.int .u8 n] 5)).grownBy w' v.ownBlock → (v'.ownBlock = v.ownBlock ∨ v'.ownBlock = some (w.heap.size + 1)) → wpList Tryz.prog ops Q rest (a.put o.dst v') w') : wpList Tryz.prog ops Q (o :: rest) a (w.alloc (.cells #[.int .u8 n] 5)) := by
  subst hn
  refine wpApB (w.alloc (.cells #[.int .u8 (b.toNat : Int)] 5)) hgd sl x ho B v l hs (hown.alloc _) ⟨w.heap.size, 0, none⟩ 1 [b] hx (laid_cells w _ [b] _ (by simp [Lib.byteCells])) (by simpa using hb) (by simp; omega) ?_
  intro v' w' h1 h2 h3
  exact h v' w' h1 h2 (by simpa using h3)
theorem wpAp2 (w : World) {ops : Array Oper} {rest : List Oper} {o : Oper} {a : Act} {Q : Exit → Act → World → Prop} (hgd : o.guard = none) (sl x : Operand)
    (ho : o.op = Op.call { callee := Callee.builtin Builtin.append, args := #[sl, x], argTypes := #[108, 108] }) (B : Nat) (v : Value) (l : List UInt8) (hs : a.eval sl = v) (hown : Owns B w v l)
    (b c : UInt8) (n m : Int) (hn : n = (b.toNat : Int)) (hm : m = (c.toNat : Int)) (hx : a.eval x = .slice (some ⟨w.heap.size, 0, none⟩) 2 2)
    (hb : l.length + 2 ≤ 140737488355328) (hB : B ≤ w.heap.size)
    (h : ∀ (v' : Value) (w' : World), Owns B w' v' (l ++ [b, c]) → (w.alloc (.cells #[.int .u8 n, .int .u8 m] 5)).grownBy w' v.ownBlock → (v'.ownBlock = v.ownBlock ∨ v'.ownBlock = some (w.heap.size + 1)) → wpList Tryz.prog ops Q rest (a.put o.dst v') w') : wpList Tryz.prog ops Q (o :: rest) a (w.alloc (.cells #[.int .u8 n, .int .u8 m] 5)) := by
  subst hn hm
  refine wpApB (w.alloc (.cells #[.int .u8 (b.toNat : Int), .int .u8 (c.toNat : Int)] 5)) hgd sl x ho B v l hs (hown.alloc _) ⟨w.heap.size, 0, none⟩ 2 [b, c] hx (laid_cells w _ [b, c] _ (by simp [Lib.byteCells])) (by simpa using hb) (by simp; omega) ?_
  intro v' w' h1 h2 h3
  exact h v' w' h1 h2 (by simpa using h3)

theorem below_of_grown {B : Nat} {w w' : World} {v : Value} {l : List UInt8} {ob : Obj} (hown : Owns B w v l) (hB : B ≤ w.heap.size) (hg : (w.alloc ob).grownBy w' v.ownBlock) : Below B w w' :=
  (((Below.refl B w).alloc hB ob).grown hg (by simp; omega) fun k hk => (World.ownsRow.lt hown k hk).1)
end Go.Proofs.YtolgpnaoaodepaaGreat
