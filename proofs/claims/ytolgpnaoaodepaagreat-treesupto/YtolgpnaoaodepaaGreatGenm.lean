/- What the walks of the program and of the reference share: rows that a call owns, nodes as they lie in memory, what is written and read, in plain words. -/
import Derived.Test.YtolgpnaoaodepaaGreatWalkFm
import Derived.Test.YtolgpnaoaodepaaGreatMathCm
import Derived.Laws.BitsAllLaws
import Derived.Laws.Concat
import Derived.Deep.RegionHeld3
import Derived.Lib.QuietBelow
import Derived.Lib.AppendZerosOnto
import Derived.Laws.OwnMore
namespace Go.Proofs.YtolgpnaoaodepaaGreat
open Go.RowKit
theorem i64_xor_nat (a b : Nat) (ha : a < 4294967296) (hb : b < 4294967296) : bits .xor .i64 (a : Int) (b : Int) = ((a ^^^ b : Nat) : Int) := by
  have hx : a ^^^ b < 2 ^ 32 := Nat.xor_lt_two_pow (by omega) (by omega)
  show IntKind.i64.wrap ((BitVec.ofInt 64 (a : Int) ^^^ BitVec.ofInt 64 (b : Int)).toNat : Int) = _
  rw [BitVec.toNat_xor, ofInt_u64 a (by omega), ofInt_u64 b (by omega), IntKind.wrap_i64]
  omega
theorem xor_poly (f : Nat) (h : f < 4294967296) : bits .xor .i64 ((f : Int) / 2) 2197175160 = ((f / 2 ^^^ 2197175160 : Nat) : Int) := by
  have := i64_xor_nat (f / 2) 2197175160 (by omega) (by omega)
  exact this
theorem xor_ones (f : Nat) (h : f < 4294967296) : bits .xor .i64 (f : Int) 4294967295 = ((f ^^^ 4294967295 : Nat) : Int) := by
  have := i64_xor_nat f 4294967295 h (by omega)
  exact this
theorem crcBit_one {c : Nat} (h : c % 2 = 1) : Pg.crcBit c = (c / 2) ^^^ 2197175160 := by unfold Pg.crcBit; rw [if_pos h]
theorem crcBit_zero {c : Nat} (h : ¬ c % 2 = 1) : Pg.crcBit c = c / 2 := by unfold Pg.crcBit; rw [if_neg h]
theorem crc_next (s : ByteArray) (k : Nat) (h : k < s.size) : Pg.crcAll (s.data.toList.take (k + 1)) = Pg.crcByte (Pg.crcAll (s.data.toList.take k)) (s[k]'h) := by
  have h' : k < s.data.toList.length := by rw [len_size]; exact h
  rw [List.take_succ_eq_append_getElem h', Pg.crcAll_snoc]; rfl
theorem make_zero (n : Nat) : (madeCells (Value.int .u8 0).cells (n * 1)).toList = Lib.byteCells (List.replicate n 0) := by
  rw [Nat.mul_one]
  show (madeCells #[Value.int .u8 0] n).toList = _
  rw [toList_madeCells_one]; simp [Lib.byteCells]
/-- make([]byte, n). -/
theorem wpMk (w : World) {ops : Array Oper} {rest : List Oper} {o : Oper} {a : Act} {Q : Exit → Act → World → Prop} (hgd : o.guard = none) (l c : Operand) (hop : o.op = Op.makeSlice 108 l c) (n : Nat) (hl : a.eval l = .int .i64 (n : Int)) (hc : a.eval c = .int .i64 (n : Int)) (hb : n ≤ 140737488355328)
    (h : ∀ w', Owns w.heap.size w' (.slice (some ⟨w.heap.size, 0, none⟩) n n) (List.replicate n 0) → Below w.heap.size w w' → w.heap.size < w'.heap.size → wpList Tryz.prog ops Q rest (a.put o.dst (.slice (some ⟨w.heap.size, 0, none⟩) n n)) w') : wpList Tryz.prog ops Q (o :: rest) a w := by
  obtain ⟨i, hi, hz0, hz1, hz2⟩ := info_parts info_u8
  refine wpList_make_full w hgd l c 108 hop w.heap.size 5 i (.int .u8 0) 1 Tryz.underlying108 hi hz0 hz1 .i64 .i64 (n : Int) (n : Int) n hl hc rfl rfl (by rw [hz2]; omega) (by unfold maxLen; omega) (Nat.le_refl _) ?_
  intro w' ho hg
  rw [make_zero] at ho
  refine h w' ?_ ((Below.refl _ w).grown hg (Nat.le_refl _) (fun k hk => by cases hk)) ?_
  · unfold Owns; rw [List.length_replicate]; exact ho
  · exact (World.ownsRow.lt ho w.heap.size rfl).2
theorem low_set (n : Nat) : ∀ (k m : Nat), k < m → (Pg.low n k ++ List.replicate (m - k) 0).set k (UInt8.ofNat (n / 256 ^ k % 256)) = Pg.low n (k + 1) ++ List.replicate (m - (k + 1)) 0 := by
  intro k
  induction k generalizing n with
  | zero => intro m hm; obtain ⟨j, rfl⟩ : ∃ j, m = j + 1 := ⟨m - 1, by omega⟩; simp [Pg.low, List.replicate_succ]
  | succ k ih =>
    intro m hm
    have := ih (n / 256) (m - 1) (by omega)
    rw [Nat.div_div_eq_div_mul, Nat.mul_comm 256, ← Nat.pow_succ] at this
    rw [Pg.low, Pg.low, List.cons_append, List.set_cons_succ, show m - (k + 1) = m - 1 - k by omega, this, List.cons_append]
    rw [show m - (k + 1 + 1) = m - 1 - (k + 1) by omega]
theorem byteCells_set (l : List UInt8) (k : Nat) (b : UInt8) : (Lib.byteCells l).set k (.int .u8 (b.toNat : Int)) = Lib.byteCells (l.set k b) := by
  simp [Lib.byteCells, List.map_set]
theorem Owns.stored {B : Nat} {w : World} {g c : Nat} {l : List UInt8} (h : Owns B w (.slice (some ⟨g, 0, none⟩) l.length c) l) (k : Nat) (b : UInt8) : Owns B (w.setCell ⟨g, k, none⟩ (.int .u8 (b.toNat : Int))) (.slice (some ⟨g, 0, none⟩) l.length c) (l.set k b) := by
  have := World.ownsRow.stored h k (.int .u8 (b.toNat : Int))
  unfold Owns
  rw [← byteCells_set, List.length_set]
  exact this.1
theorem size_mk (l : List UInt8) : (⟨l.toArray⟩ : ByteArray).size = l.length := by show l.toArray.size = _; simp
theorem bytes_ext {a b : ByteArray} (h : a.data.toList = b.data.toList) : a = b := ByteArray.ext (Array.toList_inj.1 h)
theorem ret_str {a b : ByteArray} (h : a.data.toList = b.data.toList) : Ending.returned (.string a) = .returned (.string b) := by rw [bytes_ext h]
theorem num_short (n : Nat) (h : n ≤ 9223372036854775807) : (Pg.num n).length ≤ 10 := Pg.num_len' 9 n (by show n < 128 ^ 10; omega)
theorem byte_eq2 (s t : ByteArray) (i : Nat) (hi : i < s.size) (hj : i < t.size) (h : (((s[i]'hi).toNat : Int) == ((t[i]'hj).toNat : Int)) = true) : ∃ x, s.data.toList[i]? = some x ∧ t.data.toList[i]? = some x := by
  have h' : ((s[i]'hi).toNat : Int) = ((t[i]'hj).toNat : Int) := by simpa using h
  refine ⟨s[i], at_list s i hi, ?_⟩
  rw [at_list t i hj, UInt8.toNat_inj.1 (by omega : (s[i]'hi).toNat = (t[i]'hj).toNat)]
theorem byte_ne2 (s t : ByteArray) (i : Nat) (hi : i < s.size) (hj : i < t.size) (h : (((s[i]'hi).toNat : Int) == ((t[i]'hj).toNat : Int)) = false) : s.data.toList[i]? ≠ t.data.toList[i]? := by
  rw [at_list s i hi, at_list t i hj]
  intro e
  have e' : s[i]'hi = t[i]'hj := by simpa using e
  rw [e'] at h; simp at h
/-- Items lie from a place on. -/
def ItemsAt (w : World) (b off : Nat) (l : List (ByteArray × ByteArray)) : Prop := ∀ i (h : i < l.length), w.cell? ⟨b, off + i * 2, none⟩ = some (.string (l[i]'h).1) ∧ w.cell? ⟨b, off + i * 2 + 1, none⟩ = some (.string (l[i]'h).2)
theorem ItemsAt.below {w w' : World} {b off B : Nat} {l : List (ByteArray × ByteArray)} (h : ItemsAt w b off l) (hb : Below B w w') (hlt : b < B) : ItemsAt w' b off l := fun i hi => by
  rw [hb.cell (p := ⟨b, _, none⟩) hlt, hb.cell (p := ⟨b, _, none⟩) hlt]; exact h i hi
def plain (l : List (ByteArray × ByteArray)) : List (List UInt8 × List UInt8) := l.map fun x => (x.1.data.toList, x.2.data.toList)
theorem text_len (l : List UInt8) (h : l.length ≤ 9223372036854775807) : (Pg.text l).length ≤ l.length + 10 := by
  unfold Pg.text; rw [List.length_append]; have := num_short l.length h; omega
/-- A slice value whose items lie there: of none, whatever it is. -/
def IsItems (w : World) (v : Value) (l : List (ByteArray × ByteArray)) : Prop := (∃ a cap, v = .slice a 0 cap ∧ l = []) ∨ ∃ b off cap, v = .slice (some ⟨b, off, none⟩) l.length cap ∧ l.length ≤ cap ∧ cap ≤ 9223372036854775807 ∧ b < w.heap.size ∧ ItemsAt w b off l
theorem ItemsAt.part {w : World} {b off : Nat} {l : List (ByteArray × ByteArray)} (h : ItemsAt w b off l) (a n : Nat) : ItemsAt w b (off + a * 2) ((l.drop a).take n) := fun i hi => by
  have hi' : i < n ∧ a + i < l.length := by simp at hi; omega
  have := h (a + i) hi'.2
  rw [show off + a * 2 + i * 2 = off + (a + i) * 2 by omega]
  simpa using this
theorem plain_drop (l : List (ByteArray × ByteArray)) (k : Nat) : plain (l.drop k) = (plain l).drop k := by simp [plain]
theorem plain_take (l : List (ByteArray × ByteArray)) (k : Nat) : plain (l.take k) = (plain l).take k := by simp [plain]
theorem plain_sz {l : List (ByteArray × ByteArray)} (h : ∀ x ∈ l, x.1.size ≤ 12 ∧ x.2.size ≤ 16) : ∀ x ∈ plain l, x.1.length ≤ 12 ∧ x.2.length ≤ 16 := by
  intro x hx
  simp only [plain, List.mem_map] at hx
  obtain ⟨y, hy, rfl⟩ := hx
  have := h y hy
  simp only [len_size]; exact this
theorem entries_next (f : Nat) (l : List (List UInt8 × List UInt8)) (h : l ≠ []) : Pg.entries (f + 1) l = Pg.entry l ++ Pg.entries f (l.drop 4) := by rw [Pg.entries, if_neg h]
theorem bases_next (f : Nat) (l : List (List UInt8 × List UInt8)) (h : l ≠ []) : Pg.bases (f + 1) l = Pg.base l ++ Pg.bases f (l.drop 4) := by rw [Pg.bases, if_neg h]
theorem size_past {B : Nat} {w w' : World} {o : Obj} (h : Below B (w.alloc o) w') : w.heap.size + 1 ≤ w'.heap.size := by
  have := h.size; simpa using this
theorem heap_setCell_at {w : World} {b i : Nat} {cs : Array Value} {T : TypeId} (h : w.heap[b]? = some (.cells cs T (0, 0))) (v : Value) : (w.setCell ⟨b, i, none⟩ v).heap[b]? = some (.cells (cs.setIfInBounds i v) T (0, 0)) := by
  simp only [World.setCell, Array.getElem?_modify]
  rw [if_pos trivial, h]; rfl
/-- w' is w, but for block b, and with new blocks. -/
abbrev But (b : Nat) (w w' : World) : Prop := w.grownBy w' (some b)
theorem but_trans {b : Nat} {w w' w'' : World} (h : But b w w') (k : But b w' w'') : But b w w'' :=
  ⟨k.os.trans h.os, k.tape.trans h.tape, k.output.trans h.output, Nat.le_trans h.size k.size, fun i hi hr => (k.block i (Nat.lt_of_lt_of_le hi h.size) hr).trans (h.block i hi hr)⟩
theorem but_below {b : Nat} {w w' : World} (h : Below w.heap.size w w') : But b w w' := ⟨h.os, h.tape, h.output, h.size, fun i hi _ => h.block i hi⟩
theorem but_set (b i : Nat) (w : World) (v : Value) : But b w (w.setCell ⟨b, i, none⟩ v) :=
  ⟨rfl, rfl, rfl, by simp [World.setCell], fun k _ hr => Below.heap_setCell _ _ _ _ (fun e => hr (by rw [e]))⟩
theorem less_is : ∀ (x y : List UInt8), Op.bytesLess x y = decide (x < y)
  | [], [] => by simp [Op.bytesLess]
  | [], _ :: _ => by simp [Op.bytesLess]
  | _ :: _, [] => by simp [Op.bytesLess]
  | a :: x, b :: y => by
    rw [Op.bytesLess, less_is x y]
    by_cases hab : a = b
    · subst hab; simp
    · simp [List.cons_lt_cons_iff, hab]
end Go.Proofs.YtolgpnaoaodepaaGreat
namespace Go.Proofs.YtolgpnaoaodepaaGreat.Pg
open Go.RowKit
def isKey (n : Nat) : Bool := decide (1 ≤ n) && decide (n ≤ 12)
def isChange (k : Int) (key val : Nat) : Bool := isKey key && decide (val ≤ 16) && (decide (k = 1) || decide (k = 3) || (decide (k = 2) && decide (val = 0)))
end Go.Proofs.YtolgpnaoaodepaaGreat.Pg
namespace Go.Proofs.YtolgpnaoaodepaaGreat
open Go.RowKit
end Go.Proofs.YtolgpnaoaodepaaGreat
namespace Go.Proofs.YtolgpnaoaodepaaGreat.Pg
open Go.RowKit
def okChange (c : Int × List UInt8 × List UInt8) : Bool := isChange c.1 c.2.1.length c.2.2.length
end Go.Proofs.YtolgpnaoaodepaaGreat.Pg
namespace Go.Proofs.YtolgpnaoaodepaaGreat
open Go.RowKit
def plainCh (l : List (Int × ByteArray × ByteArray)) : List (Int × List UInt8 × List UInt8) := l.map fun c => (c.1, c.2.1.data.toList, c.2.2.data.toList)
end Go.Proofs.YtolgpnaoaodepaaGreat
namespace Go.Proofs.YtolgpnaoaodepaaGreat.Pg
open Go.RowKit
end Go.Proofs.YtolgpnaoaodepaaGreat.Pg
namespace Go.Proofs.YtolgpnaoaodepaaGreat
open Go.RowKit
end Go.Proofs.YtolgpnaoaodepaaGreat
namespace Go.Proofs.YtolgpnaoaodepaaGreat.Pg
open Go.RowKit
end Go.Proofs.YtolgpnaoaodepaaGreat.Pg
namespace Go.Proofs.YtolgpnaoaodepaaGreat
open Go.RowKit
/-- append(v, x), x a value of some cells that lies in a new block of its own. -/
theorem wpApG (w : World) {ops : Array Oper} {rest : List Oper} {o : Oper} {a : Act} {Q : Exit → Act → World → Prop} (hgd : o.guard = none) (sl x : Operand) (t e : TypeId) (ht : Tryz.prog.underlying t = some (.slice e))
    (z : Value) (size bytes : Nat) (hinfo : (Tryz.prog.info? e).map (fun i => (i.zero, i.size, i.bytes)) = some (some z, size, bytes)) (hzs : z.cells.size = size) (hsp : 0 < size) (hby : bytes ≤ 1000)
    (ho : o.op = Op.call { callee := Callee.builtin Builtin.append, args := #[sl, x], argTypes := #[t, t] }) (B : Nat) (v : Value) (n : Nat) (xs : List Value) (hs : a.eval sl = v) (hown : w.ownsRow B e size v n xs)
    (news : List Value) (hnl : news.length = size) (hone : ∀ u ∈ news, u.oneCell' = true) (hx : a.eval x = .slice (some ⟨w.heap.size, 0, none⟩) 1 1) (hb : n + 1 ≤ 1000000000) (hB : B ≤ w.heap.size)
    (h : ∀ (v' : Value) (w' : World), w'.ownsRow B e size v' (n + 1) (xs ++ news) → w.grownBy w' v.ownBlock → (v'.ownBlock = v.ownBlock ∨ ∃ k, w.heap.size ≤ k ∧ v'.ownBlock = some k) → wpList Tryz.prog ops Q rest (a.put o.dst v') w') : wpList Tryz.prog ops Q (o :: rest) a (w.alloc (.cells news.toArray e)) := by
  obtain ⟨i, hi, hz0, hz1, hz2⟩ := info_parts hinfo
  refine wpList_append_own_at (w.alloc (.cells news.toArray e)) hgd sl x t ho B e i z size bytes ht hi hz0 hz1 hz2 hzs hsp v n xs hs (hown.alloc _) ⟨w.heap.size, 0, none⟩ 1 1 news hx (by omega) ?_ hone (by unfold maxLen; omega) (by have : (n + 1) * bytes ≤ 1000000000 * 1000 := Nat.mul_le_mul hb hby; omega) (by simp; omega) ?_
  · intro j u hj
    have hc : (w.alloc (.cells news.toArray e)).heap[w.heap.size]? = some (.cells news.toArray e (0, 0)) := heap_alloc_new _ _
    have : (⟨w.heap.size, 0, none⟩ : Addr).add j = ⟨w.heap.size, j, none⟩ := by
      by_cases h0 : j = 0
      · subst h0; simp [Addr.add]
      · simp [Addr.add, h0]
    rw [this]
    unfold World.cell?
    rw [hc]
    simpa using hj
  intro v' w' ho' hg _ hat
  exact h v' w' ho' (grown_after_alloc hg) (hat.imp_right fun e => ⟨w.heap.size + 1, by omega, by simpa using e⟩)
/-- Items that a call owns. -/
def icells (l : List (ByteArray × ByteArray)) : List Value := l.flatMap fun x => [.string x.1, .string x.2]
def OwnsI (B : Nat) (w : World) (v : Value) (l : List (ByteArray × ByteArray)) : Prop := w.ownsRow B 51 2 v l.length (icells l)
theorem info_item : (Tryz.prog.info? 51).map (fun i => (i.zero, i.size, i.bytes)) = some (some (.agg #[.string ⟨#[]⟩, .string ⟨#[]⟩]), 2, 32) := by kernel_rfl
/-- Changes that a call owns. -/
def ccells (l : List (Int × ByteArray × ByteArray)) : List Value := l.flatMap fun x => [.int .i64 x.1, .string x.2.1, .string x.2.2]
def OwnsC (B : Nat) (w : World) (v : Value) (l : List (Int × ByteArray × ByteArray)) : Prop := w.ownsRow B 34 3 v l.length (ccells l)
theorem info_change : (Tryz.prog.info? 34).map (fun i => (i.zero, i.size, i.bytes)) = some (some (.agg #[.int .i64 0, .string ⟨#[]⟩, .string ⟨#[]⟩]), 3, 40) := by kernel_rfl
theorem info_int : (Tryz.prog.info? 3).map (fun i => (i.zero, i.size, i.bytes)) = some (some (.int .i64 0), 1, 8) := by kernel_rfl
theorem icells_snoc (l : List (ByteArray × ByteArray)) (x : ByteArray × ByteArray) : icells (l ++ [x]) = icells l ++ [.string x.1, .string x.2] := by simp [icells]
theorem icells_at : ∀ (l : List (ByteArray × ByteArray)) (i : Nat) (h : i < l.length), (icells l)[i * 2]? = some (.string (l[i]'h).1) ∧ (icells l)[i * 2 + 1]? = some (.string (l[i]'h).2)
  | [], i, h => by simp at h
  | x :: r, 0, h => by simp [icells]
  | x :: r, i + 1, h => by
    have := icells_at r i (by simpa using h)
    have e : icells (x :: r) = .string x.1 :: .string x.2 :: icells r := rfl
    rw [e, show (i + 1) * 2 = i * 2 + 1 + 1 by omega]
    simpa using this
theorem ccells_at : ∀ (l : List (Int × ByteArray × ByteArray)) (i : Nat) (h : i < l.length), (ccells l)[i * 3]? = some (.int .i64 (l[i]'h).1) ∧ (ccells l)[i * 3 + 1]? = some (.string (l[i]'h).2.1) ∧ (ccells l)[i * 3 + 2]? = some (.string (l[i]'h).2.2)
  | [], i, h => by simp at h
  | x :: r, 0, h => by simp [ccells]
  | x :: r, i + 1, h => by
    have := ccells_at r i (by simpa using h)
    have e : ccells (x :: r) = .int .i64 x.1 :: .string x.2.1 :: .string x.2.2 :: ccells r := rfl
    rw [e, show (i + 1) * 3 = i * 3 + 1 + 1 + 1 by omega]
    simpa using this
theorem add_at (g j : Nat) : (⟨g, 0, none⟩ : Addr).add j = ⟨g, j, none⟩ := by
  by_cases h0 : j = 0
  · subst h0; simp [Addr.add]
  · simp [Addr.add, h0]
end Go.Proofs.YtolgpnaoaodepaaGreat
namespace Go.Proofs.YtolgpnaoaodepaaGreat.Pg
open Go.RowKit
end Go.Proofs.YtolgpnaoaodepaaGreat.Pg
namespace Go.Proofs.YtolgpnaoaodepaaGreat
open Go.RowKit
theorem setSize (w : World) (a : Addr) (v : Value) : (w.setCell a v).heap.size = w.heap.size := by simp [World.setCell]
theorem rowShape {B : Nat} {w : World} {T : TypeId} {sz : Nat} {v : Value} {n : Nat} {xs : List Value} (h : w.ownsRow B T sz v n xs) : ∃ a cap, v = .slice a n cap := by
  rcases h.2 with ⟨rfl, hn⟩ | ⟨g, cap, cur, rfl, _⟩
  · exact ⟨none, 0, by rw [hn]⟩
  · exact ⟨_, _, rfl⟩
end Go.Proofs.YtolgpnaoaodepaaGreat
/- append(v, make([]byte, k)...) onto bytes that a call owns; bytes that were built just now are owned. -/
namespace Go.Proofs.YtolgpnaoaodepaaGreat
open Go.RowKit

end Go.Proofs.YtolgpnaoaodepaaGreat
/- The walks of package wire's writing: AppendNumber, AppendText, AppendShort, check, Seal. -/
namespace Go.Proofs.YtolgpnaoaodepaaGreat
open Go.RowKit

end Go.Proofs.YtolgpnaoaodepaaGreat
/- The walks of pages' writeSection, commonFront, basement, sealHead. -/
namespace Go.Proofs.YtolgpnaoaodepaaGreat
open Go.RowKit

end Go.Proofs.YtolgpnaoaodepaaGreat
