/- What Squeeze writes Spread reads; it is never much longer: the plain mathematics. -/
import Derived.Test.YtolgpnaoaodepaaGreatMathBm
import Derived.Test.YtolgpnaoaodepaaGreatWalkGm
import Derived.Laws.BitsAllLaws
import Derived.Laws.Concat
import Derived.Deep.RegionHeld3
import Derived.Lib.QuietBelow
namespace Go.Proofs.YtolgpnaoaodepaaGreat.Sq

theorem com_same (l : List UInt8) : ∀ (m i j k : Nat), k < com l i j m → j + k < l.length ∧ l[i + k]? = l[j + k]?
  | 0, _, _, _, h => by simp [com] at h
  | m + 1, i, j, k, h => by
    unfold com at h
    split at h
    · rename_i hc
      match k with
      | 0 => exact ⟨by omega, by simpa using hc.2⟩
      | k + 1 =>
        have := com_same l m (i + 1) (j + 1) k (by omega)
        rw [show i + (k + 1) = i + 1 + k by omega, show j + (k + 1) = j + 1 + k by omega]
        exact this
    · omega
theorem copy_take (l : List UInt8) (at_ d : Nat) (hd : 1 ≤ d) (hda : d ≤ at_) (ha : at_ ≤ l.length) : ∀ n, (∀ k, k < n → at_ + k < l.length ∧ l[at_ - d + k]? = l[at_ + k]?) → copyN (l.take at_) d n = l.take (at_ + n)
  | 0, _ => rfl
  | n + 1, h => by
    have ih := copy_take l at_ d hd hda ha n (fun k hk => h k (by omega))
    rw [copyN_succ, ih]
    obtain ⟨h1, h2⟩ := h n (by omega)
    have hl : (l.take (at_ + n)).length = at_ + n := by rw [List.length_take]; omega
    rw [hl, List.getD_eq_getElem?_getD, List.getElem?_take_of_lt (by omega), show at_ + n - d = at_ - d + n by omega, h2, List.getElem?_eq_getElem h1, show at_ + (n + 1) = at_ + n + 1 by omega, List.take_succ_eq_append_getElem h1]
    rfl

theorem decode_runOf : ∀ (n : Nat) (p t out : List UInt8), p.length ≤ n → decode (runOf p ++ t) out = decode t (out ++ p)
  | 0, p, t, out, h => by have : p = [] := List.length_eq_zero_iff.1 (by omega); subst this; simp [runOf_nil]
  | n + 1, p, t, out, h => by
    by_cases e : p = []
    · subst e; simp [runOf_nil]
    · have hp : 0 < p.length := List.length_pos_iff.2 e
      rw [runOf_cons p e, List.cons_append, List.append_assoc]
      have hm : (UInt8.ofNat (min p.length 128 - 1)).toNat = min p.length 128 - 1 := by simp; omega
      have hk : min p.length 128 - 1 + 1 = (p.take 128).length := by rw [List.length_take]; omega
      rw [decode_run _ _ _ (by omega) (by rw [hm, List.length_append]; omega), hm, hk, List.drop_left, List.take_left, decode_runOf n (p.drop 128) t _ (by rw [List.length_drop]; omega), List.append_assoc, List.take_append_drop]

theorem mat_best (l : List UInt8) (at_ : Nat) (h : (best l at_).2 ≠ 0) : 1 ≤ (best l at_).2 ∧ (best l at_).2 ≤ at_ ∧ mat l at_ (best l at_).2 = (best l at_).1 := by
  have hs := (up_spec l at_ (min at_ 255)).2
  have hf := best_far l at_
  unfold best at *
  rcases hs with h' | h'
  · rw [h'] at h; simp at h
  · exact ⟨h'.1, hf.2, h'.2.2.1⟩

theorem decode_rest (l : List UInt8) : ∀ (f at_ : Nat) (p : List UInt8), l.length - at_ ≤ f → at_ ≤ l.length → p.length ≤ at_ → p = (l.drop (at_ - p.length)).take p.length → decode (rest l at_ p) (l.take (at_ - p.length)) = some l
  | 0, at_, p, hf, ha, hp, he => by
    rw [rest_end l at_ p (by omega)]
    have := decode_runOf p.length p [] (l.take (at_ - p.length)) (Nat.le_refl _)
    rw [List.append_nil] at this
    rw [this, decode_nil, he]
    simp only [List.length_take, List.length_drop]
    rw [show min p.length (l.length - (at_ - p.length)) = p.length by omega]
    rw [← List.take_add, show at_ - p.length + p.length = at_ by omega, List.take_of_length_le (by omega)]
  | f + 1, at_, p, hf, ha, hp, he => by
    by_cases hend : l.length ≤ at_
    · exact decode_rest l 0 at_ p (by omega) ha hp he
    · have hlt : at_ < l.length := by omega
      by_cases hb : (best l at_).2 = 0
      · rw [rest_single l at_ p hlt hb]
        have := decode_rest l f (at_ + 1) (p ++ [l[at_]]) (by omega) (by omega) (by simp; omega) (by
          rw [List.length_append, List.length_singleton, show at_ + 1 - (p.length + 1) = at_ - p.length by omega]
          rw [List.take_succ_eq_append_getElem (by rw [List.length_drop]; omega), ← he]
          simp [show at_ - p.length + p.length = at_ by omega])
        rw [List.length_append, List.length_singleton, show at_ + 1 - (p.length + 1) = at_ - p.length by omega] at this
        exact this
      · have hl := best_len l at_ hb
        obtain ⟨h1, h2, h3⟩ := mat_best l at_ hb
        have hf2 := (best_far l at_).1
        rw [rest_match l at_ p hlt hb, decode_runOf p.length p _ _ (Nat.le_refl _)]
        have hout : l.take (at_ - p.length) ++ p = l.take at_ := by
          rw [show l.take (at_ - p.length) ++ p = l.take (at_ - p.length) ++ (l.drop (at_ - p.length)).take p.length from congrArg _ he, ← List.take_add, show at_ - p.length + p.length = at_ by omega]
        rw [hout]
        have e1 : (UInt8.ofNat (125 + (best l at_).1)).toNat = 125 + (best l at_).1 := by simp; omega
        have e2 : (UInt8.ofNat (best l at_).2).toNat = (best l at_).2 := by simp; omega
        rw [decode_match _ _ _ _ (by rw [e1]; omega) (by rw [e1, e2, List.length_take]; omega), e1, e2, show 125 + (best l at_).1 - 125 = (best l at_).1 by omega]
        rw [copy_take l at_ (best l at_).2 h1 h2 ha (best l at_).1 (fun k hk => by rw [← h3] at hk; exact com_same l _ _ _ k hk)]
        have := decode_rest l f (at_ + (best l at_).1) [] (by omega) (by omega) (by simp) (by simp)
        simpa using this

theorem decode_squeeze (l : List UInt8) : decode (squeeze l) [] = some l := by
  have := decode_rest l l.length 0 [] (by omega) (by omega) (by simp) (by simp)
  simpa [squeeze] using this
/-- What Squeeze writes Spread reads. -/
theorem spread_squeeze (l : List UInt8) : spread (squeeze l) = some l := by
  unfold spread; rw [decode_squeeze]; simp
/-- Whatever Spread takes is what Squeeze writes. -/
theorem squeeze_spread {s l : List UInt8} (h : spread s = some l) : squeeze l = s := by
  unfold spread at h
  split at h
  · split at h
    · rename_i hq; simp at h; subst h; exact hq
    · simp at h
  · simp at h

theorem runOf_len : ∀ (n : Nat) (p : List UInt8), p.length ≤ n → (runOf p).length = p.length + (p.length + 127) / 128
  | 0, p, h => by have : p = [] := List.length_eq_zero_iff.1 (by omega); subst this; simp [runOf_nil]
  | n + 1, p, h => by
    by_cases e : p = []
    · subst e; simp [runOf_nil]
    · have hp : 0 < p.length := List.length_pos_iff.2 e
      rw [runOf_cons p e, List.length_cons, List.length_append, runOf_len n (p.drop 128) (by rw [List.length_drop]; omega)]
      rw [List.length_take, List.length_drop]; omega
theorem rest_short (l : List UInt8) : ∀ (f at_ : Nat) (p : List UInt8), l.length - at_ ≤ f → at_ ≤ l.length → (rest l at_ p).length ≤ (l.length - at_ + p.length) + (l.length - at_ + p.length + 127) / 128
  | 0, at_, p, hf, ha => by rw [rest_end l at_ p (by omega), runOf_len _ p (Nat.le_refl _)]; omega
  | f + 1, at_, p, hf, ha => by
    by_cases hend : l.length ≤ at_
    · exact rest_short l 0 at_ p (by omega) ha
    · have hlt : at_ < l.length := by omega
      by_cases hb : (best l at_).2 = 0
      · rw [rest_single l at_ p hlt hb]
        have := rest_short l f (at_ + 1) (p ++ [l[at_]]) (by omega) (by omega)
        simp only [List.length_append, List.length_singleton] at this
        omega
      · have hl := best_len l at_ hb
        rw [rest_match l at_ p hlt hb]
        have := rest_short l f (at_ + (best l at_).1) [] (by omega) (by omega)
        rw [List.length_append, runOf_len _ p (Nat.le_refl _), List.length_cons, List.length_cons]
        simp only [List.length_nil] at this
        omega
/-- It is never much longer. -/
theorem squeeze_short (l : List UInt8) : (squeeze l).length ≤ l.length + (l.length + 127) / 128 := by
  have := rest_short l l.length 0 [] (by omega) (by omega)
  simpa [squeeze] using this
end Go.Proofs.YtolgpnaoaodepaaGreat.Sq
/- Plain mathematics of a leaf's first bytes. -/
namespace Go.Proofs.YtolgpnaoaodepaaGreat.Pg

/-- The entry of basement i in a leaf's first bytes. -/
def ent (l : List UInt8) (i : Nat) : List UInt8 := (l.drop (4 + 15 * i)).take 15
def entSize (e : List UInt8) : Nat := high (e.take 2)
def entK (e : List UInt8) : Nat := (e.getD 2 0).toNat
def entKey (e : List UInt8) : List UInt8 := (e.drop 3).take (entK e)
/-- Such an entry may not be. -/
def entBad (e : List UInt8) (at_ len : Nat) : Bool := decide (entK e < 1) || decide (12 < entK e) || decide (e.drop (3 + entK e) ≠ List.replicate (12 - entK e) 0) || decide (len < at_ + entSize e)
def ordBad (i : Nat) (ks : List (List UInt8)) (key : List UInt8) : Bool := decide (0 < i) && !decide (ks.getD (i - 1) [] < key)
def hdrLoop (l : List UInt8) (many : Nat) : Nat → Nat → Nat → List (List UInt8) → List (List UInt8) → Option (List (List UInt8) × List (List UInt8))
  | 0, _, at_, ks, ss => if at_ = l.length then some (ks, ss) else none
  | f + 1, i, at_, ks, ss =>
    if many ≤ i then (if ent l i = List.replicate 15 0 then hdrLoop l many f (i + 1) at_ ks ss else none)
    else if entBad (ent l i) at_ l.length = true then none
    else if ordBad i ks (entKey (ent l i)) = true then none
    else hdrLoop l many f (i + 1) (at_ + entSize (ent l i)) (ks ++ [entKey (ent l i)]) (ss ++ [(l.drop at_).take (entSize (ent l i))])
def hdrMany (l : List UInt8) : Nat := (l.getD 3 0).toNat
def hdrHead (l : List UInt8) : Bool := decide (68 ≤ l.length) && decide (l.take 3 = [83, 50, 76]) && decide (sealed (l.take 64) = l.take 68) && decide (hdrMany l ≤ 4)
def header (l : List UInt8) : Option (List (List UInt8) × List (List UInt8)) := if hdrHead l = true then hdrLoop l (hdrMany l) 4 0 68 [] [] else none
theorem hdr_end (l : List UInt8) (m i at_ : Nat) (ks ss : List (List UInt8)) : hdrLoop l m 0 i at_ ks ss = if at_ = l.length then some (ks, ss) else none := rfl
theorem hdr_past (l : List UInt8) (m f i at_ : Nat) (ks ss : List (List UInt8)) (h : m ≤ i) (he : ent l i = List.replicate 15 0) : hdrLoop l m (f + 1) i at_ ks ss = hdrLoop l m f (i + 1) at_ ks ss := by rw [hdrLoop, if_pos h, if_pos he]
theorem hdr_past_no (l : List UInt8) (m f i at_ : Nat) (ks ss : List (List UInt8)) (h : m ≤ i) (he : ¬ ent l i = List.replicate 15 0) : hdrLoop l m (f + 1) i at_ ks ss = none := by rw [hdrLoop, if_pos h, if_neg he]
theorem hdr_bad (l : List UInt8) (m f i at_ : Nat) (ks ss : List (List UInt8)) (h : ¬ m ≤ i) (he : entBad (ent l i) at_ l.length = true) : hdrLoop l m (f + 1) i at_ ks ss = none := by rw [hdrLoop, if_neg h, if_pos he]
theorem hdr_ord (l : List UInt8) (m f i at_ : Nat) (ks ss : List (List UInt8)) (h : ¬ m ≤ i) (he : entBad (ent l i) at_ l.length = false) (ho : ordBad i ks (entKey (ent l i)) = true) : hdrLoop l m (f + 1) i at_ ks ss = none := by rw [hdrLoop, if_neg h, if_neg (by rw [he]; decide), if_pos ho]
theorem hdr_next (l : List UInt8) (m f i at_ : Nat) (ks ss : List (List UInt8)) (h : ¬ m ≤ i) (he : entBad (ent l i) at_ l.length = false) (ho : ordBad i ks (entKey (ent l i)) = false) : hdrLoop l m (f + 1) i at_ ks ss = hdrLoop l m f (i + 1) (at_ + entSize (ent l i)) (ks ++ [entKey (ent l i)]) (ss ++ [(l.drop at_).take (entSize (ent l i))]) := by rw [hdrLoop, if_neg h, if_neg (by rw [he]; decide), if_neg (by rw [ho]; decide)]
end Go.Proofs.YtolgpnaoaodepaaGreat.Pg
/- What the walks of the program and of the reference share: rows that a call owns, nodes as they lie in memory, what is written and read, in plain words. -/
namespace Go.Proofs.YtolgpnaoaodepaaGreat
open Go.RowKit
theorem i64_xor_nat (a b : Nat) (ha : a < 4294967296) (hb : b < 4294967296) : bits .xor .i64 (a : Int) (b : Int) = ((a ^^^ b : Nat) : Int) := by
  have hx : a ^^^ b < 2 ^ 32 := Nat.xor_lt_two_pow (by omega) (by omega)
  show IntKind.i64.wrap ((BitVec.ofInt 64 (a : Int) ^^^ BitVec.ofInt 64 (b : Int)).toNat : Int) = _
  rw [BitVec.toNat_xor, ofInt_u64 a (by omega), ofInt_u64 b (by omega), IntKind.wrap_i64]
  omega
theorem xor_poly (f : Nat) (h : f < 4294967296) : bits .xor .i64 ((f : Int) / 2) 2197175160 = ((f / 2 ^^^ 2197175160 : Nat) : Int) := by
  have := i64_xor_nat (f / 2) 2197175160 (by omega) (by omega)
  exact this
theorem xor_ones (f : Nat) (h : f < 4294967296) : bits .xor .i64 (f : Int) 4294967295 = ((f ^^^ 4294967295 : Nat) : Int) := by
  have := i64_xor_nat f 4294967295 h (by omega)
  exact this
theorem crcBit_one {c : Nat} (h : c % 2 = 1) : Pg.crcBit c = (c / 2) ^^^ 2197175160 := by unfold Pg.crcBit; rw [if_pos h]
theorem crcBit_zero {c : Nat} (h : ¬ c % 2 = 1) : Pg.crcBit c = c / 2 := by unfold Pg.crcBit; rw [if_neg h]
theorem crc_next (s : ByteArray) (k : Nat) (h : k < s.size) : Pg.crcAll (s.data.toList.take (k + 1)) = Pg.crcByte (Pg.crcAll (s.data.toList.take k)) (s[k]'h) := by
  have h' : k < s.data.toList.length := by rw [len_size]; exact h
  rw [List.take_succ_eq_append_getElem h', Pg.crcAll_snoc]; rfl
theorem make_zero (n : Nat) : (madeCells (Value.int .u8 0).cells (n * 1)).toList = Lib.byteCells (List.replicate n 0) := by
  rw [Nat.mul_one]
  show (madeCells #[Value.int .u8 0] n).toList = _
  rw [toList_madeCells_one]; simp [Lib.byteCells]
/-- make([]byte, n). -/
theorem wpMk (w : World) {ops : Array Oper} {rest : List Oper} {o : Oper} {a : Act} {Q : Exit → Act → World → Prop} (hgd : o.guard = none) (l c : Operand) (hop : o.op = Op.makeSlice 108 l c) (n : Nat) (hl : a.eval l = .int .i64 (n : Int)) (hc : a.eval c = .int .i64 (n : Int)) (hb : n ≤ 140737488355328)
    (h : ∀ w', Owns w.heap.size w' (.slice (some ⟨w.heap.size, 0, none⟩) n n) (List.replicate n 0) → Below w.heap.size w w' → w.heap.size < w'.heap.size → wpList Tryz.prog ops Q rest (a.put o.dst (.slice (some ⟨w.heap.size, 0, none⟩) n n)) w') : wpList Tryz.prog ops Q (o :: rest) a w := by
  obtain ⟨i, hi, hz0, hz1, hz2⟩ := info_parts info_u8
  refine wpList_make_full w hgd l c 108 hop w.heap.size 5 i (.int .u8 0) 1 Tryz.underlying108 hi hz0 hz1 .i64 .i64 (n : Int) (n : Int) n hl hc rfl rfl (by rw [hz2]; omega) (by unfold maxLen; omega) (Nat.le_refl _) ?_
  intro w' ho hg
  rw [make_zero] at ho
  refine h w' ?_ ((Below.refl _ w).grown hg (Nat.le_refl _) (fun k hk => by cases hk)) ?_
  · unfold Owns; rw [List.length_replicate]; exact ho
  · exact (World.ownsRow.lt ho w.heap.size rfl).2
theorem low_set (n : Nat) : ∀ (k m : Nat), k < m → (Pg.low n k ++ List.replicate (m - k) 0).set k (UInt8.ofNat (n / 256 ^ k % 256)) = Pg.low n (k + 1) ++ List.replicate (m - (k + 1)) 0 := by
  intro k
  induction k generalizing n with
  | zero => intro m hm; obtain ⟨j, rfl⟩ : ∃ j, m = j + 1 := ⟨m - 1, by omega⟩; simp [Pg.low, List.replicate_succ]
  | succ k ih =>
    intro m hm
    have := ih (n / 256) (m - 1) (by omega)
    rw [Nat.div_div_eq_div_mul, Nat.mul_comm 256, ← Nat.pow_succ] at this
    rw [Pg.low, Pg.low, List.cons_append, List.set_cons_succ, show m - (k + 1) = m - 1 - k by omega, this, List.cons_append]
    rw [show m - (k + 1 + 1) = m - 1 - (k + 1) by omega]
theorem byteCells_set (l : List UInt8) (k : Nat) (b : UInt8) : (Lib.byteCells l).set k (.int .u8 (b.toNat : Int)) = Lib.byteCells (l.set k b) := by
  simp [Lib.byteCells, List.map_set]
theorem Owns.stored {B : Nat} {w : World} {g c : Nat} {l : List UInt8} (h : Owns B w (.slice (some ⟨g, 0, none⟩) l.length c) l) (k : Nat) (b : UInt8) : Owns B (w.setCell ⟨g, k, none⟩ (.int .u8 (b.toNat : Int))) (.slice (some ⟨g, 0, none⟩) l.length c) (l.set k b) := by
  have := World.ownsRow.stored h k (.int .u8 (b.toNat : Int))
  unfold Owns
  rw [← byteCells_set, List.length_set]
  exact this.1
theorem size_mk (l : List UInt8) : (⟨l.toArray⟩ : ByteArray).size = l.length := by show l.toArray.size = _; simp
theorem bytes_ext {a b : ByteArray} (h : a.data.toList = b.data.toList) : a = b := ByteArray.ext (Array.toList_inj.1 h)
theorem ret_str {a b : ByteArray} (h : a.data.toList = b.data.toList) : Ending.returned (.string a) = .returned (.string b) := by rw [bytes_ext h]
theorem num_short (n : Nat) (h : n ≤ 9223372036854775807) : (Pg.num n).length ≤ 10 := Pg.num_len' 9 n (by show n < 128 ^ 10; omega)
theorem byte_eq2 (s t : ByteArray) (i : Nat) (hi : i < s.size) (hj : i < t.size) (h : (((s[i]'hi).toNat : Int) == ((t[i]'hj).toNat : Int)) = true) : ∃ x, s.data.toList[i]? = some x ∧ t.data.toList[i]? = some x := by
  have h' : ((s[i]'hi).toNat : Int) = ((t[i]'hj).toNat : Int) := by simpa using h
  refine ⟨s[i], at_list s i hi, ?_⟩
  rw [at_list t i hj, UInt8.toNat_inj.1 (by omega : (s[i]'hi).toNat = (t[i]'hj).toNat)]
theorem byte_ne2 (s t : ByteArray) (i : Nat) (hi : i < s.size) (hj : i < t.size) (h : (((s[i]'hi).toNat : Int) == ((t[i]'hj).toNat : Int)) = false) : s.data.toList[i]? ≠ t.data.toList[i]? := by
  rw [at_list s i hi, at_list t i hj]
  intro e
  have e' : s[i]'hi = t[i]'hj := by simpa using e
  rw [e'] at h; simp at h
/-- Items lie from a place on. -/
def ItemsAt (w : World) (b off : Nat) (l : List (ByteArray × ByteArray)) : Prop := ∀ i (h : i < l.length), w.cell? ⟨b, off + i * 2, none⟩ = some (.string (l[i]'h).1) ∧ w.cell? ⟨b, off + i * 2 + 1, none⟩ = some (.string (l[i]'h).2)
theorem ItemsAt.below {w w' : World} {b off B : Nat} {l : List (ByteArray × ByteArray)} (h : ItemsAt w b off l) (hb : Below B w w') (hlt : b < B) : ItemsAt w' b off l := fun i hi => by
  rw [hb.cell (p := ⟨b, _, none⟩) hlt, hb.cell (p := ⟨b, _, none⟩) hlt]; exact h i hi
def plain (l : List (ByteArray × ByteArray)) : List (List UInt8 × List UInt8) := l.map fun x => (x.1.data.toList, x.2.data.toList)
theorem text_short (s : ByteArray) (h : s.size ≤ 9223372036854775807) : (Pg.text s.data.toList).length ≤ s.size + 10 := by
  unfold Pg.text; rw [len_size, List.length_append, len_size]; have := num_short s.size h; omega
theorem text_len (l : List UInt8) (h : l.length ≤ 9223372036854775807) : (Pg.text l).length ≤ l.length + 10 := by
  unfold Pg.text; rw [List.length_append]; have := num_short l.length h; omega
/-- A slice value whose items lie there: of none, whatever it is. -/
def IsItems (w : World) (v : Value) (l : List (ByteArray × ByteArray)) : Prop := (∃ a cap, v = .slice a 0 cap ∧ l = []) ∨ ∃ b off cap, v = .slice (some ⟨b, off, none⟩) l.length cap ∧ l.length ≤ cap ∧ cap ≤ 9223372036854775807 ∧ b < w.heap.size ∧ ItemsAt w b off l
theorem ItemsAt.part {w : World} {b off : Nat} {l : List (ByteArray × ByteArray)} (h : ItemsAt w b off l) (a n : Nat) : ItemsAt w b (off + a * 2) ((l.drop a).take n) := fun i hi => by
  have hi' : i < n ∧ a + i < l.length := by simp at hi; omega
  have := h (a + i) hi'.2
  rw [show off + a * 2 + i * 2 = off + (a + i) * 2 by omega]
  simpa using this
theorem plain_drop (l : List (ByteArray × ByteArray)) (k : Nat) : plain (l.drop k) = (plain l).drop k := by simp [plain]
theorem plain_take (l : List (ByteArray × ByteArray)) (k : Nat) : plain (l.take k) = (plain l).take k := by simp [plain]
theorem plain_sz {l : List (ByteArray × ByteArray)} (h : ∀ x ∈ l, x.1.size ≤ 12 ∧ x.2.size ≤ 16) : ∀ x ∈ plain l, x.1.length ≤ 12 ∧ x.2.length ≤ 16 := by
  intro x hx
  simp only [plain, List.mem_map] at hx
  obtain ⟨y, hy, rfl⟩ := hx
  have := h y hy
  simp only [len_size]; exact this
theorem entries_next (f : Nat) (l : List (List UInt8 × List UInt8)) (h : l ≠ []) : Pg.entries (f + 1) l = Pg.entry l ++ Pg.entries f (l.drop 4) := by rw [Pg.entries, if_neg h]
theorem bases_next (f : Nat) (l : List (List UInt8 × List UInt8)) (h : l ≠ []) : Pg.bases (f + 1) l = Pg.base l ++ Pg.bases f (l.drop 4) := by rw [Pg.bases, if_neg h]
theorem size_past {B : Nat} {w w' : World} {o : Obj} (h : Below B (w.alloc o) w') : w.heap.size + 1 ≤ w'.heap.size := by
  have := h.size; simpa using this
theorem high_step (s : ByteArray) (k : Nat) (h : k < s.size) : Pg.high (s.data.toList.drop k) = (s[k]'h).toNat + 256 * Pg.high (s.data.toList.drop (k + 1)) := by
  rw [drop_at s k h]; rfl
theorem heap_setCell_at {w : World} {b i : Nat} {cs : Array Value} {T : TypeId} (h : w.heap[b]? = some (.cells cs T (0, 0))) (v : Value) : (w.setCell ⟨b, i, none⟩ v).heap[b]? = some (.cells (cs.setIfInBounds i v) T (0, 0)) := by
  simp only [World.setCell, Array.getElem?_modify]
  rw [if_pos trivial, h]; rfl
/-- w' is w, but for block b, and with new blocks. -/
abbrev But (b : Nat) (w w' : World) : Prop := w.grownBy w' (some b)
theorem but_refl (b : Nat) (w : World) : But b w w := ⟨rfl, rfl, rfl, Nat.le_refl _, fun _ _ _ => rfl⟩
theorem but_trans {b : Nat} {w w' w'' : World} (h : But b w w') (k : But b w' w'') : But b w w'' :=
  ⟨k.os.trans h.os, k.tape.trans h.tape, k.output.trans h.output, Nat.le_trans h.size k.size, fun i hi hr => (k.block i (Nat.lt_of_lt_of_le hi h.size) hr).trans (h.block i hi hr)⟩
theorem but_below {b : Nat} {w w' : World} (h : Below w.heap.size w w') : But b w w' := ⟨h.os, h.tape, h.output, h.size, fun i hi _ => h.block i hi⟩
theorem but_set (b i : Nat) (w : World) (v : Value) : But b w (w.setCell ⟨b, i, none⟩ v) :=
  ⟨rfl, rfl, rfl, by simp [World.setCell], fun k _ hr => Below.heap_setCell _ _ _ _ (fun e => hr (by rw [e]))⟩
theorem but_drewN (b : Nat) (w : World) (n : Nat) : But b w (w.drewN n) := ⟨rfl, rfl, rfl, Nat.le_refl _, fun _ _ _ => rfl⟩
theorem but_belowAt {b B : Nat} {w w' : World} (h : Below B w w') (hB : w.heap.size ≤ B) : But b w w' := but_below (h.mono hB)
theorem rem_len {s : ByteArray} {a : Nat} {c : Pg.Cur} (h : c.rem = s.data.toList.drop a) (ha : a ≤ s.size) : c.rem.length + a = s.size := by
  rw [h, List.length_drop, len_size]; omega
theorem byte_any (c : Pg.Cur) : (⟨(c.take 1).1.toArray⟩ : ByteArray).size = 1 := by rw [size_mk, Pg.take_len c 1 (by decide)]
theorem number_go (f : Nat) (c : Pg.Cur) (n times : Nat) (first : Bool) (h : ¬ c.byte < 128) : Pg.numberF (f + 1) c n times first = Pg.numberF f (c.take 1).2 (n + c.byte % 128 * times) (128 * times) false := by rw [Pg.numberF, if_neg h]
theorem number_bad (f : Nat) (c : Pg.Cur) (n times : Nat) (first : Bool) (h : c.byte < 128) (hb : (c.take 1).2.bad = true ∨ (c.byte = 0 ∧ first = false) ∨ 2147483647 < n + c.byte % 128 * times) : Pg.numberF (f + 1) c n times first = (0, ⟨(c.take 1).2.rem, true⟩) := by rw [Pg.numberF, if_pos h, if_pos hb]
theorem number_end (f : Nat) (c : Pg.Cur) (n times : Nat) (first : Bool) (h : c.byte < 128) (hb : ¬ ((c.take 1).2.bad = true ∨ (c.byte = 0 ∧ first = false) ∨ 2147483647 < n + c.byte % 128 * times)) : Pg.numberF (f + 1) c n times first = (n + c.byte % 128 * times, (c.take 1).2) := by rw [Pg.numberF, if_pos h, if_neg hb]
theorem number_lt (c : Pg.Cur) : c.number.1 ≤ 2147483647 := by
  have key : ∀ (f : Nat) (c : Pg.Cur) (n t : Nat) (b : Bool), (Pg.numberF f c n t b).1 ≤ 2147483647 := by
    intro f
    induction f with
    | zero => intro c n t b; simp [Pg.numberF]
    | succ f ih =>
      intro c n t b
      rw [Pg.numberF]
      split
      · split
        · simp
        · rename_i h; simp only; omega
      · exact ih _ _ _ _
  exact key 5 c 0 1 true
theorem below_of_but {w w' : World} {o : Obj} (h : But w.heap.size (w.alloc o) w') : Below w.heap.size w w' :=
  ⟨h.os, h.tape, h.output, by have := h.size; simp at this; omega, fun k hk => (h.block k (by simp; omega) (by simp; omega)).trans (Below.heap_alloc _ _ _ hk)⟩
theorem spread_cases (l : List UInt8) : (Sq.spread l = none ∧ spreadS l = ⟨#[]⟩ ∧ spreadE l = 2) ∨ ∃ u, Sq.spread l = some u ∧ spreadS l = ⟨u.toArray⟩ ∧ spreadE l = 0 := by
  unfold spreadS spreadE
  cases h : Sq.spread l with
  | none => exact .inl ⟨rfl, rfl, rfl⟩
  | some u => exact .inr ⟨u, rfl, rfl, rfl⟩
def strs (l : List ByteArray) : List Value := l.map Value.string
/-- The slice value v owns the texts l, in a row from block B on. -/
def OwnsS (B : Nat) (w : World) (v : Value) (l : List ByteArray) : Prop := w.ownsRow B 9 1 v l.length (strs l)
theorem info_str : (Tryz.prog.info? 9).map (fun i => (i.zero, i.size, i.bytes)) = some (some (.string ⟨#[]⟩), 1, 16) := by kernel_rfl
theorem OwnsS.nil (B : Nat) (w : World) : OwnsS B w (.slice none 0 0) [] := World.ownsRow_nil _ _ _ _
theorem OwnsS.alloc {B : Nat} {w : World} {v : Value} {l : List ByteArray} (h : OwnsS B w v l) (o : Obj) : OwnsS B (w.alloc o) v l := World.ownsRow.alloc h o
theorem OwnsS.drewN {B : Nat} {w : World} {v : Value} {l : List ByteArray} (h : OwnsS B w v l) (q : Nat) : OwnsS B (w.drewN q) v l := h
theorem OwnsS.shape {B : Nat} {w : World} {v : Value} {l : List ByteArray} (h : OwnsS B w v l) : ∃ a cap, v = .slice a l.length cap := by
  rcases h.2 with ⟨rfl, hn⟩ | ⟨g, cap, cur, rfl, _⟩
  · exact ⟨none, 0, by rw [hn]⟩
  · exact ⟨_, _, rfl⟩
theorem OwnsS.shape_pos {B : Nat} {w : World} {v : Value} {l : List ByteArray} (h : OwnsS B w v l) (hp : 0 < l.length) : ∃ g cap, v = .slice (some ⟨g, 0, none⟩) l.length cap ∧ B ≤ g ∧ g < w.heap.size ∧ l.length ≤ cap := by
  rcases h.2 with ⟨rfl, hn⟩ | ⟨g, cap, cur, rfl, hb, hg, hc, _⟩
  · omega
  · exact ⟨g, cap, rfl, hb, (Array.getElem?_eq_some_iff.1 hg).1, hc⟩
theorem OwnsS.below {B C : Nat} {w w' : World} {v : Value} {l : List ByteArray} (h : OwnsS B w v l) (hb : Below C w w') (hC : w.heap.size ≤ C) : OwnsS B w' v l := by
  refine ⟨h.1, ?_⟩
  rcases h.2 with hn | ⟨g, cap, cur, rfl, hb', hg, r⟩
  · exact .inl hn
  · exact .inr ⟨g, cap, cur, rfl, hb', by rw [hb.block g (Nat.lt_of_lt_of_le (Array.getElem?_eq_some_iff.1 hg).1 hC)]; exact hg, r⟩
theorem OwnsS.setBelow {B : Nat} {w : World} {v : Value} {l : List ByteArray} (h : OwnsS B w v l) {b i : Nat} (hb : b < B) (u : Value) : OwnsS B (w.setCell ⟨b, i, none⟩ u) v l := ownsRow_setCell_below h hb u
theorem OwnsS.kept {B : Nat} {w w' : World} {v : Value} {l : List ByteArray} {row : Option Nat} (h : OwnsS B w v l) (hg : w.grownBy w' row) (hne : v.ownBlock = none ∨ v.ownBlock ≠ row) : OwnsS B w' v l := World.ownsRow.kept h hg hne
theorem OwnsS.cellAt {B : Nat} {w : World} {g n c : Nat} {l : List ByteArray} (h : OwnsS B w (.slice (some ⟨g, 0, none⟩) n c) l) (j : Nat) (s : ByteArray) (hj : l[j]? = some s) : w.cell? ⟨g, j, none⟩ = some (.string s) := by
  have := World.ownsRow.cells h (g := g) rfl j (.string s) (by simp [strs, hj])
  by_cases h0 : j = 0
  · subst h0; simpa [Addr.add] using this
  · simpa [Addr.add, h0] using this
theorem strs_one (l : List ByteArray) : ∀ u ∈ strs l, u.oneCell' = true := by
  intro u hu
  simp [strs] at hu
  obtain ⟨b, _, rfl⟩ := hu
  rfl
theorem owns_apart {B : Nat} {w w' : World} {u v v' : Value} {lu lv : List ByteArray} (hu : OwnsS B w u lu) (hv : OwnsS B w v lv) (hB : B ≤ w.heap.size) (hap : Apart u v) (hg : w.grownBy w' v.ownBlock) (hat : v'.ownBlock = v.ownBlock ∨ ∃ k, w.heap.size ≤ k ∧ v'.ownBlock = some k) : OwnsS B w' u lu ∧ Apart u v' ∧ Below B w w' := by
  refine ⟨hu.kept hg ?_, ?_, (Below.refl B w).grown hg hB fun k hk => (World.ownsRow.lt hv k hk).1⟩
  · cases h : u.ownBlock with
    | none => exact .inl rfl
    | some k => exact .inr (fun e => hap k h e.symm)
  · intro k hk e
    have hlt := (World.ownsRow.lt hu k hk).2
    rcases hat with h | ⟨j, hj, h⟩
    · rw [h] at e; exact hap k hk e
    · rw [h] at e; have : j = k := by simpa using e
      omega
/-- append(v, s), s a text that lies in a new block of its own. -/
theorem wpApT (w : World) {ops : Array Oper} {rest : List Oper} {o : Oper} {a : Act} {Q : Exit → Act → World → Prop} (hgd : o.guard = none) (sl x : Operand)
    (ho : o.op = Op.call { callee := Callee.builtin Builtin.append, args := #[sl, x], argTypes := #[40, 40] }) (B : Nat) (v : Value) (l : List ByteArray) (hs : a.eval sl = v) (hown : OwnsS B w v l)
    (s : ByteArray) (hx : a.eval x = .slice (some ⟨w.heap.size, 0, none⟩) 1 1) (hb : l.length + 1 ≤ 1000000000) (hB : B ≤ w.heap.size)
    (h : ∀ (v' : Value) (w' : World), OwnsS B w' v' (l ++ [s]) → w.grownBy w' v.ownBlock → (v'.ownBlock = v.ownBlock ∨ ∃ k, w.heap.size ≤ k ∧ v'.ownBlock = some k) → wpList Tryz.prog ops Q rest (a.put o.dst v') w') : wpList Tryz.prog ops Q (o :: rest) a (w.alloc (.cells #[.string s] 9)) := by
  obtain ⟨i, hi, hz0, hz1, hz2⟩ := info_parts info_str
  refine wpList_append_own_at (w.alloc (.cells #[.string s] 9)) hgd sl x 40 ho B 9 i (.string ⟨#[]⟩) 1 16 Tryz.underlying40 hi hz0 hz1 hz2 rfl (by decide) v l.length (strs l) hs (hown.alloc _) ⟨w.heap.size, 0, none⟩ 1 1 [.string s] hx rfl ?_ (strs_one [s]) (by unfold maxLen; omega) (by omega) (by simp; omega) ?_
  · intro j u hj
    match j, hj with
    | 0, hj => simp at hj; subst hj; simp [Addr.add]
  intro v' w' ho' hg _ hat
  refine h v' w' ?_ (grown_after_alloc hg) (hat.imp_right fun e => ⟨w.heap.size + 1, by omega, by simpa using e⟩)
  unfold OwnsS strs
  rw [List.length_append, List.map_append]
  exact ho'
theorem stepApT (w : World) {ops : Array Oper} {o : Oper} {a : Act} {K : Act → World → Prop} {Q : Exit → Act → World → Prop} {E : Prop} (hgd : o.guard = none) (sl x : Operand)
    (ho : o.op = Op.call { callee := Callee.builtin Builtin.append, args := #[sl, x], argTypes := #[40, 40] }) (B : Nat) (v : Value) (l : List ByteArray) (hs : a.eval sl = v) (hown : OwnsS B w v l)
    (s : ByteArray) (g : Nat) (hx : a.eval x = .slice (some ⟨g, 0, none⟩) 1 1) (hcell : w.cell? ⟨g, 0, none⟩ = some (.string s)) (hb : l.length + 1 ≤ 1000000000) (hB : B ≤ w.heap.size)
    (h : ∀ (v' : Value) (w' : World), OwnsS B w' v' (l ++ [s]) → w.grownBy w' v.ownBlock → (v'.ownBlock = v.ownBlock ∨ ∃ k, w.heap.size ≤ k ∧ v'.ownBlock = some k) → K (a.put o.dst v') w') : if Region.wanted o (yielded ops a.tmps) = true then Oper.wp Tryz.prog o a w K Q else E := by
  have hw : Region.wanted o (yielded ops a.tmps) = true := by simp [Region.wanted, hgd]
  rw [if_pos hw]
  obtain ⟨i, hi, hz0, hz1, hz2⟩ := info_parts info_str
  obtain ⟨v', w', hrun, ho', hg, _, hat⟩ := run_append_own_at (P := Tryz.prog) w B 40 o.type 9 i (.string ⟨#[]⟩) 1 16 Tryz.underlying40 hi hz0 hz1 hz2 rfl (by decide) v l.length (strs l) hown ⟨g, 0, none⟩ 1 1 [.string s] rfl (fun j u hj => by
    match j, hj with
    | 0, hj => simp at hj; subst hj; simpa [Addr.add] using hcell) (strs_one [s]) (by unfold maxLen; omega) (by omega) hB
  have hK : K (a.put o.dst v') w' := by
    refine h v' w' ?_ hg (hat.imp_right fun e => ⟨w.heap.size, Nat.le_refl _, e⟩)
    unfold OwnsS strs
    rw [List.length_append, List.map_append]
    exact ho'
  unfold Oper.wp
  simp [execOp, ho, resolve, invoke, builtin, hs, hx, hrun, Result.andThen]
  exact hK
def lists (l : List ByteArray) : List (List UInt8) := l.map fun s => s.data.toList
/-- What header tells. -/
def HeadEnd (w : World) (l : List UInt8) (r : Ending) (w' : World) : Prop := Below w.heap.size w w' ∧ ((Pg.header l = none ∧ ∃ v, r = .returned (.tuple #[v, .bool false])) ∨ ∃ ks ss vk vs B, Pg.header l = some (lists ks, lists ss) ∧ r = .returned (.tuple #[.agg #[vk, vs], .bool true]) ∧ OwnsS B w' vk ks ∧ OwnsS B w' vs ss)
theorem header_no {l : List UInt8} (h : Pg.hdrHead l = false) : Pg.header l = none := by unfold Pg.header; rw [if_neg (by rw [h]; decide)]
theorem cell_new (w : World) (s : ByteArray) (T : TypeId) : ((w.alloc (.cells #[.string s] T)).drew).cell? ⟨w.heap.size, 0, none⟩ = some (.string s) := by
  show (w.alloc (.cells #[.string s] T)).cell? ⟨w.heap.size, 0, none⟩ = _
  unfold World.cell?
  rw [heap_alloc_new w]
  rfl
theorem less_is : ∀ (x y : List UInt8), Op.bytesLess x y = decide (x < y)
  | [], [] => by simp [Op.bytesLess]
  | [], _ :: _ => by simp [Op.bytesLess]
  | _ :: _, [] => by simp [Op.bytesLess]
  | a :: x, b :: y => by
    rw [Op.bytesLess, less_is x y]
    by_cases hab : a = b
    · subst hab; simp
    · simp [List.cons_lt_cons_iff, hab]
theorem lists_snoc (l : List ByteArray) (s : ByteArray) : lists (l ++ [s]) = lists l ++ [s.data.toList] := by simp [lists]
end Go.Proofs.YtolgpnaoaodepaaGreat
namespace Go.Proofs.YtolgpnaoaodepaaGreat.Pg
open Go.RowKit
def isKey (n : Nat) : Bool := decide (1 ≤ n) && decide (n ≤ 12)
def isChange (k : Int) (key val : Nat) : Bool := isKey key && decide (val ≤ 16) && (decide (k = 1) || decide (k = 3) || (decide (k = 2) && decide (val = 0)))
/-- Items behind a key: each may be, and they rise. -/
def rises : Option (List UInt8) → List UInt8 → Bool
  | none, _ => true
  | some q, k => decide (q < k)
def okList : List (List UInt8 × List UInt8) → Option (List UInt8) → Bool
  | [], _ => true
  | x :: r, p => isKey x.1.length && decide (x.2.length ≤ 16) && rises p x.1 && okList r (some x.1)
def okFrom (p : Option (List UInt8)) (l : List (List UInt8 × List UInt8)) : Bool := okList l p
theorem ok_cons (p : Option (List UInt8)) (k v : List UInt8) (r : List (List UInt8 × List UInt8)) : okFrom p ((k, v) :: r) = (isKey k.length && decide (v.length ≤ 16) && rises p k && okFrom (some k) r) := rfl
end Go.Proofs.YtolgpnaoaodepaaGreat.Pg
namespace Go.Proofs.YtolgpnaoaodepaaGreat
open Go.RowKit
/-- The key ahead of place i. -/
def prevKey (l : List (List UInt8 × List UInt8)) (i : Nat) : Option (List UInt8) := if i = 0 then none else (l[i - 1]?).map (·.1)
theorem node_cells {w : World} {b : Nat} {v0 v1 v2 v3 v4 : Value} (h : w.heap[b]? = some (.cells #[v0, v1, v2, v3, v4] 79 (0, 0))) : w.cell? ⟨b, 0, none⟩ = some v0 ∧ w.cell? ⟨b, 1, none⟩ = some v1 ∧ w.cell? ⟨b, 2, none⟩ = some v2 ∧ w.cell? ⟨b, 3, none⟩ = some v3 ∧ w.cell? ⟨b, 4, none⟩ = some v4 := by
  refine ⟨?_, ?_, ?_, ?_, ?_⟩ <;> simp [World.cell?, h]
end Go.Proofs.YtolgpnaoaodepaaGreat
namespace Go.Proofs.YtolgpnaoaodepaaGreat.Pg
open Go.RowKit
def okPivots : List (List UInt8) → Option (List UInt8) → Bool
  | [], _ => true
  | x :: r, p => isKey x.length && rises p x && okPivots r (some x)
def okChild (c : Int) : Bool := decide (0 ≤ c) && decide (c ≤ 2147483647)
def okChange (c : Int × List UInt8 × List UInt8) : Bool := isChange c.1 c.2.1.length c.2.2.length
end Go.Proofs.YtolgpnaoaodepaaGreat.Pg
namespace Go.Proofs.YtolgpnaoaodepaaGreat
open Go.RowKit
/-- A slice value whose cells lie there. -/
def IsRow (w : World) (v : Value) (n : Nat) (cs : List Value) : Prop := ∃ a cap, v = .slice a n cap ∧ n ≤ 1000000000 ∧ (n = 0 ∨ ∃ b off, a = some ⟨b, off, none⟩ ∧ b < w.heap.size ∧ ∀ i (h : i < cs.length), w.cell? ⟨b, off + i, none⟩ = some (cs[i]'h))
def prevOf (l : List (List UInt8)) (i : Nat) : Option (List UInt8) := if i = 0 then none else l[i - 1]?
/-- A slice value whose changes lie there. -/
def ChsAt (w : World) (b off : Nat) (l : List (Int × ByteArray × ByteArray)) : Prop := ∀ i (h : i < l.length), w.cell? ⟨b, off + i * 3, none⟩ = some (.int .i64 (l[i]'h).1) ∧ w.cell? ⟨b, off + i * 3 + 1, none⟩ = some (.string (l[i]'h).2.1) ∧ w.cell? ⟨b, off + i * 3 + 2, none⟩ = some (.string (l[i]'h).2.2)
theorem ChsAt.below {w w' : World} {b off B : Nat} {l : List (Int × ByteArray × ByteArray)} (h : ChsAt w b off l) (hb : Below B w w') (hlt : b < B) : ChsAt w' b off l := fun i hi => by
  rw [hb.cell (p := ⟨b, _, none⟩) hlt, hb.cell (p := ⟨b, _, none⟩) hlt, hb.cell (p := ⟨b, _, none⟩) hlt]; exact h i hi
def IsChs (w : World) (v : Value) (l : List (Int × ByteArray × ByteArray)) : Prop := ∃ a cap, v = .slice a l.length cap ∧ l.length ≤ 1000000000 ∧ (l.length = 0 ∨ ∃ b off, a = some ⟨b, off, none⟩ ∧ b < w.heap.size ∧ ChsAt w b off l)
def plainCh (l : List (Int × ByteArray × ByteArray)) : List (Int × List UInt8 × List UInt8) := l.map fun c => (c.1, c.2.1.data.toList, c.2.2.data.toList)
theorem rowAt {w wr : World} {b off : Nat} {pl : List ByteArray} (h : ∀ i (h : i < (pl.map Value.string).length), w.cell? ⟨b, off + i, none⟩ = some ((pl.map Value.string)[i]'h)) (hb : Below w.heap.size w wr) (hlt : b < w.heap.size) (k : Nat) (hk : k < pl.length) : wr.cell? ⟨b, off + k, none⟩ = some (.string (pl[k]'hk)) := by
  rw [hb.cell (p := ⟨b, _, none⟩) hlt, h k (by simpa using hk)]; simp
theorem rowAtI {w wr : World} {b off : Nat} {pl : List Int} (h : ∀ i (h : i < (pl.map (Value.int .i64)).length), w.cell? ⟨b, off + i, none⟩ = some ((pl.map (Value.int .i64))[i]'h)) (hb : Below w.heap.size w wr) (hlt : b < w.heap.size) (k : Nat) (hk : k < pl.length) : wr.cell? ⟨b, off + k, none⟩ = some (.int .i64 (pl[k]'hk)) := by
  rw [hb.cell (p := ⟨b, _, none⟩) hlt, h k (by simpa using hk)]; simp
end Go.Proofs.YtolgpnaoaodepaaGreat
namespace Go.Proofs.YtolgpnaoaodepaaGreat.Pg
open Go.RowKit
def change1 (c : Int × List UInt8 × List UInt8) : List UInt8 := low c.1.toNat 1 ++ text c.2.1 ++ (if c.1 = 2 then [] else text c.2.2)
def changes (l : List (Int × List UInt8 × List UInt8)) : List UInt8 := low l.length 1 ++ l.flatMap change1
def pivotsC (cl : List Nat) (pl : List (List UInt8)) : List UInt8 := cl.flatMap num ++ pl.flatMap text
def branchP (cl : List Nat) (pl : List (List UInt8)) : List UInt8 := section_ [112] (pivotsC cl pl)
def branchM (ml : List (Int × List UInt8 × List UInt8)) : List UInt8 := section_ [109] (changes ml)
def branch (cl : List Nat) (pl : List (List UInt8)) (ml : List (Int × List UInt8 × List UInt8)) : List UInt8 :=
  sealed ([83, 50, 73] ++ low cl.length 1 ++ low (branchP cl pl).length 2 ++ low (branchM ml).length 2 ++ List.replicate 56 0) ++ branchP cl pl ++ branchM ml
end Go.Proofs.YtolgpnaoaodepaaGreat.Pg
namespace Go.Proofs.YtolgpnaoaodepaaGreat
open Go.RowKit
theorem rowAtN {w wr : World} {b off : Nat} {pl : List Nat} (h : ∀ i (h : i < (pl.map fun (c : Nat) => Value.int .i64 (c : Int)).length), w.cell? ⟨b, off + i, none⟩ = some ((pl.map fun (c : Nat) => Value.int .i64 (c : Int))[i]'h)) (hb : Below w.heap.size w wr) (hlt : b < w.heap.size) (k : Nat) (hk : k < pl.length) : wr.cell? ⟨b, off + k, none⟩ = some (.int .i64 ((pl[k]'hk : Nat) : Int)) := by
  rw [hb.cell (p := ⟨b, _, none⟩) hlt, h k (by simpa using hk)]; simp
theorem IsChs.below {w w' : World} {v : Value} {l : List (Int × ByteArray × ByteArray)} (h : IsChs w v l) (hb : Below w.heap.size w w') : IsChs w' v l := by
  obtain ⟨a, c, h1, h2, h3⟩ := h
  refine ⟨a, c, h1, h2, h3.imp_right ?_⟩
  rintro ⟨b, off, e, hlt, hc⟩
  exact ⟨b, off, e, Nat.lt_of_lt_of_le hlt hb.size, hc.below hb hlt⟩
theorem plainCh_sz {l : List (Int × ByteArray × ByteArray)} (h : ∀ x ∈ l, (0 ≤ x.1 ∧ x.1 ≤ 1000) ∧ x.2.1.size ≤ 12 ∧ x.2.2.size ≤ 16) : ∀ x ∈ plainCh l, x.2.1.length ≤ 12 ∧ x.2.2.length ≤ 16 := by
  intro x hx
  simp only [plainCh, List.mem_map] at hx
  obtain ⟨y, hy, rfl⟩ := hx
  have := (h y hy).2
  simp only [len_size]; exact this
theorem changesLen (l : List (Int × List UInt8 × List UInt8)) (h : ∀ x ∈ l, x.2.1.length ≤ 12 ∧ x.2.2.length ≤ 16) : (Pg.changes l).length ≤ 1 + l.length * 60 := by
  unfold Pg.changes
  rw [List.length_append, Pg.low_len]
  have : (l.flatMap Pg.change1).length ≤ l.length * 60 := by
    induction l with
    | nil => simp
    | cons x r ih =>
      rw [List.flatMap_cons, List.length_append, List.length_cons]
      have hx := h x (by simp)
      have hr := ih fun y hy => h y (by simp [hy])
      have h1 := text_len x.2.1 (by omega)
      have h2 := text_len x.2.2 (by omega)
      have : (Pg.change1 x).length ≤ 60 := by
        unfold Pg.change1
        rw [List.length_append, List.length_append, Pg.low_len]
        split
        · simp; omega
        · omega
      omega
  omega
end Go.Proofs.YtolgpnaoaodepaaGreat
namespace Go.Proofs.YtolgpnaoaodepaaGreat.Pg
open Go.RowKit
def oldBranch (cl : List Nat) (pl : List (List UInt8)) (ml : List (Int × List UInt8 × List UInt8)) : List UInt8 :=
  sealed ([83, 49, 73] ++ low cl.length 1 ++ cl.flatMap (fun c => low c 4) ++ pl.flatMap text ++ changes ml)
/-- Is it a node? -/
def well (kd : Int) (il : List (List UInt8 × List UInt8)) (cl : List Int) (pl : List (List UInt8)) (ml : List (Int × List UInt8 × List UInt8)) : Bool :=
  if kd = 1 then okFrom none il && decide (il.length ≤ 16) && decide (cl.length = 0) && decide (pl.length = 0) && decide (ml.length = 0)
  else okPivots pl none && cl.all okChild && ml.all okChange && decide (kd = 2) && decide (il.length = 0) && decide (1 ≤ cl.length) && decide (cl.length ≤ 4) && decide (pl.length + 1 = cl.length) && decide (ml.length ≤ 8)
def page (kd : Int) (il : List (List UInt8 × List UInt8)) (cl : List Int) (pl : List (List UInt8)) (ml : List (Int × List UInt8 × List UInt8)) : List UInt8 := if kd = 2 then branch (cl.map Int.toNat) pl ml else leaf il
def write (kd : Int) (il : List (List UInt8 × List UInt8)) (cl : List Int) (pl : List (List UInt8)) (ml : List (Int × List UInt8 × List UInt8)) : List UInt8 × Int := if well kd il cl pl ml = true then (page kd il cl pl ml, 0) else ([], 1)
theorem isKey_le {n : Nat} (h : isKey n = true) : n ≤ 12 := by simp [isKey] at h; exact h.2
theorem okList_sz : ∀ (l : List (List UInt8 × List UInt8)) (p : Option (List UInt8)), okList l p = true → ∀ x ∈ l, x.1.length ≤ 12 ∧ x.2.length ≤ 16
  | [], _, _, x, hx => by simp at hx
  | y :: r, p, h, x, hx => by
    simp only [okList, Bool.and_eq_true, decide_eq_true_eq] at h
    rcases List.mem_cons.1 hx with rfl | hx
    · exact ⟨isKey_le h.1.1.1, h.1.1.2⟩
    · exact okList_sz r _ h.2 x hx
theorem okPivots_sz : ∀ (l : List (List UInt8)) (p : Option (List UInt8)), okPivots l p = true → ∀ x ∈ l, x.length ≤ 12
  | [], _, _, x, hx => by simp at hx
  | y :: r, p, h, x, hx => by
    simp only [okPivots, Bool.and_eq_true] at h
    rcases List.mem_cons.1 hx with rfl | hx
    · exact isKey_le h.1.1
    · exact okPivots_sz r _ h.2 x hx
end Go.Proofs.YtolgpnaoaodepaaGreat.Pg
namespace Go.Proofs.YtolgpnaoaodepaaGreat
open Go.RowKit
/-- A node value whose rows lie there. -/
def IsNode (w : World) (v : Value) (kd : Int) (il : List (ByteArray × ByteArray)) (cl : List Int) (pl : List ByteArray) (ml : List (Int × ByteArray × ByteArray)) : Prop :=
  ∃ v1 v2 v3 v4, v = .agg #[.int .i64 kd, v1, v2, v3, v4] ∧ IsItems w v1 il ∧ il.length ≤ 1000000000 ∧ IsRow w v2 cl.length (cl.map (.int .i64)) ∧ IsRow w v3 pl.length (pl.map .string) ∧ IsChs w v4 ml
theorem IsItems.below {w w' : World} {v : Value} {l : List (ByteArray × ByteArray)} (h : IsItems w v l) (hb : Below w.heap.size w w') : IsItems w' v l := by
  rcases h with h | ⟨b, off, cap, h1, h2, h3, h4, h5⟩
  · exact .inl h
  · exact .inr ⟨b, off, cap, h1, h2, h3, Nat.lt_of_lt_of_le h4 hb.size, h5.below hb h4⟩
theorem IsItems.shape {w : World} {v : Value} {l : List (ByteArray × ByteArray)} (h : IsItems w v l) : ∃ a cap, v = .slice a l.length cap := by
  rcases h with ⟨a, cap, rfl, rfl⟩ | ⟨b, off, cap, rfl, _⟩
  · exact ⟨_, _, rfl⟩
  · exact ⟨_, _, rfl⟩
theorem IsRow.below {w w' : World} {v : Value} {n : Nat} {cs : List Value} (h : IsRow w v n cs) (hb : Below w.heap.size w w') : IsRow w' v n cs := by
  obtain ⟨a, cap, h1, h2, h3⟩ := h
  refine ⟨a, cap, h1, h2, h3.imp_right ?_⟩
  rintro ⟨b, off, e, hlt, hc⟩
  exact ⟨b, off, e, Nat.lt_of_lt_of_le hlt hb.size, fun i hi => by rw [hb.cell (p := ⟨b, _, none⟩) hlt]; exact hc i hi⟩
theorem IsNode.below {w w' : World} {v : Value} {kd : Int} {il : List (ByteArray × ByteArray)} {cl : List Int} {pl : List ByteArray} {ml : List (Int × ByteArray × ByteArray)} (h : IsNode w v kd il cl pl ml) (hb : Below w.heap.size w w') : IsNode w' v kd il cl pl ml := by
  obtain ⟨v1, v2, v3, v4, e, h1, h2, h3, h4, h5⟩ := h
  exact ⟨v1, v2, v3, v4, e, h1.below hb, h2, h3.below hb, h4.below hb, h5.below hb⟩
/-- append(v, x), x a value of some cells that lies in a new block of its own. -/
theorem wpApG (w : World) {ops : Array Oper} {rest : List Oper} {o : Oper} {a : Act} {Q : Exit → Act → World → Prop} (hgd : o.guard = none) (sl x : Operand) (t e : TypeId) (ht : Tryz.prog.underlying t = some (.slice e))
    (z : Value) (size bytes : Nat) (hinfo : (Tryz.prog.info? e).map (fun i => (i.zero, i.size, i.bytes)) = some (some z, size, bytes)) (hzs : z.cells.size = size) (hsp : 0 < size) (hby : bytes ≤ 1000)
    (ho : o.op = Op.call { callee := Callee.builtin Builtin.append, args := #[sl, x], argTypes := #[t, t] }) (B : Nat) (v : Value) (n : Nat) (xs : List Value) (hs : a.eval sl = v) (hown : w.ownsRow B e size v n xs)
    (news : List Value) (hnl : news.length = size) (hone : ∀ u ∈ news, u.oneCell' = true) (hx : a.eval x = .slice (some ⟨w.heap.size, 0, none⟩) 1 1) (hb : n + 1 ≤ 1000000000) (hB : B ≤ w.heap.size)
    (h : ∀ (v' : Value) (w' : World), w'.ownsRow B e size v' (n + 1) (xs ++ news) → w.grownBy w' v.ownBlock → (v'.ownBlock = v.ownBlock ∨ ∃ k, w.heap.size ≤ k ∧ v'.ownBlock = some k) → wpList Tryz.prog ops Q rest (a.put o.dst v') w') : wpList Tryz.prog ops Q (o :: rest) a (w.alloc (.cells news.toArray e)) := by
  obtain ⟨i, hi, hz0, hz1, hz2⟩ := info_parts hinfo
  refine wpList_append_own_at (w.alloc (.cells news.toArray e)) hgd sl x t ho B e i z size bytes ht hi hz0 hz1 hz2 hzs hsp v n xs hs (hown.alloc _) ⟨w.heap.size, 0, none⟩ 1 1 news hx (by omega) ?_ hone (by unfold maxLen; omega) (by have : (n + 1) * bytes ≤ 1000000000 * 1000 := Nat.mul_le_mul hb hby; omega) (by simp; omega) ?_
  · intro j u hj
    have hc : (w.alloc (.cells news.toArray e)).heap[w.heap.size]? = some (.cells news.toArray e (0, 0)) := heap_alloc_new _ _
    have : (⟨w.heap.size, 0, none⟩ : Addr).add j = ⟨w.heap.size, j, none⟩ := by
      by_cases h0 : j = 0
      · subst h0; simp [Addr.add]
      · simp [Addr.add, h0]
    rw [this]
    unfold World.cell?
    rw [hc]
    simpa using hj
  intro v' w' ho' hg _ hat
  exact h v' w' ho' (grown_after_alloc hg) (hat.imp_right fun e => ⟨w.heap.size + 1, by omega, by simpa using e⟩)
/-- Items that a call owns. -/
def icells (l : List (ByteArray × ByteArray)) : List Value := l.flatMap fun x => [.string x.1, .string x.2]
def OwnsI (B : Nat) (w : World) (v : Value) (l : List (ByteArray × ByteArray)) : Prop := w.ownsRow B 51 2 v l.length (icells l)
theorem info_item : (Tryz.prog.info? 51).map (fun i => (i.zero, i.size, i.bytes)) = some (some (.agg #[.string ⟨#[]⟩, .string ⟨#[]⟩]), 2, 32) := by kernel_rfl
/-- Changes that a call owns. -/
def ccells (l : List (Int × ByteArray × ByteArray)) : List Value := l.flatMap fun x => [.int .i64 x.1, .string x.2.1, .string x.2.2]
def OwnsC (B : Nat) (w : World) (v : Value) (l : List (Int × ByteArray × ByteArray)) : Prop := w.ownsRow B 34 3 v l.length (ccells l)
theorem info_change : (Tryz.prog.info? 34).map (fun i => (i.zero, i.size, i.bytes)) = some (some (.agg #[.int .i64 0, .string ⟨#[]⟩, .string ⟨#[]⟩]), 3, 40) := by kernel_rfl
/-- Numbers that a call owns. -/
def OwnsN (B : Nat) (w : World) (v : Value) (l : List Int) : Prop := w.ownsRow B 3 1 v l.length (l.map (.int .i64))
theorem info_int : (Tryz.prog.info? 3).map (fun i => (i.zero, i.size, i.bytes)) = some (some (.int .i64 0), 1, 8) := by kernel_rfl
theorem icells_snoc (l : List (ByteArray × ByteArray)) (x : ByteArray × ByteArray) : icells (l ++ [x]) = icells l ++ [.string x.1, .string x.2] := by simp [icells]
theorem ccells_snoc (l : List (Int × ByteArray × ByteArray)) (x : Int × ByteArray × ByteArray) : ccells (l ++ [x]) = ccells l ++ [.int .i64 x.1, .string x.2.1, .string x.2.2] := by simp [ccells]
theorem icells_at : ∀ (l : List (ByteArray × ByteArray)) (i : Nat) (h : i < l.length), (icells l)[i * 2]? = some (.string (l[i]'h).1) ∧ (icells l)[i * 2 + 1]? = some (.string (l[i]'h).2)
  | [], i, h => by simp at h
  | x :: r, 0, h => by simp [icells]
  | x :: r, i + 1, h => by
    have := icells_at r i (by simpa using h)
    have e : icells (x :: r) = .string x.1 :: .string x.2 :: icells r := rfl
    rw [e, show (i + 1) * 2 = i * 2 + 1 + 1 by omega]
    simpa using this
theorem ccells_at : ∀ (l : List (Int × ByteArray × ByteArray)) (i : Nat) (h : i < l.length), (ccells l)[i * 3]? = some (.int .i64 (l[i]'h).1) ∧ (ccells l)[i * 3 + 1]? = some (.string (l[i]'h).2.1) ∧ (ccells l)[i * 3 + 2]? = some (.string (l[i]'h).2.2)
  | [], i, h => by simp at h
  | x :: r, 0, h => by simp [ccells]
  | x :: r, i + 1, h => by
    have := ccells_at r i (by simpa using h)
    have e : ccells (x :: r) = .int .i64 x.1 :: .string x.2.1 :: .string x.2.2 :: ccells r := rfl
    rw [e, show (i + 1) * 3 = i * 3 + 1 + 1 + 1 by omega]
    simpa using this
theorem add_at (g j : Nat) : (⟨g, 0, none⟩ : Addr).add j = ⟨g, j, none⟩ := by
  by_cases h0 : j = 0
  · subst h0; simp [Addr.add]
  · simp [Addr.add, h0]
/-- Such a row is one whose items lie there. -/
theorem OwnsI.isItems {B : Nat} {w : World} {v : Value} {l : List (ByteArray × ByteArray)} (h : OwnsI B w v l) : (∃ a cap, v = .slice a 0 cap ∧ l = []) ∨ ∃ g cap, v = .slice (some ⟨g, 0, none⟩) l.length cap ∧ l.length ≤ cap ∧ B ≤ g ∧ g < w.heap.size ∧ ItemsAt w g 0 l := by
  rcases h.2 with ⟨rfl, hn⟩ | ⟨g, cap, cur, rfl, hb, hg, hc, _⟩
  · exact .inl ⟨none, 0, rfl, List.length_eq_zero_iff.1 hn⟩
  · refine .inr ⟨g, cap, rfl, hc, hb, (Array.getElem?_eq_some_iff.1 hg).1, fun i hi => ?_⟩
    obtain ⟨q1, q2⟩ := icells_at l i hi
    have c1 := World.ownsRow.cells h (g := g) rfl _ _ q1
    have c2 := World.ownsRow.cells h (g := g) rfl _ _ q2
    rw [add_at] at c1 c2
    simpa using ⟨c1, c2⟩
theorem OwnsC.isChs {B : Nat} {w : World} {v : Value} {l : List (Int × ByteArray × ByteArray)} (h : OwnsC B w v l) (hl : l.length ≤ 1000000000) : IsChs w v l := by
  rcases h.2 with ⟨rfl, hn⟩ | ⟨g, cap, cur, rfl, hb, hg, hc, _⟩
  · exact ⟨none, 0, by rw [hn], hl, .inl hn⟩
  · refine ⟨_, cap, rfl, hl, .inr ⟨g, 0, rfl, (Array.getElem?_eq_some_iff.1 hg).1, fun i hi => ?_⟩⟩
    obtain ⟨q1, q2, q3⟩ := ccells_at l i hi
    have c1 := World.ownsRow.cells h (g := g) rfl _ _ q1
    have c2 := World.ownsRow.cells h (g := g) rfl _ _ q2
    have c3 := World.ownsRow.cells h (g := g) rfl _ _ q3
    rw [add_at] at c1 c2 c3
    simpa using ⟨c1, c2, c3⟩
theorem ownsRow.isRow {B : Nat} {w : World} {T : TypeId} {v : Value} {n : Nat} {cs : List Value} (h : w.ownsRow B T 1 v n cs) (hl : n ≤ 1000000000) : IsRow w v n cs := by
  rcases h.2 with ⟨rfl, hn⟩ | ⟨g, cap, cur, rfl, hb, hg, hc, _⟩
  · exact ⟨none, 0, by rw [hn], hl, .inl hn⟩
  · refine ⟨_, cap, rfl, hl, .inr ⟨g, 0, rfl, (Array.getElem?_eq_some_iff.1 hg).1, fun i hi => ?_⟩⟩
    have c1 := World.ownsRow.cells h (g := g) rfl i _ (List.getElem?_eq_getElem hi)
    rw [add_at] at c1
    simpa using c1
end Go.Proofs.YtolgpnaoaodepaaGreat
namespace Go.Proofs.YtolgpnaoaodepaaGreat.Pg
open Go.RowKit
def rdChange (c : Cur) : (Int × List UInt8 × List UInt8) × Cur :=
  if c.byte = 2 then (((c.byte : Int), ((c.take 1).2.text 12).1, []), ((c.take 1).2.text 12).2)
  else (((c.byte : Int), ((c.take 1).2.text 12).1, (((c.take 1).2.text 12).2.text 16).1), (((c.take 1).2.text 12).2.text 16).2)
def rdChanges : Nat → Cur → List (Int × List UInt8 × List UInt8) × Cur
  | 0, c => ([], c)
  | n + 1, c => if c.bad = true then ([], c) else ((rdChange c).1 :: (rdChanges n (rdChange c).2).1, (rdChanges n (rdChange c).2).2)
end Go.Proofs.YtolgpnaoaodepaaGreat.Pg
namespace Go.Proofs.YtolgpnaoaodepaaGreat
open Go.RowKit
theorem OwnsC.but {B b : Nat} {w w' : World} {v : Value} {l : List (Int × ByteArray × ByteArray)} (h : OwnsC B w v l) (hg : But b w w') (hb : b < B) : OwnsC B w' v l := by
  refine World.ownsRow.kept h hg ?_
  cases e : v.ownBlock with
  | none => exact .inl rfl
  | some k => exact .inr (fun e' => by have := (World.ownsRow.lt h k e).1; simp at e'; omega)
theorem setSize (w : World) (a : Addr) (v : Value) : (w.setCell a v).heap.size = w.heap.size := by simp [World.setCell]
theorem one3 (k : Int) (s t : ByteArray) : ∀ u ∈ ([.int .i64 k, .string s, .string t] : List Value), u.oneCell' = true := by
  intro u hu
  simp at hu
  rcases hu with rfl | rfl | rfl <;> rfl
theorem plainCh_snoc (l : List (Int × ByteArray × ByteArray)) (x : Int × ByteArray × ByteArray) : plainCh (l ++ [x]) = plainCh l ++ [(x.1, x.2.1.data.toList, x.2.2.data.toList)] := by simp [plainCh]
theorem rowShape {B : Nat} {w : World} {T : TypeId} {sz : Nat} {v : Value} {n : Nat} {xs : List Value} (h : w.ownsRow B T sz v n xs) : ∃ a cap, v = .slice a n cap := by
  rcases h.2 with ⟨rfl, hn⟩ | ⟨g, cap, cur, rfl, _⟩
  · exact ⟨none, 0, by rw [hn]⟩
  · exact ⟨_, _, rfl⟩
end Go.Proofs.YtolgpnaoaodepaaGreat
