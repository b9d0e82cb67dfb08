/- A tree's node in memory; what finds its way in it. -/
import Derived.Test.YtolgpnaoaodepaaGreatLawSm
import Derived.Test.YtolgpnaoaodepaaGreatWalkMm
import Derived.Test.YtolgpnaoaodepaaGreatAidm
import Derived.Lib.Overlaps
import Derived.Lib.AppendZerosOnto
namespace Go.Proofs.YtolgpnaoaodepaaGreat
open Go.RowKit

/-- A node: its three lists. -/
def NodT (w : World) (p : Nat) (vi vp vc : Value) : Prop := w.heap[p]? = some (.cells #[vi, vp, vc] 123 (0, 0))
theorem NodT.cells {w : World} {p : Nat} {vi vp vc : Value} (h : NodT w p vi vp vc) : w.cell? ⟨p, 0, none⟩ = some vi ∧ w.cell? ⟨p, 1, none⟩ = some vp ∧ w.cell? ⟨p, 2, none⟩ = some vc ∧ w.frozen? ⟨p, 0, none⟩ = false ∧ w.frozen? ⟨p, 1, none⟩ = false ∧ w.frozen? ⟨p, 2, none⟩ = false := by
  unfold NodT at h
  refine ⟨?_, ?_, ?_, ?_, ?_, ?_⟩ <;> simp [World.cell?, World.frozen?, h]
theorem NodT.lt {w : World} {p : Nat} {vi vp vc : Value} (h : NodT w p vi vp vc) : p < w.heap.size := (Array.getElem?_eq_some_iff.1 h).1
/-- A part's two cells. -/
def pcells : List (ByteArray × Nat) → List Value
  | [] => []
  | x :: r => [.string x.1, .pointer (some ⟨x.2, 0, none⟩)] ++ pcells r
theorem pcells_len : ∀ l : List (ByteArray × Nat), (pcells l).length = l.length * 2
  | [] => rfl
  | x :: r => by rw [pcells, List.length_append, pcells_len r]; simp; omega
theorem pcells_append : ∀ a b : List (ByteArray × Nat), pcells (a ++ b) = pcells a ++ pcells b
  | [], _ => rfl
  | x :: r, b => by rw [List.cons_append, pcells, pcells, pcells_append r b]; simp
theorem pcells_at : ∀ (l : List (ByteArray × Nat)) (i : Nat) (h : i < l.length), (pcells l)[i * 2]? = some (.string (l[i]'h).1) ∧ (pcells l)[i * 2 + 1]? = some (.pointer (some ⟨(l[i]'h).2, 0, none⟩))
  | x :: r, 0, _ => ⟨rfl, rfl⟩
  | x :: r, i + 1, h => by
    obtain ⟨q1, q2⟩ := pcells_at r i (by simpa using h)
    rw [pcells, show (i + 1) * 2 = i * 2 + 2 by omega]
    exact ⟨by simpa using q1, by simpa using q2⟩
/-- A row of parts of its own. -/
def OwnsP (B : Nat) (w : World) (v : Value) (l : List (ByteArray × Nat)) : Prop := w.ownsRow B 132 2 v l.length (pcells l)
theorem OwnsP.at {B : Nat} {w : World} {v : Value} {l : List (ByteArray × Nat)} (h : OwnsP B w v l) (i : Nat) (hi : i < l.length) : ∃ g cap, v = .slice (some ⟨g, 0, none⟩) l.length cap ∧ l.length ≤ cap ∧ B ≤ g ∧ g < w.heap.size ∧ w.cell? ⟨g, i * 2, none⟩ = some (.string (l[i]'hi).1) ∧ w.cell? ⟨g, i * 2 + 1, none⟩ = some (.pointer (some ⟨(l[i]'hi).2, 0, none⟩)) := by
  rcases h.2 with ⟨_, hn⟩ | ⟨g, cap, cur, rfl, hb, hg, hc, _⟩
  · omega
  · obtain ⟨q1, q2⟩ := pcells_at l i hi
    have c1 := World.ownsRow.cells h (g := g) rfl _ _ q1
    have c2 := World.ownsRow.cells h (g := g) rfl _ _ q2
    rw [add_at] at c1 c2
    exact ⟨g, cap, rfl, hc, hb, (Array.getElem?_eq_some_iff.1 hg).1, by simpa using c1, by simpa using c2⟩
theorem OwnsI.at {B : Nat} {w : World} {v : Value} {l : List (ByteArray × ByteArray)} (h : OwnsI B w v l) (i : Nat) (hi : i < l.length) : ∃ g cap, v = .slice (some ⟨g, 0, none⟩) l.length cap ∧ l.length ≤ cap ∧ B ≤ g ∧ g < w.heap.size ∧ w.cell? ⟨g, i * 2, none⟩ = some (.string (l[i]'hi).1) ∧ w.cell? ⟨g, i * 2 + 1, none⟩ = some (.string (l[i]'hi).2) := by
  rcases h.2 with ⟨_, hn⟩ | ⟨g, cap, cur, rfl, hb, hg, hc, _⟩
  · omega
  · obtain ⟨q1, q2⟩ := icells_at l i hi
    have c1 := World.ownsRow.cells h (g := g) rfl _ _ q1
    have c2 := World.ownsRow.cells h (g := g) rfl _ _ q2
    rw [add_at] at c1 c2
    exact ⟨g, cap, rfl, hc, hb, (Array.getElem?_eq_some_iff.1 hg).1, by simpa using c1, by simpa using c2⟩
set_option maxHeartbeats 1000000 in
theorem tIsLeaf_any (p : Nat) (vi vc : Value) (a : Option Addr) (n cap : Nat) (w : World) (h : NodT w p vi (.slice a n cap) vc) :
    Calls Tryz.prog 76 #[.pointer (some ⟨p, 0, none⟩)] w fun r w' => r = .returned (.bool (decide (n = 0))) ∧ w' = w := by
  obtain ⟨c0, c1, c2, -⟩ := h.cells
  have e : ((n : Int) == 0) = decide (n = 0) := by by_cases q : n = 0 <;> simp [q]
  go_enter Tryz.func76, Tryz.ntmps76
  go_wp2
  go_ret
  exact ⟨by simp, rfl⟩
set_option maxHeartbeats 1000000 in
theorem tIsIdle_any (p : Nat) (vi : Value) (a a' : Option Addr) (n cap n' cap' : Nat) (w : World) (h : NodT w p vi (.slice a n cap) (.slice a' n' cap')) :
    Calls Tryz.prog 65 #[.pointer (some ⟨p, 0, none⟩)] w fun r w' => r = .returned (.bool (decide (n = 1) && decide (n' = 0))) ∧ w' = w := by
  obtain ⟨c0, c1, c2, -⟩ := h.cells
  by_cases hn : n = 1
  · subst hn
    have e : ((n' : Int) == 0) = decide (n' = 0) := by by_cases q : n' = 0 <;> simp [q]
    go_enter Tryz.func65, Tryz.ntmps65
    go_wp2
    go_ret
    exact ⟨by simp, rfl⟩
  · have hn' : ((n : Int) == 1) = false := by simp; omega
    go_enter Tryz.func65, Tryz.ntmps65
    go_wp2
    go_ret
    exact ⟨by simp [hn], rfl⟩
theorem less_yes {a b : ByteArray} (h : a.data.toList < b.data.toList) : Op.bytesLess a.toList b.toList = true := by rw [toList_is, toList_is, less_is]; exact decide_eq_true h
theorem less_no {a b : ByteArray} (h : ¬ a.data.toList < b.data.toList) : Op.bytesLess a.toList b.toList = false := by rw [toList_is, toList_is, less_is]; exact decide_eq_false h
theorem eq_no {a b : ByteArray} (h : ¬ a = b) : (a.toList == b.toList) = false := by
  rw [toList_is, toList_is]
  exact beq_false_of_ne fun q => h (bytes_ext q)
theorem ne_of_lt {a b : ByteArray} (h : a.data.toList < b.data.toList) : ¬ b = a := by rintro rfl; exact Tr.lt_ir _ h
theorem ix_drop (l : List (List UInt8)) (k : List UInt8) (j : Nat) (hj : j + 1 < l.length) (hk : ¬ k < l[j + 1]) : Tr.ix (l.drop j) k = Tr.ix (l.drop (j + 1)) k + 1 := by
  rw [List.drop_eq_getElem_cons (by omega : j < l.length), List.drop_eq_getElem_cons hj, Tr.ix, if_neg hk]
theorem ix_stop (l : List (List UInt8)) (k : List UInt8) (j : Nat) (hj : j + 1 < l.length) (hk : k < l[j + 1]) : Tr.ix (l.drop j) k = 0 := by
  rw [List.drop_eq_getElem_cons (by omega : j < l.length), List.drop_eq_getElem_cons hj, Tr.ix, if_pos hk]
theorem ix_last (l : List (List UInt8)) (k : List UInt8) (j : Nat) (hj : l.length ≤ j + 1) : Tr.ix (l.drop j) k = 0 := by
  by_cases h : j < l.length
  · rw [List.drop_eq_getElem_cons h, List.drop_of_length_le hj, Tr.ix]
  · rw [List.drop_of_length_le (by omega), Tr.ix]
def pkeys (l : List (ByteArray × Nat)) : List (List UInt8) := l.map fun x => x.1.data.toList
set_option maxHeartbeats 1000000 in
set_option maxRecDepth 20000 in
theorem tFind_any (p B : Nat) (vi vp vc : Value) (ps : List (ByteArray × Nat)) (key : ByteArray) (w : World) (h : NodT w p vi vp vc) (hp : OwnsP B w vp ps) (hl : ps.length ≤ 1000000000) :
    Calls Tryz.prog 77 #[.pointer (some ⟨p, 0, none⟩), .string key] w fun r w' => r = .returned (.int .i64 (Tr.ix (pkeys ps) key.data.toList : Nat)) ∧ w' = w := by
  obtain ⟨c0, c1, c2, -⟩ := h.cells
  obtain ⟨pa, pc, rfl⟩ := rowShape hp
  have HP := hid hp
  clear hp h
  go_enter Tryz.func77, Tryz.ntmps77
  go_wp2_with fail
  go_loop [5] (fun i => ∃ j : Nat, i = .int .i64 j ∧ j ≤ ps.length ∧ Hid (Tr.ix (pkeys ps) key.data.toList = j + Tr.ix ((pkeys ps).drop j) key.data.toList)) (fun i => ps.length - (intOf i).toNat)
  case atStart => exact ⟨0, rfl, Nat.zero_le _, by show _ = _; simp⟩
  case round =>
    obtain ⟨j, rfl, hj, hix⟩ := hrel
    have hkl : (pkeys ps).length = ps.length := by simp [pkeys]
    by_cases hlt : j + 1 < ps.length
    · obtain ⟨g, cap, e, hc, hb, hg, d0, d1⟩ := HP.out.at (j + 1) hlt
      simp only [Value.slice.injEq] at e
      obtain ⟨rfl, -, rfl⟩ := e
      generalize hkb : (ps[j + 1]'hlt).1 = kb at *
      have hke : (pkeys ps)[j + 1]'(by rw [hkl]; exact hlt) = kb.data.toList := by simp [pkeys, hkb]
      by_cases hk : key.data.toList < kb.data.toList
      · have hc1 := less_no (fun q => Tr.lt_ir _ (Tr.lt_tr hk q))
        have hc2 : ¬ kb = key := ne_of_lt hk
        have hc3 := eq_no hc2
        have HF : Hid (Tr.ix (pkeys ps) key.data.toList = j) := by
          show _ = _; rw [hix.out, ix_stop _ _ _ (by rw [hkl]; exact hlt) (by rw [hke]; exact hk)]; omega
        clear hix hke hkb hk
        go_wp2_with fail
        go_ret
        exact ⟨by rw [HF.out]; rfl, rfl⟩
      · have HF : Hid (Tr.ix (pkeys ps) key.data.toList = (j + 1 : Nat) + Tr.ix ((pkeys ps).drop (j + 1)) key.data.toList) := by
          show _ = _; rw [hix.out, ix_drop _ _ _ (by rw [hkl]; exact hlt) (by rw [hke]; exact hk)]; omega
        clear hix hke hkb
        by_cases hk2 : kb.data.toList < key.data.toList
        · have hc1 := less_yes hk2
          clear hk hk2
          go_wp2_with fail
          go_round
          case rel => exact ⟨j + 1, by go_num, by omega, HF.out⟩
          case measure => simp [intOf]; omega
        · obtain rfl : kb = key := bytes_ext (Tr.tri _ _ hk2 hk)
          clear hk hk2
          go_wp2_with fail
          go_round
          case rel => exact ⟨j + 1, by go_num, by omega, HF.out⟩
          case measure => simp [intOf]; omega
    · have HF : Hid (Tr.ix (pkeys ps) key.data.toList = j) := by
        show _ = _; rw [hix.out, ix_last _ _ _ (by rw [hkl]; omega)]; omega
      clear hix
      go_wp2_with fail
      go_ret
      exact ⟨by rw [HF.out]; rfl, rfl⟩
end Go.Proofs.YtolgpnaoaodepaaGreat
/- Searching among a leaf's items. -/
namespace Go.Proofs.YtolgpnaoaodepaaGreat
open Go.RowKit

/-- Where a key is among items, or would be: those ahead of it, the others. -/
structure Parted (il A B : List (ByteArray × ByteArray)) (key : ByteArray) : Prop where
  e : il = A ++ B
  a : ∀ x ∈ A, x.1.data.toList < key.data.toList
  b : ∀ x ∈ B, ¬ x.1.data.toList < key.data.toList
def headIs (B : List (ByteArray × ByteArray)) (key : ByteArray) : Bool := match B with
  | [] => false
  | x :: _ => decide (x.1.data.toList = key.data.toList)
theorem parted_of {il : List (ByteArray × ByteArray)} {key : ByteArray} {i : Nat} (h1 : ∀ x (h : x < il.length), x < i → (il[x]'h).1.data.toList < key.data.toList) (h2 : ∀ x (h : x < il.length), i ≤ x → ¬ (il[x]'h).1.data.toList < key.data.toList) : Parted il (il.take i) (il.drop i) key := by
  refine ⟨(List.take_append_drop i il).symm, fun x hx => ?_, fun x hx => ?_⟩
  · obtain ⟨j, hj, rfl⟩ := List.getElem_of_mem hx
    rw [List.getElem_take]
    simp at hj
    exact h1 j (by omega) (by omega)
  · obtain ⟨j, hj, rfl⟩ := List.getElem_of_mem hx
    rw [List.getElem_drop]
    simp at hj
    exact h2 (i + j) (by omega) (by omega)
theorem rising_lt {il : List (ByteArray × ByteArray)} (h : Tr.Rising (plain il)) {x y : Nat} (hy : y < il.length) (hxy : x < y) : (il[x]'(by omega)).1.data.toList < (il[y]'hy).1.data.toList := by
  have := (List.pairwise_iff_getElem.1 h) x y (by simp [plain]; omega) (by simpa [plain] using hy) hxy
  simpa [plain] using this

set_option maxHeartbeats 2000000 in
set_option maxRecDepth 20000 in
theorem search_any (B : Nat) (v : Value) (il : List (ByteArray × ByteArray)) (key : ByteArray) (w : World) (hv : OwnsI B w v il) (hl : il.length ≤ 1000000000) (hr : Tr.Rising (plain il)) :
    Calls Tryz.prog 192 #[v, .string key, .func (.func 193) #[] #[]] w fun r w' => (∃ A C, Parted il A C key ∧ r = .returned (.tuple #[.int .i64 (A.length : Nat), .bool (headIs C key)])) ∧ Below w.heap.size w w' := by
  obtain ⟨pa, pc, rfl⟩ := rowShape hv
  have HV := hid hv
  have HR := hid hr
  clear hv hr
  go_enter Tryz.func192, Tryz.ntmps192
  go_wp2_with fail
  go_loopw [9, 10] (fun iv jv wr => ∃ i j : Nat, i ≤ j ∧ j ≤ il.length ∧ iv = .int .i64 i ∧ jv = .int .i64 j ∧ Hid (∀ x (h : x < il.length), x < i → (il[x]'h).1.data.toList < key.data.toList) ∧ Hid (∀ x (h : x < il.length), j ≤ x → ¬ (il[x]'h).1.data.toList < key.data.toList) ∧ Below w.heap.size w wr) (fun i j _ => (intOf j).toNat - (intOf i).toNat)
  case atStart => exact ⟨0, il.length, Nat.zero_le _, Nat.le_refl _, rfl, rfl, fun x _ h => by omega, fun x h h2 => by omega, Below.refl _ _⟩
  case round =>
    obtain ⟨i, j, hij, hj, rfl, rfl, h1, h2, hb⟩ := hrel
    have HB := hid hb
    have hbs := hb.size
    have HVr : Hid (OwnsI B wr (.slice pa il.length pc) il) := row_below HV.out hb (Nat.le_refl _)
    clear hb
    by_cases hlt : i < j
    · have hmj : (i + j) / 2 < j := by omega
      have him : i ≤ (i + j) / 2 := by omega
      have hml : (i + j) / 2 < il.length := by omega
      obtain ⟨g, cap, e, hc, hbg, hg, d0, d1⟩ := HVr.out.at ((i + j) / 2) hml
      simp only [Value.slice.injEq] at e
      obtain ⟨rfl, -, rfl⟩ := e
      have HE := hid (show (il[(i + j) / 2]'hml).1 = (il[(i + j) / 2]'hml).1 from rfl)
      generalize hkb : (il[(i + j) / 2]'hml).1 = kb at d0
      generalize (il[(i + j) / 2]'hml).2 = vb at d1
      go_wp2_with fail
      refine (findCmp_any kb vb key _).mono ?_
      rintro r w1 ⟨rfl, hb1⟩
      have HB1 := hid (HB.out.trans (hb1.mono hbs))
      clear hb1 d0 d1 HE HVr HB
      by_cases hk : kb.data.toList < key.data.toList
      · have hcm : Lib.compareBytes kb.data.toList key.data.toList < 0 := (cmp_neg _ _).2 hk
        have H1 : Hid (∀ x (h : x < il.length), x < (i + j) / 2 + 1 → (il[x]'h).1.data.toList < key.data.toList) := fun x hx hxm => by
          rcases Nat.lt_or_ge x ((i + j) / 2) with q | q
          · have := rising_lt HR.out hml q
            rw [hkb] at this
            exact Tr.lt_tr this hk
          · have : x = (i + j) / 2 := by omega
            subst this
            rw [hkb]; exact hk
        clear hk hkb
        generalize Lib.compareBytes kb.data.toList key.data.toList = cv at *
        go_wp2_with fail
        go_roundw
        case rel => exact ⟨(i + j) / 2 + 1, j, by omega, hj, by go_num, rfl, H1.out, h2, HB1.out⟩
        case measure => simp [intOf]; omega
      · have hcm : ¬ Lib.compareBytes kb.data.toList key.data.toList < 0 := fun q => hk ((cmp_neg _ _).1 q)
        have hcm2 : decide (Lib.compareBytes kb.data.toList key.data.toList < 0) = false := decide_eq_false hcm
        have H2 : Hid (∀ x (h : x < il.length), (i + j) / 2 ≤ x → ¬ (il[x]'h).1.data.toList < key.data.toList) := fun x hx hxm => by
          rcases Nat.lt_or_ge ((i + j) / 2) x with q | q
          · have := rising_lt HR.out hx q
            rw [hkb] at this
            exact fun q' => hk (Tr.lt_tr this q')
          · have : x = (i + j) / 2 := by omega
            subst this
            rw [hkb]; exact hk
        clear hk hkb
        generalize Lib.compareBytes kb.data.toList key.data.toList = cv at *
        go_wp2_with fail
        go_roundw
        case rel => exact ⟨i, (i + j) / 2, him, by omega, rfl, by go_num, h1, H2.out, HB1.out⟩
        case measure => simp [intOf]; omega
    · have hji : j = i := by omega
      subst hji
      have HPT := hid (parted_of h1.out h2.out)
      clear h1 h2
      by_cases hlt2 : j < il.length
      · obtain ⟨g, cap, e, hc, hbg, hg, d0, d1⟩ := HVr.out.at j hlt2
        simp only [Value.slice.injEq] at e
        obtain ⟨rfl, -, rfl⟩ := e
        have HH : Hid (headIs (il.drop j) key = decide ((il[j]'hlt2).1.data.toList = key.data.toList)) := by
          show _ = _; rw [List.drop_eq_getElem_cons hlt2]; rfl
        generalize (il[j]'hlt2).1 = kb at *
        generalize (il[j]'hlt2).2 = vb at *
        go_wp2_with fail
        refine (findCmp_any kb vb key _).mono ?_
        rintro r w1 ⟨rfl, hb1⟩
        have HB1 := hid (HB.out.trans (hb1.mono hbs))
        clear hb1 d0 d1 HVr HB
        have HZ : Hid ((Lib.compareBytes kb.data.toList key.data.toList == 0) = decide (kb.data.toList = key.data.toList)) := by
          show _ = _
          by_cases q : kb.data.toList = key.data.toList
          · rw [decide_eq_true q, (cmp_zero _ _).2 q]; rfl
          · rw [decide_eq_false q]; exact beq_false_of_ne fun q' => q ((cmp_zero _ _).1 q')
        have HLN : Hid ((il.take j).length = j) := by show _ = _; simp; omega
        go_wp2_with fail
        go_ret2
        exact ⟨⟨_, _, HPT.out, by rw [HH.out, ← HZ.out, HLN.out]; rfl⟩, HB1.out⟩
      · have hlj : j = il.length := by omega
        have HH : Hid (headIs (il.drop j) key = false) := by
          show _ = _; rw [List.drop_of_length_le (by omega)]; rfl
        have HLN : Hid ((il.take j).length = j) := by show _ = _; simp; omega
        go_wp2_with fail
        go_ret2
        exact ⟨⟨_, _, HPT.out, by rw [HH.out, HLN.out]; rfl⟩, HB.out⟩
end Go.Proofs.YtolgpnaoaodepaaGreat
/- findItem, stateOf. -/
namespace Go.Proofs.YtolgpnaoaodepaaGreat
open Go.RowKit

def cutA (il : List (ByteArray × ByteArray)) (key : ByteArray) : List (ByteArray × ByteArray) := il.takeWhile fun x => decide (x.1.data.toList < key.data.toList)
def cutC (il : List (ByteArray × ByteArray)) (key : ByteArray) : List (ByteArray × ByteArray) := il.dropWhile fun x => decide (x.1.data.toList < key.data.toList)
theorem Parted.cut {il A C : List (ByteArray × ByteArray)} {key : ByteArray} (h : Parted il A C key) : A = cutA il key ∧ C = cutC il key := by
  obtain ⟨rfl, ha, hb⟩ := h
  unfold cutA cutC
  have hA : ∀ x ∈ A, decide (x.1.data.toList < key.data.toList) = true := fun x hx => decide_eq_true (ha x hx)
  rw [List.takeWhile_append_of_pos hA, List.dropWhile_append_of_pos hA]
  match C, hb with
  | [], _ => simp
  | x :: r, hb =>
    have : decide (x.1.data.toList < key.data.toList) = false := decide_eq_false (hb x (List.mem_cons_self ..))
    rw [List.takeWhile_cons, List.dropWhile_cons, this]
    simp
theorem cut_parted (il : List (ByteArray × ByteArray)) (key : ByteArray) (hr : Tr.Rising (plain il)) : Parted il (cutA il key) (cutC il key) key := by
  refine ⟨(List.takeWhile_append_dropWhile).symm, fun x hx => ?_, fun x hx => ?_⟩
  · have := List.all_takeWhile (p := fun x : ByteArray × ByteArray => decide (x.1.data.toList < key.data.toList)) (l := il)
    exact of_decide_eq_true (List.all_eq_true.1 this x hx)
  · have hh := List.head?_dropWhile_not (fun x : ByteArray × ByteArray => decide (x.1.data.toList < key.data.toList)) il
    unfold cutC at hx
    have hs : (il.dropWhile fun x : ByteArray × ByteArray => decide (x.1.data.toList < key.data.toList)) <:+ il := List.dropWhile_suffix _
    have hr' : Tr.Rising (plain (il.dropWhile fun x : ByteArray × ByteArray => decide (x.1.data.toList < key.data.toList))) := by
      unfold Tr.Rising plain at *
      exact List.Pairwise.sublist (hs.sublist.map _) hr
    generalize (il.dropWhile fun x : ByteArray × ByteArray => decide (x.1.data.toList < key.data.toList)) = D at *
    match D, hx, hh, hr' with
    | y :: D, hx, hh, hr' =>
      simp at hh
      rcases List.mem_cons.1 hx with rfl | hx
      · exact List.not_lt.2 hh
      · have := (List.pairwise_cons.1 hr').1 (x.1.data.toList, x.2.data.toList) (List.mem_map.2 ⟨x, hx, rfl⟩)
        exact fun q => (List.not_lt.2 hh) (Tr.lt_tr this q)
def headVal (C : List (ByteArray × ByteArray)) (key : ByteArray) : Option (List UInt8) := match C with
  | [] => none
  | x :: _ => if x.1.data.toList = key.data.toList then some x.2.data.toList else none
theorem look_cut {il A C : List (ByteArray × ByteArray)} {key : ByteArray} (h : Parted il A C key) (hr : Tr.Rising (plain il)) : Tr.look (plain il) key.data.toList = headVal C key := by
  obtain ⟨rfl, ha, hb⟩ := h
  have h1 : plain (A ++ C) = plain A ++ plain C := by simp [plain]
  rw [h1, Tr.look_append, Tr.look_none]
  · match C, hb, hr with
    | [], _, _ => rfl
    | x :: r, hb, hr =>
      show (Tr.look ((x.1.data.toList, x.2.data.toList) :: plain r) key.data.toList) = _
      unfold headVal
      by_cases q : x.1.data.toList = key.data.toList
      · simp only
        rw [Tr.look, if_pos q, if_pos q]
      · simp only
        rw [Tr.look, if_neg q, if_neg q, Tr.look_none]
        intro y hy e
        obtain ⟨z, hz, rfl⟩ := List.mem_map.1 hy
        rw [h1] at hr
        have h3 := (List.pairwise_append.1 hr).2.1
        have h4 := (List.pairwise_cons.1 h3).1 _ hy
        have h5 : ¬ x.1.data.toList < key.data.toList := hb x (List.mem_cons_self ..)
        have e' : z.1.data.toList = key.data.toList := e
        simp only [e'] at h4
        exact h5 h4
  · intro y hy e
    obtain ⟨z, hz, rfl⟩ := List.mem_map.1 hy
    have := ha z hz
    have e' : z.1.data.toList = key.data.toList := e
    rw [e'] at this
    exact Tr.lt_ir _ this
set_option maxHeartbeats 1000000 in
theorem findItem_any (p B : Nat) (vi vp vc : Value) (il : List (ByteArray × ByteArray)) (key : ByteArray) (w : World) (h : NodT w p vi vp vc) (hv : OwnsI B w vi il) (hl : il.length ≤ 1000000000) (hr : Tr.Rising (plain il)) :
    Calls Tryz.prog 138 #[.pointer (some ⟨p, 0, none⟩), .string key] w fun r w' => r = .returned (.tuple #[.int .i64 ((cutA il key).length : Nat), .bool (headIs (cutC il key) key)]) ∧ Below w.heap.size w w' := by
  obtain ⟨c0, c1, c2, -⟩ := h.cells
  have HC := hid (search_any B vi il key w hv hl hr)
  clear hv hr h
  go_enter Tryz.func138, Tryz.ntmps138
  go_wp2_with fail
  refine HC.out.mono ?_
  rintro r w1 ⟨⟨A, C, hp, rfl⟩, hb⟩
  have HB := hid hb
  have HP := hid hp.cut
  clear hp hb HC c0 c1 c2
  go_wp2_with fail
  go_ret2
  exact ⟨by rw [← HP.out.1, ← HP.out.2]; rfl, HB.out⟩
/-- A state in a block of its own. -/
def StB (w : World) (b : Nat) (v : ByteArray) (t : Bool) : Prop := w.heap[b]? = some (.cells #[.string v, .bool t] 136 (0, 0))
theorem StB.lt {w : World} {b : Nat} {v : ByteArray} {t : Bool} (h : StB w b v t) : b < w.heap.size := (Array.getElem?_eq_some_iff.1 h).1
theorem StB.cells {w : World} {b : Nat} {v : ByteArray} {t : Bool} (h : StB w b v t) : w.cell? ⟨b, 0, none⟩ = some (.string v) ∧ w.cell? ⟨b, 1, none⟩ = some (.bool t) ∧ w.frozen? ⟨b, 0, none⟩ = false ∧ w.frozen? ⟨b, 1, none⟩ = false := by
  unfold StB at h
  refine ⟨?_, ?_, ?_, ?_⟩ <;> simp [World.cell?, World.frozen?, h]
theorem StB.put {w : World} {b : Nat} {v : ByteArray} {t : Bool} (h : StB w b v t) (v' : ByteArray) (t' : Bool) : StB ((w.setCell ⟨b, 0, none⟩ (.string v')).setCell ⟨b, 1, none⟩ (.bool t')) b v' t' := by
  have h1 : (w.setCell ⟨b, 0, none⟩ (.string v')).heap[b]? = some (.cells #[.string v', .bool t] 136 (0, 0)) := by unfold StB at h; rw [heap_setCell_at (i := 0) h]; rfl
  unfold StB; rw [heap_setCell_at (i := 1) h1]; rfl
set_option maxHeartbeats 1000000 in
set_option maxRecDepth 20000 in
theorem stateOf_any (p B : Nat) (vi vp vc : Value) (il : List (ByteArray × ByteArray)) (key : ByteArray) (w : World) (h : NodT w p vi vp vc) (hv : OwnsI B w vi il) (hl : il.length ≤ 1000000000) (hr : Tr.Rising (plain il)) :
    Calls Tryz.prog 78 #[.pointer (some ⟨p, 0, none⟩), .string key] w fun r w' => r = .returned (.agg #[.string (stV (Tr.look (plain il) key.data.toList)), .bool (stB (Tr.look (plain il) key.data.toList))]) ∧ Below w.heap.size w w' := by
  have HP := hid (cut_parted il key hr)
  rw [look_cut HP.out hr]
  have HB0 := hid ((Below.refl w.heap.size w).alloc (Nat.le_refl _) (.cells #[.string ⟨#[]⟩, .bool false] 136))
  have HC := hid (findItem_any p B vi vp vc il key (w.alloc (.cells #[.string ⟨#[]⟩, .bool false] 136)) ((HB0.out.block p h.lt).trans h) (row_below hv HB0.out (Nat.le_refl _)) hl hr)
  have HN := hid ((HB0.out.block p h.lt).trans h)
  have HV := hid (row_below hv HB0.out (Nat.le_refl _))
  have HS : Hid (StB (w.alloc (.cells #[.string ⟨#[]⟩, .bool false] 136)) w.heap.size ⟨#[]⟩ false) := heap_alloc_new _ _
  clear h hv hr
  go_enter Tryz.func78, Tryz.ntmps78
  go_wp2_with fail
  refine HC.out.mono ?_
  generalize w.alloc (.cells #[.string ⟨#[]⟩, .bool false] 136) = w0 at *
  rintro r w1 ⟨rfl, hb1⟩
  have HN1 : Hid (NodT w1 p vi vp vc) := (hb1.block p (Array.getElem?_eq_some_iff.1 HN.out).1).trans HN.out
  have HV1 : Hid (OwnsI B w1 vi il) := row_below HV.out hb1 (Nat.le_refl _)
  have HS1 : Hid (StB w1 w.heap.size ⟨#[]⟩ false) := (hb1.block _ HS.out.lt).trans HS.out
  have HB1 := hid (HB0.out.trans (hb1.mono HB0.out.size))
  clear hb1 HN HV HS HB0 HC
  have hil := HP.out.e
  clear HP
  have hcase : headIs (cutC il key) key = false ∧ headVal (cutC il key) key = none ∨ headIs (cutC il key) key = true ∧ ∃ x D, cutC il key = x :: D ∧ headVal (cutC il key) key = some x.2.data.toList := by
    cases hC : cutC il key with
    | nil => exact .inl ⟨rfl, rfl⟩
    | cons x D =>
      by_cases q : x.1.data.toList = key.data.toList
      · exact .inr ⟨decide_eq_true q, x, D, rfl, by unfold headVal; simp only; rw [if_pos q]⟩
      · exact .inl ⟨decide_eq_false q, by unfold headVal; simp only; rw [if_neg q]⟩
  generalize cutA il key = A at *
  obtain ⟨c0, c1, c2, -⟩ := HN1.out.cells
  obtain ⟨z0, z1, s0, s1⟩ := HS1.out.cells
  have fin : ∀ (v : ByteArray) (t : Bool), Below w.heap.size w ((w1.setCell ⟨w.heap.size, 0, none⟩ (.string v)).setCell ⟨w.heap.size, 1, none⟩ (.bool t)) := fun v t => (HB1.out.setCell (p := ⟨w.heap.size, 0, none⟩) (Nat.le_refl _) (.string v)).setCell (p := ⟨w.heap.size, 1, none⟩) (Nat.le_refl _) (.bool t)
  have FIN := hid fin
  clear fin
  have HNO : Hid (∀ (v : ByteArray) (t : Bool), StB ((w1.setCell ⟨w.heap.size, 0, none⟩ (.string v)).setCell ⟨w.heap.size, 1, none⟩ (.bool t)) w.heap.size v t) := fun v t => HS1.out.put v t
  clear HS1 HB1
  rcases hcase with ⟨h1, h2⟩ | ⟨h1, x, D, hC, h2⟩
  · rw [h1]
    have H2 := hid h2
    clear h1 h2
    obtain ⟨t0, t1, -⟩ := (HNO.out ⟨#[]⟩ false).cells
    go_wp2_with fail
    refine bodyPost_ret (v := .agg #[.string ⟨#[]⟩, .bool false]) ?_ rfl ⟨by rw [H2.out]; rfl, FIN.out _ _⟩
    simp [results, Tryz.results78, go_sem, t0, t1]
  · rw [h1]
    have H2 := hid h2
    clear h1 h2
    rw [hC] at hil
    clear hC
    have hal : A.length < il.length := by rw [hil]; simp
    obtain ⟨g, cap, e, hc, hbg, hg, d0, d1⟩ := HV1.out.at A.length hal
    have hx : il[A.length]'hal = x := by simp [hil]
    rw [hx] at d0 d1
    subst e
    clear hx
    obtain ⟨t0, t1, -⟩ := (HNO.out x.2 true).cells
    go_wp2_with fail
    refine bodyPost_ret (v := .agg #[.string x.2, .bool true]) ?_ rfl ⟨by rw [H2.out]; rfl, FIN.out _ _⟩
    simp [results, Tryz.results78, go_sem, t0, t1]
end Go.Proofs.YtolgpnaoaodepaaGreat
/- copy and clear at any place of a row. -/
namespace Go.Proofs.YtolgpnaoaodepaaGreat
open Go.RowKit

section
variable {P : Program}
theorem run_copy_at (w : World) (dT sT ty elem : TypeId) (size : Nat) (g o dLen dCap : Nat) (v : Value) (n : Nat) (cur : Array Value) (t : TypeId) (cs : List Value)
    (hu : P.underlying dT = some (.slice elem)) (hs : (P.info? elem).map (·.size) = some size)
    (hg : w.heap[g]? = some (.cells cur t (0, 0))) (hn : n ≤ dLen) (hsrc : Src size w v n cs) (hfit : o + cs.length ≤ cur.size) (h1 : ∀ v ∈ cs, v.oneCell' = true) :
    (Builtin.copy_ #[dT, sT] ty #[.slice (some ⟨g, o, none⟩) dLen dCap, v]).run P w = .ok (goInt n) (w.setRow g (cur.toList.take o ++ cs ++ cur.toList.drop (o + cs.length)).toArray) := by
  obtain ⟨a, cap, rfl, hl, h3⟩ := hsrc
  have hmin : Nat.min n dLen = n := Nat.min_eq_left hn
  have hst := run_storeCells_at P g o t cs 0 cur w hg (by simpa using hfit) h1
  cases hq : P.info? elem with
  | none => simp [hq] at hs
  | some i =>
    have hi : i.size = size := by simpa [hq] using hs
    rcases h3 with rfl | ⟨b, off, rfl, hlt, hc⟩
    · obtain rfl : cs = [] := List.eq_nil_of_length_eq_zero (by omega)
      have e := setRow_self w g cur t (0, 0) hg
      cases a with
      | none => simp [Builtin.copy_, run_underlying hu, Builtin.lenOf, Builtin.firstCells, sizeOf, typeInfo, hq, storeCells, e]
      | some ad =>
        have hld := run_loadCells_list (P := P) w ad [] (fun j u hj => by simp at hj)
        simp at hld
        simp [Builtin.copy_, run_underlying hu, Builtin.lenOf, Builtin.firstCells, sizeOf, typeInfo, hq, hld, storeCells, e]
    · have hld := run_loadCells_list (P := P) w ⟨b, off, none⟩ cs (fun j u hj => by rw [off_add]; exact hc j u hj)
      rw [hl] at hld
      simp [Builtin.copy_, run_underlying hu, Builtin.lenOf, Builtin.firstCells, sizeOf, typeInfo, hq, hi, hmin, hld, hst]
theorem run_copy_min (w : World) (dT sT ty elem : TypeId) (size : Nat) (g o dLen dCap : Nat) (b off sLen sCap : Nat) (n : Nat) (cur : Array Value) (t : TypeId) (cs : List Value)
    (hu : P.underlying dT = some (.slice elem)) (hs : (P.info? elem).map (·.size) = some size)
    (hg : w.heap[g]? = some (.cells cur t (0, 0))) (hmin : Nat.min sLen dLen = n) (hl : cs.length = n * size) (hc : ∀ (j : Nat) (u : Value), cs[j]? = some u → w.cell? ⟨b, off + j, none⟩ = some u) (hfit : o + cs.length ≤ cur.size) (h1 : ∀ v ∈ cs, v.oneCell' = true) :
    (Builtin.copy_ #[dT, sT] ty #[.slice (some ⟨g, o, none⟩) dLen dCap, .slice (some ⟨b, off, none⟩) sLen sCap]).run P w = .ok (goInt n) (w.setRow g (cur.toList.take o ++ cs ++ cur.toList.drop (o + cs.length)).toArray) := by
  have hst := run_storeCells_at P g o t cs 0 cur w hg (by simpa using hfit) h1
  cases hq : P.info? elem with
  | none => simp [hq] at hs
  | some i =>
    have hi : i.size = size := by simpa [hq] using hs
    have hld := run_loadCells_list (P := P) w ⟨b, off, none⟩ cs (fun j u hj => by rw [off_add]; exact hc j u hj)
    rw [hl] at hld
    simp [Builtin.copy_, run_underlying hu, Builtin.lenOf, Builtin.firstCells, sizeOf, typeInfo, hq, hi, hmin, hld, hst]
theorem run_clear_at (w : World) (t ty elem : TypeId) (z : Value) (size : Nat) (g o n c : Nat) (cur : Array Value) (te : TypeId)
    (hu : P.underlying t = some (.slice elem)) (hz : ∀ w, (Go.zeroValue elem).run P w = .ok z w) (hzc : (Builtin.zeroCells z.cells n).size = n * size) (h1 : ∀ v ∈ (Builtin.zeroCells z.cells n).toList, v.oneCell' = true)
    (hg : w.heap[g]? = some (.cells cur te (0, 0))) (hfit : o + n * size ≤ cur.size) :
    (Builtin.clear_ #[t] ty #[.slice (some ⟨g, o, none⟩) n c]).run P w = .ok (.tuple #[]) (w.setRow g (cur.toList.take o ++ (Builtin.zeroCells z.cells n).toList ++ cur.toList.drop (o + n * size)).toArray) := by
  have hst := run_storeCells_at P g o te (Builtin.zeroCells z.cells n).toList 0 cur w hg (by rw [Array.length_toList, hzc]; simpa using hfit) h1
  rw [Array.length_toList, hzc, Nat.add_zero] at hst
  match n, hst with
  | 0, hst =>
    have hz0 : (Builtin.zeroCells z.cells 0).toList = [] := by
      have := hzc
      simp at this
      exact List.eq_nil_of_length_eq_zero (by rw [Array.length_toList]; simp [Builtin.zeroCells])
    rw [hz0]
    simp [Builtin.clear_, run_underlying hu, setRow_self w g cur te (0, 0) hg]
  | n + 1, hst => simp [Builtin.clear_, run_underlying hu, hz, hst]
end
/-- What a setRow leaves. -/
theorem setRow_at {w : World} {g : Nat} {cur : Array Value} {e : TypeId} (h : w.heap[g]? = some (.cells cur e (0, 0))) (l : List Value) : (w.setRow g l.toArray).heap[g]? = some (.cells l.toArray e (0, 0)) := setRow_heap w g cur _ e (0, 0) h
theorem setRow_grown (w : World) (g : Nat) (cs : Array Value) : w.grownBy (w.setRow g cs) (some g) := by
  refine ⟨rfl, rfl, rfl, by simp [World.setRow], fun k hk hne => ?_⟩
  have : g ≠ k := fun e => hne (by rw [e])
  simp [World.setRow, Array.getElem?_modify, this]
end Go.Proofs.YtolgpnaoaodepaaGreat
