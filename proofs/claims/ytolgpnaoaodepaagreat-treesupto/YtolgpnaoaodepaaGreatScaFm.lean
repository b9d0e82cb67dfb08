/- Sorting by insertion, which keeps the order of like keys. -/
import Derived.Test.YtolgpnaoaodepaaGreatScaMm
import Derived.Test.YtolgpnaoaodepaaGreatTreZJm
import Derived.Deep.DeepCutAuto
namespace Go.Proofs.YtolgpnaoaodepaaGreat.Tr
open Hp

/-- The first so many rise, but for one that is on its way. -/
structure InsI (g : Nat → Ch) (i j : Nat) : Prop where
  a : ∀ x y, x < y → y ≤ i → x ≠ j → y ≠ j → ¬ (g y).2.1 < (g x).2.1
  b : ∀ y, j < y → y ≤ i → ¬ (g y).2.1 < (g j).2.1
def RiseTo (g : Nat → Ch) (i : Nat) : Prop := ∀ x y, x < y → y < i → ¬ (g y).2.1 < (g x).2.1
theorem InsI.start {g : Nat → Ch} {i : Nat} (h : RiseTo g i) : InsI g i i := ⟨fun x y h1 h2 h3 h4 => h x y h1 (by omega), fun y h1 h2 => by omega⟩
theorem InsI.step {g : Nat → Ch} {i j : Nat} (h : InsI g i (j + 1)) (hj : j + 1 ≤ i) (hl : (g (j + 1)).2.1 < (g j).2.1) : InsI (swp g j (j + 1)) i j := by
  have hns : ¬ (g j).2.1 < (g (j + 1)).2.1 := fun q => lt_ir _ (lt_tr q hl)
  refine ⟨fun x y h1 h2 h3 h4 => ?_, fun y h1 h2 => ?_⟩
  · by_cases e : y = j + 1
    · subst e
      rw [swp_j, swp_o g h3 (by omega)]
      exact h.a x j (by omega) (by omega) (by omega) (by omega)
    · rw [swp_o g h4 e]
      by_cases e2 : x = j + 1
      · subst e2; rw [swp_j]
        exact h.a j y (by omega) h2 (by omega) e
      · rw [swp_o g h3 e2]; exact h.a x y h1 h2 e2 e
  · rw [swp_i]
    by_cases e : y = j + 1
    · subst e; rw [swp_j]; exact hns
    · rw [swp_o g (by omega) e]; exact h.b y (by omega) h2
theorem InsI.done {g : Nat → Ch} {i j : Nat} (h : InsI g i j) (he : j = 0 ∨ ¬ (g j).2.1 < (g (j - 1)).2.1) : RiseTo g (i + 1) := by
  intro x y h1 h2
  by_cases ex : x = j
  · rw [ex] at h1 ⊢; exact h.b y h1 (by omega)
  · by_cases ey : y = j
    · rcases he with q | q
      · omega
      · rw [ey]
        by_cases e : x = j - 1
        · rw [e]; exact q
        · exact le_tr (h.a x (j - 1) (by omega) (by omega) ex (by omega)) q
    · exact h.a x y h1 (by omega) ex ey
theorem swL_two (d : Ch) (l : List Ch) {j : Nat} (h : j + 1 < l.length) : swL d l j (j + 1) = l.take j ++ nth d l (j + 1) :: nth d l j :: l.drop (j + 2) := by
  apply List.ext_getElem?
  intro k
  unfold swL
  rw [List.getElem?_set, List.length_set, List.getElem?_set]
  rcases Nat.lt_trichotomy k j with q | q | q
  · rw [if_neg (by omega), if_neg (by omega), List.getElem?_append_left (by simp; omega), List.getElem?_take_of_lt q]
  · subst q
    rw [if_neg (by omega), if_pos rfl, if_pos (by omega), List.getElem?_append_right (by simp; omega)]
    simp [Nat.min_eq_left (show k ≤ l.length by omega)]
  · rw [List.getElem?_append_right (by simp; omega), List.length_take, Nat.min_eq_left (by omega)]
    by_cases e : j + 1 = k
    · subst e
      rw [if_pos rfl, if_pos h, show j + 1 - j = 1 by omega]; rfl
    · rw [if_neg e, if_neg (by omega)]
      obtain ⟨n, hn⟩ : ∃ n, k - j = n + 2 := ⟨k - j - 2, by omega⟩
      rw [hn, List.getElem?_cons_succ, List.getElem?_cons_succ, List.getElem?_drop, show j + 2 + n = k by omega]
theorem swL_filter (d : Ch) (l : List Ch) {j : Nat} (h : j + 1 < l.length) (hl : (nth d l (j + 1)).2.1 < (nth d l j).2.1) (k : Key) : (swL d l j (j + 1)).filter (hasKey k) = l.filter (hasKey k) := by
  have e : l = l.take j ++ nth d l j :: nth d l (j + 1) :: l.drop (j + 2) := by
    rw [nth_get d l (by omega), nth_get d l h, List.getElem_cons_drop, List.getElem_cons_drop, List.take_append_drop]
  rw [swL_two d l h]
  conv => rhs; rw [e]
  rw [List.filter_append, List.filter_append]
  congr 1
  by_cases h1 : (nth d l j).2.1 = k
  · have h2 : ¬ (nth d l (j + 1)).2.1 = k := fun q => by rw [q, h1] at hl; exact lt_ir _ hl
    rw [List.filter_cons_of_neg (by simpa [hasKey] using h2), List.filter_cons_of_pos (p := hasKey k) (decide_eq_true h1), List.filter_cons_of_pos (p := hasKey k) (decide_eq_true h1), List.filter_cons_of_neg (by simpa [hasKey] using h2)]
  · rw [List.filter_cons_of_neg (a := nth d l j) (p := hasKey k) (by simpa [hasKey] using h1)]
    by_cases h2 : (nth d l (j + 1)).2.1 = k
    · rw [List.filter_cons_of_pos (p := hasKey k) (decide_eq_true h2), List.filter_cons_of_pos (p := hasKey k) (decide_eq_true h2), List.filter_cons_of_neg (by simpa [hasKey] using h1)]
    · rw [List.filter_cons_of_neg (by simpa [hasKey] using h2), List.filter_cons_of_neg (by simpa [hasKey] using h1), List.filter_cons_of_neg (by simpa [hasKey] using h2)]
/-- A list that has been put in order so far. -/
structure Stb (l l' : List Ch) : Prop where
  perm : l'.Perm l
  fil : ∀ k, l'.filter (hasKey k) = l.filter (hasKey k)
theorem Stb.refl (l : List Ch) : Stb l l := ⟨List.Perm.refl _, fun _ => rfl⟩
theorem Stb.swap {l l' : List Ch} (h : Stb l l') (d : Ch) {j : Nat} (hj : j + 1 < l'.length) (hl : (nth d l' (j + 1)).2.1 < (nth d l' j).2.1) : Stb l (swL d l' j (j + 1)) :=
  ⟨(swL_perm d l' (by omega) hj).trans h.perm, fun k => (swL_filter d l' hj hl k).trans (h.fil k)⟩
theorem RiseTo.rise {d : Ch} {l : List Ch} (h : RiseTo (nth d l) l.length) : Rise l := by
  unfold Rise
  rw [List.pairwise_iff_getElem]
  intro x y hx hy hxy
  have := h x y hxy hy
  rw [nth_get d l hx, nth_get d l hy] at this
  exact this
/-- Those ahead of a key are left out, the others put in order. -/
theorem Stb.scd {fr : Key} {l l' : List Ch} (h : Stb (l.filter fun c => !decide (c.2.1 < fr)) l') (hr : Rise l') : Scd fr l l' := by
  refine ⟨hr, fun c hc => ?_, fun k hk => ?_, ?_⟩
  · have := h.perm.mem_iff.1 hc
    obtain ⟨h1, h2⟩ := List.mem_filter.1 this
    exact ⟨h1, by simpa using h2⟩
  · rw [h.fil k, List.filter_filter]
    congr 1
    funext c
    by_cases e : c.2.1 = k
    · simp [hasKey, e]; exact hk
    · simp [hasKey, e]
  · rw [h.perm.length_eq]; exact List.length_filter_le _ _
end Go.Proofs.YtolgpnaoaodepaaGreat.Tr
/- Changes are put in order, by insertion. -/
namespace Go.Proofs.YtolgpnaoaodepaaGreat
open Go.RowKit

theorem wgC : ∀ (ml : List (Int × ByteArray × ByteArray)) (i : Nat), i < ml.length → ∀ (c : Int × ByteArray × ByteArray), ccells (ml.set i c) = (((ccells ml).set (i * 3) (.int .i64 c.1)).set (i * 3 + 1) (.string c.2.1)).set (i * 3 + 2) (.string c.2.2)
  | [], _, hi, _ => by simp at hi
  | d :: r, 0, _, c => rfl
  | d :: r, i + 1, hi, c => by
    have ih := wgC r i (by simpa using hi) c
    have e : ∀ l, ccells (d :: l) = Value.int .i64 d.1 :: Value.string d.2.1 :: Value.string d.2.2 :: ccells l := fun l => rfl
    rw [List.set_cons_succ, e, e, ih, show (i + 1) * 3 = i * 3 + 3 by omega]
    rfl
/-- One change is another. -/
theorem OwnsC.set {w : World} {g cap n : Nat} {ml : List (Int × ByteArray × ByteArray)} (h : OwnsC 0 w (.slice (some ⟨g, 0, none⟩) n cap) ml) (i : Nat) (hi : i < ml.length) (c : Int × ByteArray × ByteArray) : OwnsC 0 (((w.setCell ⟨g, i * 3, none⟩ (.int .i64 c.1)).setCell ⟨g, i * 3 + 1, none⟩ (.string c.2.1)).setCell ⟨g, i * 3 + 2, none⟩ (.string c.2.2)) (.slice (some ⟨g, 0, none⟩) n cap) (ml.set i c) := by
  obtain ⟨a, c', e'⟩ := rowShape h
  simp only [Value.slice.injEq] at e'
  obtain ⟨-, rfl, -⟩ := e'
  have h1 := row_store (row_store (row_store h (i * 3) (.int .i64 c.1)) (i * 3 + 1) (.string c.2.1)) (i * 3 + 2) (.string c.2.2)
  unfold OwnsC
  rw [List.length_set]
  have e : ccells (ml.set i c) = (((ccells ml).set (i * 3) (.int .i64 c.1)).set (i * 3 + 1) (.string c.2.1)).set (i * 3 + 2) (.string c.2.2) := wgC ml i hi c
  rw [e]
  exact h1
theorem OwnsC.froz {w : World} {g cap n : Nat} {ml : List (Int × ByteArray × ByteArray)} (h : OwnsC 0 w (.slice (some ⟨g, 0, none⟩) n cap) ml) (hn : 0 < ml.length) (o : Nat) : w.frozen? ⟨g, o, none⟩ = false := by
  rcases h.2 with ⟨q, hn'⟩ | ⟨g', cap', cur, e, hb, hg, hc, hm, hcs, htk⟩
  · omega
  · simp only [Value.slice.injEq, Option.some.injEq, Addr.mk.injEq, and_true] at e
    obtain ⟨rfl, -, rfl⟩ := e
    simp [World.frozen?, hg]
theorem plainCh_set (ml : List (Int × ByteArray × ByteArray)) (i : Nat) (c : Int × ByteArray × ByteArray) : plainCh (ml.set i c) = (plainCh ml).set i (c.1, c.2.1.data.toList, c.2.2.data.toList) := by
  unfold plainCh; rw [List.map_set]
theorem plainCh_nth (ml : List (Int × ByteArray × ByteArray)) {i : Nat} (hi : i < ml.length) : Hp.nth (0, [], []) (plainCh ml) i = ((ml[i]'hi).1, (ml[i]'hi).2.1.data.toList, (ml[i]'hi).2.2.data.toList) := by
  rw [Hp.nth_get _ _ (by rw [plainCh_len]; exact hi)]
  simp [plainCh]
/-- Changes that are put in order, so far. -/
structure SrM (w : World) (v : Value) (ml ml' : List (Int × ByteArray × ByteArray)) (wr : World) : Prop where
  row : OwnsC 0 wr v ml'
  stb : Tr.Stb (plainCh ml) (plainCh ml')
  mod : Mod (fun g => v.ownBlock = some g) w wr
theorem SrM.len {w : World} {v : Value} {ml ml' : List (Int × ByteArray × ByteArray)} {wr : World} (h : SrM w v ml ml' wr) : ml'.length = ml.length := by
  rw [← plainCh_len ml', ← plainCh_len ml]; exact h.stb.perm.length_eq
theorem SrM.below {w : World} {v : Value} {ml ml' : List (Int × ByteArray × ByteArray)} {wr w' : World} (h : SrM w v ml ml' wr) (hb : Below wr.heap.size wr w') : SrM w v ml ml' w' :=
  ⟨row_below h.row hb (Nat.le_refl _), h.stb, h.mod.trans (Mod.of_below (F := fun _ => False) hb) (fun _ _ q => q) (fun _ _ q => q.elim)⟩
def sw6 (w : World) (g j : Nat) (c0 c1 : Int × ByteArray × ByteArray) : World := (((((w.setCell ⟨g, (j + 1) * 3, none⟩ (.int .i64 c0.1)).setCell ⟨g, (j + 1) * 3 + 1, none⟩ (.string c0.2.1)).setCell ⟨g, (j + 1) * 3 + 2, none⟩ (.string c0.2.2)).setCell ⟨g, j * 3, none⟩ (.int .i64 c1.1)).setCell ⟨g, j * 3 + 1, none⟩ (.string c1.2.1)).setCell ⟨g, j * 3 + 2, none⟩ (.string c1.2.2)
theorem Mod.set3 (w : World) (g i : Nat) (a b c : Value) : Mod (fun k => k = g) w (((w.setCell ⟨g, i, none⟩ a).setCell ⟨g, i + 1, none⟩ b).setCell ⟨g, i + 2, none⟩ c) :=
  ((Mod.setCell w g i a).trans (Mod.setCell _ g (i + 1) b) (fun _ _ q => q) (fun _ _ q => q)).trans (Mod.setCell _ g (i + 2) c) (fun _ _ q => q) (fun _ _ q => q)
/-- Neighbours change places. -/
theorem SrM.swap {w : World} {g cap n : Nat} {ml ml' : List (Int × ByteArray × ByteArray)} {wr : World} (h : SrM w (.slice (some ⟨g, 0, none⟩) n cap) ml ml' wr) (j : Nat) (hj : j + 1 < ml'.length) (hj0 : j < ml'.length) {c0 c1 : Int × ByteArray × ByteArray} (e0 : ml'[j]'hj0 = c0) (e1 : ml'[j + 1]'hj = c1) (hlt : c1.2.1.data.toList < c0.2.1.data.toList) :
    SrM w (.slice (some ⟨g, 0, none⟩) n cap) ml ((ml'.set (j + 1) c0).set j c1) (sw6 wr g j c0 c1).drew ∧ plainCh ((ml'.set (j + 1) c0).set j c1) = Hp.swL (0, [], []) (plainCh ml') j (j + 1) := by
  have e : plainCh ((ml'.set (j + 1) c0).set j c1) = Hp.swL (0, [], []) (plainCh ml') j (j + 1) := by
    unfold Hp.swL
    rw [plainCh_set, plainCh_set, plainCh_nth ml' hj, plainCh_nth ml' hj0, e0, e1, List.set_comm _ _ (show j + 1 ≠ j by omega)]
  have hrow : OwnsC 0 (sw6 wr g j c0 c1) (.slice (some ⟨g, 0, none⟩) n cap) ((ml'.set (j + 1) c0).set j c1) := by
    have h1 := OwnsC.set h.row (j + 1) hj c0
    have h2 := OwnsC.set h1 j (by rw [List.length_set]; exact hj0) c1
    unfold sw6
    exact h2
  refine ⟨⟨(show OwnsC 0 (World.drew (sw6 wr g j c0 c1)) _ _ by generalize sw6 wr g j c0 c1 = W at *; exact hrow), ?_, ?_⟩, e⟩
  · rw [e]
    refine h.stb.swap _ (by rw [plainCh_len]; exact hj) ?_
    rw [plainCh_nth ml' hj, plainCh_nth ml' hj0, e0, e1]
    exact hlt
  · have m1 := Mod.set3 wr g ((j + 1) * 3) (.int .i64 c0.1) (.string c0.2.1) (.string c0.2.2)
    have m2 := Mod.set3 (((wr.setCell ⟨g, (j + 1) * 3, none⟩ (.int .i64 c0.1)).setCell ⟨g, (j + 1) * 3 + 1, none⟩ (.string c0.2.1)).setCell ⟨g, (j + 1) * 3 + 2, none⟩ (.string c0.2.2)) g (j * 3) (.int .i64 c1.1) (.string c1.2.1) (.string c1.2.2)
    have m12 : Mod (fun k => k = g) wr (sw6 wr g j c0 c1) := m1.trans m2 (fun _ _ q => q) (fun _ _ q => q)
    have m : Mod (fun k => (Value.slice (some ⟨g, 0, none⟩) n cap).ownBlock = some k) w (sw6 wr g j c0 c1) := h.mod.trans m12 (fun _ _ q => q) (fun k _ q => by rw [q]; rfl)
    generalize sw6 wr g j c0 c1 = W at *
    exact ⟨m.os, m.tape, m.output, m.size, m.block⟩
end Go.Proofs.YtolgpnaoaodepaaGreat
/- slices.IndexFunc and slices.DeleteFunc of changes. -/
namespace Go.Proofs.YtolgpnaoaodepaaGreat
open Go.RowKit

theorem zeroC : ∀ w, (Go.zeroValue 34).run Tryz.prog w = .ok (.agg #[.int .i64 0, .string ⟨#[]⟩, .string ⟨#[]⟩]) w := by
  intro w
  obtain ⟨i, hi, hz0, hz1, hz2⟩ := info_parts info_change
  simp [Go.zeroValue, typeInfo, hi, hz0]
theorem zeroC_cells (n : Nat) : (Builtin.zeroCells (Value.agg #[.int .i64 0, .string ⟨#[]⟩, .string ⟨#[]⟩]).cells n).size = n * 3 ∧ ∀ v ∈ (Builtin.zeroCells (Value.agg #[.int .i64 0, .string ⟨#[]⟩, .string ⟨#[]⟩]).cells n).toList, v.oneCell' = true := by
  constructor
  · rw [size_zeroCells]; rfl
  · intro v hv
    simp only [Builtin.zeroCells, Array.toList_map, List.mem_map] at hv
    obtain ⟨i, _, rfl⟩ := hv
    show ((#[Value.int .i64 0, Value.string ⟨#[]⟩, Value.string ⟨#[]⟩] : Array Value)[i % 3]!).oneCell' = true
    rcases (show i % 3 = 0 ∨ i % 3 = 1 ∨ i % 3 = 2 by omega) with q | q | q <;> rw [q] <;> rfl
/-- Is it ahead? -/
def aheadB (fr : ByteArray) (c : Int × ByteArray × ByteArray) : Bool := decide (c.2.1.data.toList < fr.data.toList)
/-- The function that tells it. -/
def aheadF (fb : Nat) : Value := .func (.func 238) #[] #[.pointer (some ⟨fb, 0, none⟩)]
theorem ahead_call (c : Int × ByteArray × ByteArray) (fr : ByteArray) (fb : Nat) (w : World) (hf : w.cell? ⟨fb, 0, none⟩ = some (.string fr)) (hlt : fb < w.heap.size) :
    Calls Tryz.prog 238 #[.agg #[.int .i64 c.1, .string c.2.1, .string c.2.2], .pointer (some ⟨fb, 0, none⟩)] w fun r w' => r = .returned (.bool (aheadB fr c)) ∧ Below w.heap.size w w' := ahead_any c.1 c.2.1 c.2.2 fr fb w hf hlt
set_option maxHeartbeats 400000 in
theorem indexFunc_any (v : Value) (ml : List (Int × ByteArray × ByteArray)) (fr : ByteArray) (fb : Nat) (w : World) (h : OwnsC 0 w v ml) (hl : ml.length ≤ 1000000) (hf : w.cell? ⟨fb, 0, none⟩ = some (.string fr)) (hlt : fb < w.heap.size) :
    Calls Tryz.prog 263 #[v, aheadF fb] w fun r w' => Below w.heap.size w w' ∧ ((r = .returned (.int .i64 (-1)) ∧ ∀ c ∈ ml, aheadB fr c = false) ∨ ∃ (i : Nat) (hi : i < ml.length), r = .returned (.int .i64 (i : Nat)) ∧ (∀ c ∈ ml.take i, aheadB fr c = false) ∧ aheadB fr (ml[i]'hi) = true) := by
  have H := hid h
  have HF := hid hf
  obtain ⟨a, c, rfl⟩ := rowShape h
  clear h hf
  unfold aheadF
  go_enter Tryz.func263, Tryz.ntmps263
  go_wp2_with fail
  go_loopw [8] (fun vi wr => ∃ i : Nat, vi = .int .i64 (i : Nat) ∧ i ≤ ml.length ∧ (∀ c ∈ ml.take i, aheadB fr c = false) ∧ Below w.heap.size w wr) (fun vi _ => ml.length - (intOf vi).toNat)
  case atStart => exact ⟨0, rfl, Nat.zero_le _, fun c hc => by simp at hc, Below.refl _ _⟩
  case round =>
    obtain ⟨i, rfl, hi, hA, hb⟩ := hrel
    have HA := hid hA
    have HB := hid hb
    have hbs := hb.size
    clear hA hb
    by_cases hin : i < ml.length
    · obtain ⟨g, cap, e, hc1, -, hg, d0, d1, d2⟩ := H.out.at i hin
      simp only [Value.slice.injEq] at e
      obtain ⟨rfl, -, rfl⟩ := e
      have hs1 := fun o => HB.out.cell (p := ⟨g, o, none⟩) hg
      have d0' := (hs1 _).trans d0
      have d1' := (hs1 _).trans d1
      have d2' := (hs1 _).trans d2
      have HC := hid (ahead_call (ml[i]'hin) fr fb wr ((HB.out.cell (p := ⟨fb, 0, none⟩) hlt).trans HF.out) (by omega))
      have HTK : Hid (ml.take (i + 1) = ml.take i ++ [ml[i]'hin]) := by
        show _ = _
        rw [List.take_add_one, List.getElem?_eq_getElem hin]; rfl
      clear hs1 d0 d1 d2
      cases hah : aheadB fr (ml[i]'hin) with
      | true =>
        rw [hah] at HC
        have HAH := hid hah
        clear hah
        go_wp2_with fail
        refine HC.out.mono ?_
        rintro r w2 ⟨rfl, hb2⟩
        have HB2 := hid (HB.out.trans (hb2.mono hbs))
        clear hb2
        go_wp2_with fail
        go_ret
        exact ⟨HB2.out, .inr ⟨i, hin, rfl, HA.out, HAH.out⟩⟩
      | false =>
        rw [hah] at HC
        have HA2 : Hid (∀ c ∈ ml.take (i + 1), aheadB fr c = false) := fun c hc => by
          rw [HTK.out] at hc
          rcases List.mem_append.1 hc with q | q
          · exact HA.out c q
          · rw [List.mem_singleton.1 q]; exact hah
        clear hah
        go_wp2_with fail
        refine HC.out.mono ?_
        rintro r w2 ⟨rfl, hb2⟩
        have HB2 := hid (HB.out.trans (hb2.mono hbs))
        clear hb2
        go_wp2_with fail
        exact ⟨⟨i + 1, by go_num, by omega, HA2.out, HB2.out⟩, by simp [intOf]; omega⟩
    · have hie : i = ml.length := by omega
      subst hie
      have HA2 : Hid (∀ c ∈ ml, aheadB fr c = false) := by
        have := HA.out; rw [List.take_length] at this; exact this
      go_wp2_with fail
      go_ret
      exact ⟨HB.out, .inl ⟨rfl, HA2.out⟩⟩
/-- Changes that are being left out. -/
structure DelM (w : World) (v : Value) (ml : List (Int × ByteArray × ByteArray)) (fr : ByteArray) (i j : Nat) (ml' : List (Int × ByteArray × ByteArray)) (wr : World) : Prop where
  row : OwnsC 0 wr v ml'
  len : ml'.length = ml.length
  hd : ml'.take i = (ml.take j).filter fun c => !aheadB fr c
  tl : ml'.drop j = ml.drop j
  lt : i < j
  le : j ≤ ml.length
  mod : Mod (fun g => v.ownBlock = some g) w wr
theorem filter_all {α : Type} {P : α → Bool} {l : List α} (h : ∀ c ∈ l, P c = false) : l.filter (fun c => !P c) = l := List.filter_eq_self.2 fun c hc => by rw [h c hc]; rfl
theorem DelM.start {w wr : World} {v : Value} {ml : List (Int × ByteArray × ByteArray)} {fr : ByteArray} {i : Nat} (h : OwnsC 0 w v ml) (hi : i < ml.length) (h1 : ∀ c ∈ ml.take i, aheadB fr c = false) (h2 : aheadB fr (ml[i]'hi) = true) (hb : Below w.heap.size w wr) : DelM w v ml fr i (i + 1) ml wr := by
  refine ⟨row_below h hb (Nat.le_refl _), rfl, ?_, rfl, by omega, by omega, Mod.of_below hb⟩
  rw [take_filter ml _ i hi, h2, filter_all h1]; simp
theorem DelM.elem {w wr : World} {v : Value} {ml ml' : List (Int × ByteArray × ByteArray)} {fr : ByteArray} {i j : Nat} (h : DelM w v ml fr i j ml' wr) (hj : j < ml.length) : ml'[j]'(by rw [h.len]; exact hj) = ml[j]'hj := by
  have h1 := congrArg (fun l => l[0]?) h.tl
  simp only [List.getElem?_drop, Nat.add_zero] at h1
  rw [List.getElem?_eq_getElem hj, List.getElem?_eq_getElem (by rw [h.len]; exact hj)] at h1
  exact Option.some.inj h1
theorem DelM.skip {w wr w' : World} {v : Value} {ml ml' : List (Int × ByteArray × ByteArray)} {fr : ByteArray} {i j : Nat} (h : DelM w v ml fr i j ml' wr) (hj : j < ml.length) (ha : aheadB fr (ml[j]'hj) = true) (hb : Below wr.heap.size wr w') : DelM w v ml fr i (j + 1) ml' w' := by
  refine ⟨row_below h.row hb (Nat.le_refl _), h.len, ?_, ?_, by have := h.lt; omega, by omega, h.mod.trans (Mod.of_below (F := fun _ => False) hb) (fun _ _ q => q) (fun _ _ q => q.elim)⟩
  · rw [take_filter ml _ j hj, ha, h.hd]; simp
  · have := congrArg (List.drop 1) h.tl
    rw [List.drop_drop, List.drop_drop] at this
    exact this
theorem DelM.keep {w wr w' : World} {g n cap : Nat} {ml ml' : List (Int × ByteArray × ByteArray)} {fr : ByteArray} {i j : Nat} (h : DelM w (.slice (some ⟨g, 0, none⟩) n cap) ml fr i j ml' wr) (hj : j < ml.length) (ha : aheadB fr (ml[j]'hj) = false) (hb : Below wr.heap.size wr w') {c : Int × ByteArray × ByteArray} (hc : ml[j]'hj = c) : DelM w (.slice (some ⟨g, 0, none⟩) n cap) ml fr (i + 1) (j + 1) (ml'.set i c) (((w'.setCell ⟨g, i * 3, none⟩ (.int .i64 c.1)).setCell ⟨g, i * 3 + 1, none⟩ (.string c.2.1)).setCell ⟨g, i * 3 + 2, none⟩ (.string c.2.2)) := by
  have hlt := h.lt
  have hlen := h.len
  have hrow := OwnsC.set (row_below h.row hb (Nat.le_refl _)) i (by omega) c
  have m := Mod.set3 w' g (i * 3) (.int .i64 c.1) (.string c.2.1) (.string c.2.2)
  refine ⟨hrow, by rw [List.length_set]; exact hlen, ?_, ?_, by omega, by omega, (h.mod.trans (Mod.of_below (F := fun _ => False) hb) (H := fun k => (Value.slice (some ⟨g, 0, none⟩) n cap).ownBlock = some k) (fun _ _ q => q) (fun _ _ q => q.elim)).trans m (fun _ _ q => q) (fun k _ q => by rw [q]; rfl)⟩
  · rw [take_filter ml _ j hj, ha, hc, ← h.hd, List.take_add_one, List.take_set_of_le (Nat.le_refl _), List.getElem?_set_self (by omega)]
    rfl
  · rw [List.drop_set_of_lt (by omega)]
    have := congrArg (List.drop 1) h.tl
    rw [List.drop_drop, List.drop_drop] at this
    exact this
end Go.Proofs.YtolgpnaoaodepaaGreat
/- The walk of slices.DeleteFunc of changes. -/
namespace Go.Proofs.YtolgpnaoaodepaaGreat
open Go.RowKit

theorem ccells_len3 (l : List (Int × ByteArray × ByteArray)) : (ccells l).length = l.length * 3 := by
  induction l with
  | nil => rfl
  | cons c r ih => show (ccells r).length + 3 = _; rw [ih, List.length_cons]; omega
theorem ccells_take : ∀ (l : List (Int × ByteArray × ByteArray)) (i : Nat), ccells (l.take i) = (ccells l).take (i * 3)
  | [], i => by simp [ccells]
  | c :: r, 0 => by simp [ccells]
  | c :: r, i + 1 => by
    have e : ∀ l, ccells (c :: l) = Value.int .i64 c.1 :: Value.string c.2.1 :: Value.string c.2.2 :: ccells l := fun l => rfl
    rw [List.take_succ_cons, e, e, ccells_take r i, show (i + 1) * 3 = i * 3 + 3 by omega]; rfl
/-- What is behind is struck out. -/
theorem DelM.clear {w wr : World} {g n cap : Nat} {ml ml' : List (Int × ByteArray × ByteArray)} {fr : ByteArray} {i : Nat} (h : DelM w (.slice (some ⟨g, 0, none⟩) n cap) ml fr i ml.length ml' wr) : n = ml.length ∧ ml.length ≤ cap ∧ ∃ w', (∀ ty, (Builtin.clear_ #[77] ty #[.slice (some ⟨g, i * 3, none⟩) (ml.length - i) (cap - i)]).run Tryz.prog wr = .ok (.tuple #[]) w') ∧ OwnsC 0 w' (.slice (some ⟨g, 0, none⟩) i cap) (ml.filter fun c => !aheadB fr c) ∧ Mod (fun k => k = g) w w' := by
  have hlt := h.lt
  have hlen := h.len
  have hhd := h.hd
  rw [List.take_length] at hhd
  rcases h.row.2 with ⟨_, hn⟩ | ⟨g', cap', cur, e, hb, hg, hc, hm, hcs, htk⟩
  · omega
  simp only [Value.slice.injEq, Option.some.injEq, Addr.mk.injEq, and_true] at e
  obtain ⟨rfl, en, rfl⟩ := e
  have hclen : cur.toList.length = cap * 3 := by simpa using hcs
  have hfit : i * 3 + (ml.length - i) * 3 ≤ cur.size := by rw [hcs]; omega
  refine ⟨by omega, by omega, _, fun ty => run_clear_at wr 77 ty 34 (.agg #[.int .i64 0, .string ⟨#[]⟩, .string ⟨#[]⟩]) 3 g (i * 3) (ml.length - i) (cap - i) cur 34 Tryz.underlying77 zeroC (zeroC_cells _).1 (zeroC_cells _).2 hg hfit, ?_, ?_⟩
  · have hki : (ml.filter fun c => !aheadB fr c).length = i := by rw [← hhd, List.length_take]; omega
    unfold OwnsC
    rw [hki]
    refine row_of (setRow_at hg _) (by omega) hm ?_ ?_ (by rw [ccells_len3, hki])
    · simp only [List.length_append, List.length_take, List.length_drop, Array.length_toList, (zeroC_cells _).1, hclen]
      omega
    · rw [List.append_assoc, List.take_append_of_le_length (by rw [List.length_take, hclen]; omega), List.take_take, Nat.min_self, ← hhd, ccells_take, ← htk, List.take_take, Nat.min_eq_left (by omega)]
  · have h1 := setRow_grown wr g (cur.toList.take (i * 3) ++ (Builtin.zeroCells (Value.agg #[.int .i64 0, .string ⟨#[]⟩, .string ⟨#[]⟩]).cells (ml.length - i)).toList ++ cur.toList.drop (i * 3 + (ml.length - i) * 3)).toArray
    exact h.mod.trans (Mod.of_grown h1) (fun k _ q => (Option.some.inj q).symm) (fun k _ q => (Option.some.inj q).symm)

set_option maxHeartbeats 1000000 in
set_option maxRecDepth 4000 in
theorem deleteFunc_any (v : Value) (ml : List (Int × ByteArray × ByteArray)) (fr : ByteArray) (fb : Nat) (w : World) (h : OwnsC 0 w v ml) (hl : ml.length ≤ 1000000) (hf : w.cell? ⟨fb, 0, none⟩ = some (.string fr)) (hlt : fb < w.heap.size) (hne : v.ownBlock ≠ some fb) :
    Calls Tryz.prog 237 #[v, aheadF fb] w fun r w' => ∃ v', r = .returned v' ∧ OwnsC 0 w' v' (ml.filter fun c => !aheadB fr c) ∧ v'.ownBlock = v.ownBlock ∧ Mod (fun g => v.ownBlock = some g) w w' := by
  have HX := hid (indexFunc_any v ml fr fb w h hl hf hlt)
  have H := hid h
  have HF := hid hf
  have HNE := hid hne
  obtain ⟨a, c, rfl⟩ := rowShape h
  clear h hf hne
  have HAF : Hid (aheadF fb = .func (.func 238) #[] #[.pointer (some ⟨fb, 0, none⟩)]) := rfl
  rw [HAF.out] at HX ⊢
  go_enter Tryz.func237, Tryz.ntmps237
  go_wp2_with fail
  refine HX.out.mono ?_
  rintro r w1 ⟨hb1, ⟨rfl, hall⟩ | ⟨i0, hi0, rfl, hn0, ha0⟩⟩
  · have HR : Hid (OwnsC 0 w1 (.slice a ml.length c) (ml.filter fun c => !aheadB fr c)) := by
      show OwnsC _ _ _ _
      rw [filter_all hall]; exact row_below H.out hb1 (Nat.le_refl _)
    have HM : Hid (Mod (fun g => (Value.slice a ml.length c).ownBlock = some g) w w1) := Mod.of_below hb1
    clear hb1 hall
    go_wp2_with fail
    go_ret
    exact ⟨_, rfl, HR.out, rfl, HM.out⟩
  · have HD0 := hid (DelM.start H.out hi0 hn0 ha0 hb1)
    obtain ⟨g, cap, e, hcap, -, hg, -, -, -⟩ := H.out.at i0 hi0
    simp only [Value.slice.injEq] at e
    obtain ⟨rfl, -, rfl⟩ := e
    clear hb1 hn0 ha0
    have xw : IntKind.i64.wrap ((i0 : Int) + 1) = (i0 : Int) + 1 := by rw [IntKind.wrap_i64]; omega
    have hne1 : ((i0 : Int) == -1) = false := by simp
    go_wp2_with fail
    go_loopw [5, 6] (fun vi vj wr => ∃ i j ml', vi = .int .i64 (i : Nat) ∧ vj = .int .i64 (j : Nat) ∧ DelM w (.slice (some ⟨g, 0, none⟩) ml.length c) ml fr i j ml' wr) (fun _ vj _ => ml.length - (intOf vj).toNat)
    case atStart => exact ⟨i0, i0 + 1, ml, rfl, by go_num, HD0.out⟩
    case round =>
      obtain ⟨i, j, ml1, rfl, rfl, hD⟩ := hrel
      have HD := hid hD
      have hij := hD.lt
      have hjl := hD.le
      have hl1 := hD.len
      clear hD
      by_cases hjn : j < ml.length
      · obtain ⟨g1, cap1, e, -, -, hg1, d0, d1, d2⟩ := HD.out.row.at j (by omega)
        simp only [Value.slice.injEq, Option.some.injEq, Addr.mk.injEq, and_true] at e
        obtain ⟨rfl, -, -⟩ := e
        rw [HD.out.elem hjn] at d0 d1 d2
        obtain ⟨cj, hcj⟩ : ∃ cj, ml[j]'hjn = cj := ⟨_, rfl⟩
        rw [hcj] at d0 d1 d2
        have HCJ := hid hcj
        have hb1 : Below wr.heap.size wr (wr.alloc (.cells #[.int .i64 cj.1, .string cj.2.1, .string cj.2.2] 34)) := (Below.refl _ wr).alloc (Nat.le_refl _) _
        have hfw : (wr.alloc (.cells #[.int .i64 cj.1, .string cj.2.1, .string cj.2.2] 34)).cell? ⟨fb, 0, none⟩ = some (.string fr) := (hb1.cell (p := ⟨fb, 0, none⟩) (by have := HD.out.mod.size; show fb < _; omega)).trans ((World.cell?_of_block (w := w) (a := ⟨fb, 0, none⟩) (HD.out.mod.block fb hlt HNE.out)).trans HF.out)
        have HC := hid (ahead_call cj fr fb _ hfw (by have := HD.out.mod.size; have := hb1.size; omega))
        have HB1 := hid hb1
        have HX1 : Hid (ChB (wr.alloc (.cells #[.int .i64 cj.1, .string cj.2.1, .string cj.2.2] 34)) wr.heap.size cj.1 cj.2.1 cj.2.2) := heap_alloc_new _ _
        clear hb1 hfw hcj HX
        have xj : IntKind.i64.wrap ((j : Int) + 1) = (j : Int) + 1 := by rw [IntKind.wrap_i64]; omega
        have xi : IntKind.i64.wrap ((i : Int) + 1) = (i : Int) + 1 := by rw [IntKind.wrap_i64]; omega
        obtain ⟨kj, yj, zj⟩ := cj
        cases hah : aheadB fr (kj, yj, zj) with
        | true =>
          rw [hah] at HC
          have HAH := hid hah
          clear hah
          go_wp2_with fail
          refine HC.out.mono ?_
          rintro r w3 ⟨rfl, hb3⟩
          have HD3 := hid (HD.out.skip hjn (by rw [HCJ.out]; exact HAH.out) (HB1.out.trans (hb3.mono HB1.out.size)))
          clear hb3
          go_wp2_with fail
          exact ⟨⟨i, j + 1, ml1, rfl, by go_num, HD3.out⟩, by simp [intOf]; omega⟩
        | false =>
          rw [hah] at HC
          have HAH := hid hah
          clear hah
          go_wp2_with fail
          refine HC.out.mono ?_
          rintro r w3 ⟨rfl, hb3⟩
          have hb4 := HB1.out.trans (hb3.mono HB1.out.size)
          have HD3 := hid (HD.out.keep hjn (by rw [HCJ.out]; exact HAH.out) hb4 HCJ.out)
          have hrow3 : OwnsC 0 w3 (.slice (some ⟨g, 0, none⟩) ml.length c) ml1 := row_below HD.out.row hb4 (Nat.le_refl _)
          obtain ⟨g1, cap1, e, -, -, -, q0, q1, q2⟩ := hrow3.at i (by omega)
          simp only [Value.slice.injEq, Option.some.injEq, Addr.mk.injEq, and_true] at e
          obtain ⟨rfl, -, -⟩ := e
          have hfz := hrow3.froz (by omega)
          have hx3 : ChB w3 wr.heap.size kj yj zj := (hb3.block _ HX1.out.lt).trans HX1.out
          obtain ⟨p0, p1, p2⟩ := hx3.cells
          have b1 : i < ml.length := by omega
          clear hb3 hb4 hrow3 hx3 d0 d1 d2
          go_wp2_with fail
          exact ⟨⟨i + 1, j + 1, _, by go_num, by go_num, HD3.out⟩, by simp [intOf]; omega⟩
      · have hje : j = ml.length := by omega
        subst hje
        obtain ⟨-, hcp, w5, e5, ho5, hm5⟩ := HD.out.clear
        have HE5 := hid e5
        have HO5 := hid ho5
        have HM5 : Hid (Mod (fun k => (Value.slice (some ⟨g, 0, none⟩) ml.length c).ownBlock = some k) w w5) := hm5.mono fun k _ q => by rw [q]; rfl
        have b1 : i ≤ ml.length := by omega
        have b2 : ¬ c = i := by omega
        have b3 : i ≤ c := by omega
        clear e5 ho5 hm5
        go_wp2_with (refine wpCl wr (by rfl) (.tmp 38) 77 (by rfl) _ (by rfl) _ _ (HE5.out _) ?_)
        go_ret
        exact ⟨_, rfl, HO5.out, rfl, HM5.out⟩
end Go.Proofs.YtolgpnaoaodepaaGreat
