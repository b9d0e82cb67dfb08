/- Plain mathematics: a leaf's page, part by part; what is written is read. -/
import Derived.Test.YtolgpnaoaodepaaWalkAIm
namespace Go.Proofs.Ytolgpnaoaodepaa.Pr
open Pg
abbrev Its := List (List UInt8 × List UInt8)
/-- Items, four by four. -/
def partsN : Nat → Its → List Its
  | 0, _ => []
  | f + 1, l => if l = [] then [] else l.take 4 :: partsN f (l.drop 4)
def parts (l : Its) : List Its := partsN (many l.length) l
def sec1 (p : Its) : List UInt8 := section_ [98] (basement p)
def secs (ps : List Its) : List (List UInt8) := ps.map sec1
def first1 (p : Its) : List UInt8 := (p.map (·.1)).getD 0 []
def firsts (ps : List Its) : List (List UInt8) := ps.map first1
theorem lt_tr {a b c : List UInt8} (h : a < b) (h2 : b < c) : a < c := List.lt_trans h h2
theorem lt_ir (a : List UInt8) : ¬ a < a := List.lt_irrefl a
theorem lt_tri (a b : List UInt8) (h : ¬ a < b) : b < a ∨ a = b := by
  rcases List.le_iff_lt_or_eq.1 (List.not_lt.1 h) with h | h
  · exact .inl h
  · exact .inr h.symm
theorem parts_ne : ∀ (f : Nat) (l : Its), ∀ p ∈ partsN f l, p ≠ [] ∧ p.length ≤ 4
  | 0, _, p, h => by simp [partsN] at h
  | f + 1, l, p, h => by
    rw [partsN] at h
    split at h
    · simp at h
    · rename_i hl
      rcases List.mem_cons.1 h with rfl | h
      · refine ⟨?_, by rw [List.length_take]; omega⟩
        intro e
        have := congrArg List.length e
        rw [List.length_take] at this
        have h0 : l.length ≠ 0 := fun e => hl (List.length_eq_zero_iff.1 e)
        rw [List.length_nil] at this
        omega
      · exact parts_ne f _ p h
theorem parts_flat : ∀ (f : Nat) (l : Its), l.length ≤ 4 * f → (partsN f l).flatten = l
  | 0, l, h => by
    have : l = [] := List.length_eq_zero_iff.1 (by omega)
    subst this; rfl
  | f + 1, l, h => by
    rw [partsN]
    split
    · rename_i hl; subst hl; rfl
    · rw [List.flatten_cons, parts_flat f (l.drop 4) (by rw [List.length_drop]; omega), List.take_append_drop]
theorem parts_len : ∀ (f : Nat) (l : Its), (partsN f l).length ≤ f
  | 0, l => by simp [partsN]
  | f + 1, l => by
    rw [partsN]
    split
    · simp
    · rw [List.length_cons]; have := parts_len f (l.drop 4); omega
theorem parts_many : ∀ (f : Nat) (l : Its), f = many l.length → (partsN f l).length = f
  | 0, l, _ => by simp [partsN]
  | f + 1, l, h => by
    have hl : l ≠ [] := by rintro rfl; simp [many] at h
    have hp : 0 < l.length := List.length_pos_iff.2 hl
    rw [partsN, if_neg hl, List.length_cons, parts_many f (l.drop 4) (by rw [List.length_drop]; unfold many at *; omega)]
theorem entries_is : ∀ (f : Nat) (l : Its), entries f l = heads ((secs (partsN f l)).map List.length) (firsts (partsN f l))
  | 0, l => by simp [entries, partsN, secs, firsts, heads]
  | f + 1, l => by
    rw [entries, partsN]
    by_cases hl : l = []
    · rw [if_pos hl, if_pos hl]; simp [secs, firsts, heads]
    · rw [if_neg hl, if_neg hl]
      match l, hl with
      | (k, v) :: r, _ =>
        simp only [secs, firsts, List.map_cons, heads]
        rw [entries_is f]
        rfl
theorem bases_is : ∀ (f : Nat) (l : Its), bases f l = (secs (partsN f l)).flatten
  | 0, l => by simp [bases, partsN, secs]
  | f + 1, l => by
    rw [bases, partsN]
    by_cases hl : l = []
    · rw [if_pos hl, if_pos hl]; simp [secs]
    · rw [if_neg hl, if_neg hl, bases_is f]
      simp only [secs, List.map_cons, List.flatten_cons]
      rfl
theorem leaf_is (l : Its) : leaf l = headW ((secs (parts l)).map List.length) (firsts (parts l)) ++ (secs (parts l)).flatten := by
  unfold leaf headW parts
  rw [entries_is, bases_is]
  congr 5
  simp only [secs, List.length_map, parts_many _ _ rfl]
/-- Items may be, and their keys rise. -/
def Fine (l : Its) : Prop := (∀ x ∈ l, isKey x.1.length = true ∧ x.2.length ≤ 16) ∧ l.Pairwise fun x y => x.1 < y.1
theorem rises_tr {p : Option (List UInt8)} {a b : List UInt8} (h : rises p a = true) (h2 : a < b) : rises p b = true := by
  cases p with
  | none => rfl
  | some q => simp only [rises, decide_eq_true_eq] at *; exact lt_tr h h2
theorem okList_iff : ∀ (l : Its) (p : Option (List UInt8)), okList l p = true ↔ Fine l ∧ ∀ x ∈ l, rises p x.1 = true
  | [], p => by simp [okList, Fine]
  | y :: r, p => by
    have ih := okList_iff r (some y.1)
    simp only [okList, Bool.and_eq_true, decide_eq_true_eq, ih, Fine]
    constructor
    · rintro ⟨⟨⟨h1, h2⟩, h3⟩, ⟨h4, h5⟩, h6⟩
      refine ⟨⟨?_, ?_⟩, ?_⟩
      · intro x hx
        rcases List.mem_cons.1 hx with rfl | hx
        · exact ⟨h1, h2⟩
        · exact h4 x hx
      · refine List.pairwise_cons.2 ⟨fun x hx => ?_, h5⟩
        have := h6 x hx
        simpa [rises] using this
      · intro x hx
        rcases List.mem_cons.1 hx with rfl | hx
        · exact h3
        · exact rises_tr h3 (by have := h6 x hx; simpa [rises] using this)
    · rintro ⟨⟨h1, h2⟩, h3⟩
      obtain ⟨h4, h5⟩ := List.pairwise_cons.1 h2
      refine ⟨⟨⟨(h1 y (by simp)).1, (h1 y (by simp)).2⟩, h3 y (by simp)⟩, ⟨fun x hx => h1 x (by simp [hx]), h5⟩, fun x hx => ?_⟩
      simp only [rises, decide_eq_true_eq]
      exact h4 x hx
theorem okPivots_iff : ∀ (l : List (List UInt8)) (p : Option (List UInt8)), okPivots l p = true ↔ ((∀ x ∈ l, isKey x.length = true) ∧ l.Pairwise (· < ·)) ∧ ∀ x ∈ l, rises p x = true
  | [], p => by simp [okPivots]
  | y :: r, p => by
    have ih := okPivots_iff r (some y)
    simp only [okPivots, Bool.and_eq_true, ih]
    constructor
    · rintro ⟨⟨h1, h3⟩, ⟨h4, h5⟩, h6⟩
      refine ⟨⟨?_, ?_⟩, ?_⟩
      · intro x hx
        rcases List.mem_cons.1 hx with rfl | hx
        · exact h1
        · exact h4 x hx
      · refine List.pairwise_cons.2 ⟨fun x hx => ?_, h5⟩
        have := h6 x hx
        simpa [rises] using this
      · intro x hx
        rcases List.mem_cons.1 hx with rfl | hx
        · exact h3
        · exact rises_tr h3 (by have := h6 x hx; simpa [rises] using this)
    · rintro ⟨⟨h1, h2⟩, h3⟩
      obtain ⟨h4, h5⟩ := List.pairwise_cons.1 h2
      refine ⟨⟨h1 y (by simp), h3 y (by simp)⟩, ⟨fun x hx => h1 x (by simp [hx]), h5⟩, fun x hx => ?_⟩
      simp only [rises, decide_eq_true_eq]
      exact h4 x hx
theorem ok_fine (l : Its) : okFrom none l = true ↔ Fine l := by
  unfold okFrom; rw [okList_iff]; simp [rises]
theorem Fine.sub {a l : Its} (h : Fine l) (hs : a.Sublist l) : Fine a := ⟨fun x hx => h.1 x (hs.subset hx), h.2.sublist hs⟩
/-- Parts that may be: none is empty, none too long, and all of them together are fine. -/
def Parts (ps : List Its) : Prop := (∀ p ∈ ps, p ≠ [] ∧ p.length ≤ 4) ∧ Fine ps.flatten
theorem first_mem {p : Its} (h : p ≠ []) : ∃ x ∈ p, x.1 = first1 p := by
  match p, h with
  | x :: r, _ => exact ⟨x, by simp, rfl⟩
theorem first_le {p : Its} (hf : Fine p) {x : List UInt8 × List UInt8} (hx : x ∈ p) : ¬ x.1 < first1 p := by
  match p, hx with
  | y :: r, hx =>
    rcases List.mem_cons.1 hx with rfl | hx
    · exact lt_ir _
    · intro h
      have := (List.pairwise_cons.1 hf.2).1 x hx
      exact lt_ir _ (lt_tr h this)
theorem Parts.tail {p : Its} {ps : List Its} (h : Parts (p :: ps)) : Parts ps := ⟨fun q hq => h.1 q (by simp [hq]), h.2.sub (by rw [List.flatten_cons]; exact List.sublist_append_right _ _)⟩
theorem Parts.head {p : Its} {ps : List Its} (h : Parts (p :: ps)) : Fine p := h.2.sub (by rw [List.flatten_cons]; exact List.sublist_append_left _ _)
theorem Parts.across {p : Its} {ps : List Its} (h : Parts (p :: ps)) : ∀ x ∈ p, ∀ y ∈ ps.flatten, x.1 < y.1 := by
  have := h.2.2
  rw [List.flatten_cons, List.pairwise_append] at this
  exact this.2.2
theorem firsts_fine : ∀ (ps : List Its), Parts ps → okPivots (firsts ps) none = true := by
  intro ps h
  rw [okPivots_iff]
  refine ⟨⟨?_, ?_⟩, fun x _ => rfl⟩
  · intro x hx
    obtain ⟨p, hp, rfl⟩ := List.mem_map.1 hx
    obtain ⟨y, hy, e⟩ := first_mem (h.1 p hp).1
    rw [← e]
    exact (h.2.1 y (List.mem_flatten.2 ⟨p, hp, hy⟩)).1
  · induction ps with
    | nil => simp [firsts]
    | cons p ps ih =>
      rw [firsts, List.map_cons]
      refine List.pairwise_cons.2 ⟨fun k hk => ?_, ih h.tail⟩
      obtain ⟨q, hq, rfl⟩ := List.mem_map.1 hk
      obtain ⟨x, hx, e⟩ := first_mem (h.1 p (by simp)).1
      obtain ⟨y, hy, e2⟩ := first_mem (h.1 q (by simp [hq])).1
      rw [← e, ← e2]
      exact h.across x hx y (List.mem_flatten.2 ⟨q, hq, hy⟩)
theorem sec1_read {p : Its} (h4 : p.length ≤ 4) (hf : Fine p) : secR 98 (sec1 p) = some (basement p) := by
  have hk : ∀ x ∈ p, x.1.length ≤ 12 ∧ x.2.length ≤ 16 := fun x hx => ⟨isKey_le (hf.1 x hx).1, (hf.1 x hx).2⟩
  have := basement_len p hk
  exact secR_section 98 _ (by omega)
theorem last_mem {p : Its} (h : p ≠ []) : ∃ x ∈ p, x.1 = (p.map (·.1)).getD (p.length - 1) [] := by
  have hp : 0 < p.length := List.length_pos_iff.2 h
  have hl : p.length - 1 < p.length := by omega
  refine ⟨p[p.length - 1]'hl, List.getElem_mem _, ?_⟩
  rw [List.getD_eq_getElem?_getD, List.getElem?_map, List.getElem?_eq_getElem hl]
  rfl
theorem bas_at (a : List Its) (p : Its) (b : List Its) (h : Parts (a ++ p :: b)) : basementR (firsts (a ++ p :: b)) a.length (sec1 p) = some p := by
  have hp := h.1 p (by simp)
  have hf : Fine p := h.2.sub (by rw [List.flatten_append, List.flatten_cons]; exact (List.sublist_append_left _ _).trans (List.sublist_append_right _ _))
  have hk : ∀ x ∈ p, x.1.length ≤ 12 ∧ x.2.length ≤ 16 := fun x hx => ⟨isKey_le (hf.1 x hx).1, (hf.1 x hx).2⟩
  unfold basementR
  rw [sec1_read hp.2 hf]
  simp only [Option.bind_some]
  rw [basR_basement p (by omega) hk]
  simp only [Option.bind_some]
  rw [if_pos]
  unfold basOk
  simp only [Bool.and_eq_true, decide_eq_true_eq, Bool.or_eq_true, Bool.not_eq_true', decide_eq_false_iff_not]
  refine ⟨⟨⟨⟨?_, hp.2⟩, (ok_fine p).2 hf⟩, ?_⟩, ?_⟩
  · exact Nat.succ_le_of_lt (List.length_pos_iff.2 hp.1)
  · show first1 p = _
    unfold firsts
    rw [List.getD_eq_getElem?_getD, List.getElem?_map, List.getElem?_append_right (Nat.le_refl _)]
    simp
  · match b, h with
    | [], _ => left; simp [firsts]
    | q :: b', h =>
      right
      have hq := h.1 q (by simp)
      obtain ⟨x, hx, ex⟩ := last_mem hp.1
      obtain ⟨y, hy, ey⟩ := first_mem hq.1
      have e : (firsts (a ++ p :: q :: b')).getD (a.length + 1) [] = first1 q := by
        unfold firsts
        rw [List.getD_eq_getElem?_getD, List.getElem?_map, List.getElem?_append_right (by omega)]
        simp
      rw [e, ← ex, ← ey]
      have h2 : Parts (p :: q :: b') := ⟨fun r hr => h.1 r (List.mem_append.2 (.inr hr)), h.2.sub (by rw [List.flatten_append]; exact List.sublist_append_right _ _)⟩
      exact h2.across x hx y (List.mem_flatten.2 ⟨q, by simp, hy⟩)
theorem bases_at : ∀ (b a : List Its), Parts (a ++ b) → basesR (firsts (a ++ b)) a.length (secs b) = some b.flatten
  | [], a, h => by simp [secs, basesR]
  | p :: b, a, h => by
    have ih := bases_at b (a ++ [p]) (by rw [List.append_assoc]; exact h)
    rw [List.append_assoc, List.length_append] at ih
    rw [secs, List.map_cons, basesR, bas_at a p b h]
    simp only [Option.bind_some]
    have ih' : basesR (firsts (a ++ p :: b)) (a.length + 1) (List.map sec1 b) = some b.flatten := ih
    rw [ih']
    simp
theorem parts_fine {l : Its} (h : Fine l) : Parts (parts l) := by
  refine ⟨fun p hp => parts_ne _ _ p hp, ?_⟩
  rw [parts, parts_flat _ _ (by unfold many; omega)]
  exact h
theorem secs_small {ps : List Its} (h : Parts ps) : ∀ s ∈ (secs ps).map List.length, s < 65536 := by
  intro s hs
  obtain ⟨c, hc, rfl⟩ := List.mem_map.1 hs
  obtain ⟨p, hp, rfl⟩ := List.mem_map.1 hc
  have hf : Fine p := h.2.sub (List.sublist_flatten_of_mem hp)
  have hk : ∀ x ∈ p, x.1.length ≤ 12 ∧ x.2.length ≤ 16 := fun x hx => ⟨isKey_le (hf.1 x hx).1, (hf.1 x hx).2⟩
  have h1 := basement_len p hk
  have h2 := (h.1 p hp).2
  have h3 := section_len [98] (basement p) (by omega)
  have h4 : ([98] : List UInt8).length = 1 := rfl
  unfold sec1
  omega
theorem headR_leaf {l : Its} (h : Fine l) (h16 : l.length ≤ 16) : headR (leaf l) = some ((secs (parts l)).map List.length, firsts (parts l)) := by
  rw [leaf_is]
  have hp := parts_fine h
  have hl : (parts l).length ≤ 4 := by have := parts_len (many l.length) l; unfold parts; unfold many at *; omega
  exact headR_headW _ _ _ (by simp [secs, firsts]) (by simpa [secs] using hl) (secs_small hp) (firsts_fine _ hp)
theorem cutR_leaf {l : Its} (h : Fine l) (h16 : l.length ≤ 16) : cutR (leaf l) ((secs (parts l)).map List.length) = some (secs (parts l)) := by
  rw [leaf_is]
  have hp := parts_fine h
  have hl : (parts l).length ≤ 4 := by have := parts_len (many l.length) l; unfold parts; unfold many at *; omega
  refine cutR_flat _ _ (headW_len _ _ (by simp [secs, firsts]) (by simpa [secs] using hl) (okPivots_sz _ _ (firsts_fine _ hp)))
theorem leafR_leaf {l : Its} (h : Fine l) (h16 : l.length ≤ 16) : leafR (leaf l) = some l := by
  unfold leafR
  rw [headR_leaf h h16]
  simp only [Option.bind_some]
  rw [cutR_leaf h h16]
  simp only [Option.bind_some]
  have := bases_at (parts l) [] (by simpa using parts_fine h)
  rw [List.nil_append] at this
  rw [show ([] : List Its).length = 0 from rfl] at this
  rw [this, parts, parts_flat _ _ (by unfold many; omega)]
theorem valueOf_no : ∀ (a b : Its) (key : List UInt8), (∀ x ∈ a, x.1 ≠ key) → valueOf key (a ++ b) = valueOf key b
  | [], b, key, _ => rfl
  | x :: a, b, key, h => by
    rw [List.cons_append, valueOf, if_neg (h x (by simp)), valueOf_no a b key (fun y hy => h y (by simp [hy]))]
theorem valueOf_none (a : Its) (key : List UInt8) (h : ∀ x ∈ a, x.1 ≠ key) : valueOf key a = none := by
  have := valueOf_no a [] key h
  rw [List.append_nil] at this; rw [this]; rfl
theorem valueOf_left : ∀ (a b : Its) (key : List UInt8), (∀ x ∈ b, x.1 ≠ key) → valueOf key (a ++ b) = valueOf key a
  | [], b, key, h => by rw [List.nil_append]; exact valueOf_none b key h
  | x :: a, b, key, h => by
    rw [List.cons_append, valueOf, valueOf]
    split
    · rfl
    · exact valueOf_left a b key h
theorem findN_spec (ks : List (List UInt8)) (key : List UInt8) : ∀ n, (∀ k : Nat, findN ks key n < (k : Int) → k < n → key < ks.getD k []) ∧ (∀ j : Nat, findN ks key n = (j : Int) → ¬ key < ks.getD j [])
  | 0 => ⟨fun k _ h => by omega, fun j h => by rw [findN] at h; omega⟩
  | n + 1 => by
    have ih := findN_spec ks key n
    rw [findN]
    by_cases hl : key < ks.getD n []
    · rw [if_pos hl]
      refine ⟨fun k h1 h2 => ?_, ih.2⟩
      by_cases hk : k = n
      · subst hk; exact hl
      · exact ih.1 k h1 (by omega)
    · rw [if_neg hl]
      refine ⟨fun k h1 h2 => by omega, fun j h => ?_⟩
      have : j = n := by omega
      subst this; exact hl
theorem firsts_get {ps : List Its} {k : Nat} (h : k < ps.length) : (firsts ps).getD k [] = first1 (ps[k]'h) := by
  unfold firsts
  rw [List.getD_eq_getElem?_getD, List.getElem?_map, List.getElem?_eq_getElem h]; rfl
/-- In which part a key lies, if it lies in one. -/
theorem find_parts {ps : List Its} (h : Parts ps) (key : List UInt8) : (findN (firsts ps) key ps.length < 0 ∧ valueOf key ps.flatten = none) ∨ ∃ a p b, ps = a ++ p :: b ∧ findN (firsts ps) key ps.length = (a.length : Int) ∧ valueOf key ps.flatten = valueOf key p := by
  obtain ⟨s1, s2⟩ := findN_spec (firsts ps) key ps.length
  have hlt := findN_lt (firsts ps) key ps.length
  by_cases hneg : findN (firsts ps) key ps.length < 0
  · refine .inl ⟨hneg, valueOf_none _ _ fun x hx => ?_⟩
    obtain ⟨p, hp, hx⟩ := List.mem_flatten.1 hx
    obtain ⟨k, hk, rfl⟩ := List.getElem_of_mem hp
    have h1 := s1 k (by omega) hk
    rw [firsts_get hk] at h1
    intro e
    have hf : Fine (ps[k]'hk) := h.2.sub (List.sublist_flatten_of_mem (List.getElem_mem hk))
    exact first_le hf hx (by rw [e]; exact h1)
  · obtain ⟨j, hj⟩ : ∃ j : Nat, findN (firsts ps) key ps.length = (j : Int) := ⟨(findN (firsts ps) key ps.length).toNat, by omega⟩
    have hjl : j < ps.length := by omega
    have h2 := s2 j hj
    rw [firsts_get hjl] at h2
    have e : ps = ps.take j ++ (ps[j]'hjl) :: ps.drop (j + 1) := by
      rw [← List.drop_eq_getElem_cons hjl, List.take_append_drop]
    have hlen : (ps.take j).length = j := by rw [List.length_take]; omega
    refine .inr ⟨ps.take j, ps[j]'hjl, ps.drop (j + 1), e, by rw [hj, hlen], ?_⟩
    have e2 : ps.flatten = (ps.take j).flatten ++ ((ps[j]'hjl) ++ (ps.drop (j + 1)).flatten) := by
      conv => lhs; rw [e]
      rw [List.flatten_append, List.flatten_cons]
    rw [e2, valueOf_no, valueOf_left]
    · intro x hx
      obtain ⟨p, hp, hx⟩ := List.mem_flatten.1 hx
      obtain ⟨i, hi, rfl⟩ := List.getElem_of_mem hp
      rw [List.length_drop] at hi
      rw [List.getElem_drop] at hx
      have hk : j + 1 + i < ps.length := by omega
      have h1 := s1 (j + 1 + i) (by omega) hk
      rw [firsts_get hk] at h1
      intro e
      have hf : Fine (ps[j + 1 + i]'hk) := h.2.sub (List.sublist_flatten_of_mem (List.getElem_mem hk))
      exact first_le hf hx (by rw [e]; exact h1)
    · intro x hx e3
      have hpw := h.2.2
      rw [e2, List.pairwise_append] at hpw
      obtain ⟨y, hy, ey⟩ := first_mem (h.1 _ (List.getElem_mem hjl)).1
      have := hpw.2.2 x hx y (List.mem_append.2 (.inl hy))
      rw [e3, ey] at this
      exact h2 this
theorem secs_get (a : List Its) (p : Its) (b : List Its) : (secs (a ++ p :: b)).getD a.length [] = sec1 p := by
  unfold secs
  rw [List.getD_eq_getElem?_getD, List.getElem?_map, List.getElem?_append_right (Nat.le_refl _)]
  simp
theorem fetchR_leaf {l : Its} (h : Fine l) (h16 : l.length ≤ 16) (key : List UInt8) : fetchR (leaf l) key = some (valueOf key l) := by
  have hp := parts_fine h
  have hfl : (parts l).flatten = l := parts_flat _ _ (by unfold many; omega)
  unfold fetchR
  rw [headR_leaf h h16]
  simp only [Option.bind_some]
  rw [cutR_leaf h h16]
  simp only [Option.bind_some, show (firsts (parts l)).length = (parts l).length by simp [firsts]]
  rcases find_parts hp key with ⟨h1, h2⟩ | ⟨a, p, b, e, h1, h2⟩
  · rw [if_pos h1, ← h2, hfl]
  · rw [if_neg (by omega), h1, Int.toNat_natCast]
    rw [hfl] at h2
    rw [h2]
    rw [e] at hp ⊢
    rw [secs_get, bas_at a p b hp]
    rfl
end Go.Proofs.Ytolgpnaoaodepaa.Pr
/- Plain mathematics: a branch's page; whatever is a page is one node's. -/
namespace Go.Proofs.Ytolgpnaoaodepaa.Pr
open Pg
theorem text_small (s : List UInt8) (h : s.length < 128) : (text s).length = s.length + 1 := by
  unfold text
  rw [List.length_append]
  have : (num s.length).length = 1 := by rw [num_small _ h, low_len]
  omega
theorem change1_len {c : Int × List UInt8 × List UInt8} (h : okChange c = true) : (change1 c).length ≤ 31 := by
  simp only [okChange, isChange, Bool.and_eq_true, Bool.or_eq_true, decide_eq_true_eq] at h
  have hk := isKey_le h.1.1
  have h1 := text_small c.2.1 (by omega)
  have h2 := text_small c.2.2 (by omega)
  unfold change1
  rw [List.length_append, List.length_append, low_len]
  split
  · simp; omega
  · omega
theorem changes_small (l : List (Int × List UInt8 × List UInt8)) (h : ∀ c ∈ l, okChange c = true) : (changes l).length ≤ 1 + 31 * l.length := by
  unfold changes
  rw [List.length_append, low_len]
  have : (l.flatMap change1).length ≤ 31 * l.length := by
    induction l with
    | nil => simp
    | cons x r ih =>
      rw [List.flatMap_cons, List.length_append, List.length_cons]
      have h1 := change1_len (h x (by simp))
      have h2 := ih fun y hy => h y (by simp [hy])
      omega
  omega
theorem pivotsC_small (cl : List Nat) (pl : List (List UInt8)) (hc : ∀ c ∈ cl, c ≤ 2147483647) (hp : ∀ p ∈ pl, p.length ≤ 12) : (pivotsC cl pl).length ≤ 5 * cl.length + 13 * pl.length := by
  unfold pivotsC
  rw [List.length_append]
  have h1 : (cl.flatMap num).length ≤ 5 * cl.length := by
    induction cl with
    | nil => simp
    | cons x r ih =>
      rw [List.flatMap_cons, List.length_append, List.length_cons]
      have h1 := num_len x (by have := hc x (by simp); omega)
      have h2 := ih fun y hy => hc y (by simp [hy])
      omega
  have h2 : (pl.flatMap text).length ≤ 13 * pl.length := by
    induction pl with
    | nil => simp
    | cons x r ih =>
      rw [List.flatMap_cons, List.length_append, List.length_cons]
      have h1 := text_small x (by have := hp x (by simp); omega)
      have h2 := ih fun y hy => hp y (by simp [hy])
      have := hp x (by simp)
      omega
  omega
theorem shortR_low (n : Nat) (t : List UInt8) (h : n < 65536) : shortR (low n 2 ++ t) = some (n, t) := by
  unfold shortR
  have := takeR_append (low n 2) t
  rw [low_len] at this
  rw [this]
  simp only [Option.map_some]
  rw [high_low 2 n (by simpa using h)]
theorem branchR_branch (cl : List Nat) (pl : List (List UInt8)) (ml : List (Int × List UInt8 × List UInt8)) (hc : ∀ c ∈ cl, c ≤ 2147483647) (hp : ∀ p ∈ pl, p.length ≤ 12) (hm : ∀ c ∈ ml, okChange c = true) (h4 : cl.length ≤ 4) (hl : pl.length + 1 = cl.length) (h8 : ml.length ≤ 8) : branchR (branch cl pl ml) = some (cl, pl, ml) := by
  have s1 := pivotsC_small cl pl hc hp
  have s2 := changes_small ml hm
  have l1 := section_len [112] (pivotsC cl pl) (by omega)
  have l2 := section_len [109] (changes ml) (by omega)
  have q1 : ([112] : List UInt8).length = 1 := rfl
  have q2 : ([109] : List UInt8).length = 1 := rfl
  have r1 := secR_section 112 (pivotsC cl pl) (by omega)
  have r2 := secR_section 109 (changes ml) (by omega)
  have r3 := childrenR_is cl pl hc hp hl
  have r4 := chgsR_changes ml [] (by omega) (fun c hcm => by
    have := hm c hcm
    simp only [okChange, isChange, Bool.and_eq_true, Bool.or_eq_true, decide_eq_true_eq] at this
    have hk := isKey_le this.1.1
    refine ⟨?_, hk, this.1.2⟩
    rcases this.2 with (h | h) | h
    · exact .inl h
    · exact .inr (.inl h)
    · exact .inr (.inr ⟨h.1, List.length_eq_zero_iff.1 h.2⟩))
  rw [List.append_nil] at r4
  have hP : branchP cl pl = section_ [112] (pivotsC cl pl) := rfl
  have hM : branchM ml = section_ [109] (changes ml) := rfl
  have e : branch cl pl ml = sealed ([83, 50, 73] ++ low cl.length 1 ++ low (branchP cl pl).length 2 ++ low (branchM ml).length 2 ++ List.replicate 56 0) ++ [branchP cl pl, branchM ml].flatten := by
    unfold branch; simp
  have hlen : (sealed ([83, 50, 73] ++ low cl.length 1 ++ low (branchP cl pl).length 2 ++ low (branchM ml).length 2 ++ List.replicate 56 0)).length = 68 := by
    rw [seal_len]; simp [low_len]
  have hcut := cutR_flat _ [branchP cl pl, branchM ml] hlen
  rw [← e] at hcut
  obtain ⟨rest, e2⟩ : ∃ rest, branch cl pl ml = [83, 50, 73] ++ (UInt8.ofNat (cl.length % 256) :: (low (branchP cl pl).length 2 ++ (low (branchM ml).length 2 ++ rest))) := by
    refine ⟨List.replicate 56 0 ++ (low (crc ([83, 50, 73] ++ low cl.length 1 ++ low (branchP cl pl).length 2 ++ low (branchM ml).length 2 ++ List.replicate 56 0)) 4 ++ (branchP cl pl ++ branchM ml)), ?_⟩
    unfold branch sealed
    generalize crc ([83, 50, 73] ++ low cl.length 1 ++ low (branchP cl pl).length 2 ++ low (branchM ml).length 2 ++ List.replicate 56 0) = c
    generalize branchP cl pl = P
    generalize branchM ml = M
    simp [low]
  unfold branchR
  have h1 : takeR 3 (branch cl pl ml) = some ([83, 50, 73], UInt8.ofNat (cl.length % 256) :: (low (branchP cl pl).length 2 ++ (low (branchM ml).length 2 ++ rest))) := by
    rw [e2]; exact takeR_append [83, 50, 73] _
  have hb : (UInt8.ofNat (cl.length % 256)).toNat = cl.length := by rw [UInt8.toNat_ofNat']; omega
  rw [h1]
  simp only [Option.bind_some, byteR]
  rw [shortR_low _ _ (by rw [hP]; omega)]
  simp only [Option.bind_some]
  rw [shortR_low _ _ (by rw [hM]; omega)]
  simp only [Option.bind_some]
  have hcut' : cutR (branch cl pl ml) [(branchP cl pl).length, (branchM ml).length] = some [branchP cl pl, branchM ml] := hcut
  rw [hcut']
  simp only [Option.bind_some, List.getD_cons_zero, List.getD_cons_succ]
  rw [hP, r1]
  simp only [Option.bind_some, hb]
  rw [r3]
  simp only [Option.bind_some]
  rw [hM, r2]
  simp only [Option.bind_some]
  rw [r4]
  simp
/-- What is written of a node is read. -/
theorem readR_page {n : NodeT} (h : wellT n = true) : readR (pageT n) = some n := by
  have key : eitherR (pageT n) = some n := by
    obtain ⟨kd, il, cl, pl, ml⟩ := n
    unfold wellT well at h
    simp only at h
    by_cases hk : kd = 1
    · rw [if_pos hk] at h
      simp only [Bool.and_eq_true, decide_eq_true_eq, List.length_map] at h
      obtain ⟨⟨⟨⟨h1, h2⟩, h3⟩, h4⟩, h5⟩ := h
      have e3 := List.length_eq_zero_iff.1 h3
      have e4 := List.length_eq_zero_iff.1 h4
      have e5 := List.length_eq_zero_iff.1 h5
      subst hk e3 e4 e5
      have hp : pageT (1, il, [], [], []) = leaf il := rfl
      have hf := (ok_fine il).1 h1
      have ht : (leaf il).take 3 = [83, 50, 76] := by unfold leaf sealed; simp
      unfold eitherR
      rw [hp, ht, if_neg (by decide), leafR_leaf hf h2]
      rfl
    · rw [if_neg hk] at h
      simp only [Bool.and_eq_true, decide_eq_true_eq, List.length_map] at h
      obtain ⟨⟨⟨⟨⟨⟨⟨⟨h1, h2⟩, h3⟩, h4⟩, h5⟩, h6⟩, h7⟩, h8⟩, h9⟩ := h
      have e5 := List.length_eq_zero_iff.1 h5
      subst h4 e5
      have hm : (cl.map Int.ofNat).map Int.toNat = cl := by rw [List.map_map]; exact List.map_id' _ |>.trans rfl
      have hp : pageT (2, [], cl, pl, ml) = branch cl pl ml := by
        show page 2 [] (cl.map Int.ofNat) pl ml = _
        unfold page
        rw [if_pos rfl, hm]
      have ht : (branch cl pl ml).take 3 = [83, 50, 73] := by unfold branch sealed; simp
      have hc : ∀ c ∈ cl, c ≤ 2147483647 := fun c hc => by
        have := List.all_eq_true.1 h2 (Int.ofNat c) (List.mem_map.2 ⟨c, hc, rfl⟩)
        simp only [okChild, Bool.and_eq_true, decide_eq_true_eq] at this
        have := this.2
        simp only [Int.ofNat_eq_natCast] at this
        omega
      unfold eitherR
      rw [hp, if_pos ht, branchR_branch cl pl ml hc (okPivots_sz _ _ h1) (fun c hc => List.all_eq_true.1 h3 c hc) h7 h8 h9]
      rfl
  unfold readR
  rw [key]
  simp only [Option.bind_some, h, if_true]
end Go.Proofs.Ytolgpnaoaodepaa.Pr
