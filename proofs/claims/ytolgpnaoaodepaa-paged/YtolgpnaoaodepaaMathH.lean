/- Plain mathematics of the program's reading: each reader tells what it has read and what is left, or gives up. -/
import Derived.Test.YtolgpnaoaodepaaMathF
namespace Go.Proofs.Ytolgpnaoaodepaa.Pr
open Pg

def takeR (n : Nat) (t : List UInt8) : Option (List UInt8 × List UInt8) := if n ≤ t.length then some (t.take n, t.drop n) else none
theorem takeR_yes {n : Nat} {t : List UInt8} (h : n ≤ t.length) : takeR n t = some (t.take n, t.drop n) := if_pos h
theorem takeR_no {n : Nat} {t : List UInt8} (h : ¬ n ≤ t.length) : takeR n t = none := if_neg h
theorem takeR_append (p q : List UInt8) : takeR p.length (p ++ q) = some (p, q) := by rw [takeR_yes (by simp), List.take_left, List.drop_left]
theorem takeR_len {n : Nat} {t x u : List UInt8} (h : takeR n t = some (x, u)) : x.length = n ∧ t = x ++ u := by
  unfold takeR at h
  split at h
  · rename_i hn
    simp only [Option.some.injEq, Prod.mk.injEq] at h
    rw [← h.1, ← h.2, List.take_append_drop, List.length_take]; exact ⟨by omega, rfl⟩
  · simp at h
def byteR : List UInt8 → Option (UInt8 × List UInt8)
  | [] => none
  | b :: t => some (b, t)
theorem byteR_len {t u : List UInt8} {b : UInt8} (h : byteR t = some (b, u)) : t = b :: u := by
  cases t with
  | nil => simp [byteR] at h
  | cons a r => simp [byteR] at h; rw [h.1, h.2]
def shortR (t : List UInt8) : Option (Nat × List UInt8) := (takeR 2 t).map fun x => (high x.1, x.2)
/-- A number: so many bytes may still be read; what a byte counts; what has been read. -/
def numR : Nat → Nat → Nat → List UInt8 → Option (Nat × List UInt8)
  | 0, _, _, _ => none
  | _ + 1, _, _, [] => none
  | f + 1, c, n, b :: t =>
    if 2147483647 < n + b.toNat % 128 * c then none
    else if b.toNat < 128 then (if b.toNat = 0 ∧ c ≠ 1 then none else some (n + b.toNat % 128 * c, t))
    else numR f (128 * c) (n + b.toNat % 128 * c) t
def numberR (t : List UInt8) : Option (Nat × List UInt8) := numR 5 1 0 t
theorem numR_le : ∀ (f c n : Nat) (t : List UInt8) (m : Nat) (u : List UInt8), numR f c n t = some (m, u) → m ≤ 2147483647 ∧ u.length < t.length
  | 0, _, _, _, _, _, h => by simp [numR] at h
  | f + 1, c, n, [], _, _, h => by simp [numR] at h
  | f + 1, c, n, b :: t, m, u, h => by
    unfold numR at h
    split at h
    · simp at h
    · split at h
      · split at h
        · simp at h
        · simp only [Option.some.injEq, Prod.mk.injEq] at h
          rw [← h.1, ← h.2]; exact ⟨by omega, by simp⟩
      · have := numR_le f _ _ _ _ _ h
        exact ⟨this.1, by simp; omega⟩
theorem numberR_le {t u : List UInt8} {m : Nat} (h : numberR t = some (m, u)) : m ≤ 2147483647 ∧ u.length < t.length := numR_le _ _ _ _ _ _ h
theorem numR_num : ∀ (f c n m : Nat) (t : List UInt8), m < 128 ^ (f + 1) → n + m * c ≤ 2147483647 → (0 < m ∨ c = 1) → 0 < c → numR (f + 1) c n (num m ++ t) = some (n + m * c, t)
  | f, c, n, m, t, hm, hle, h0, hc => by
    by_cases hs : m < 128
    · rw [num_small m hs, low, low, show m % 256 = m by omega]
      simp only [List.cons_append, List.nil_append, numR]
      have hb : (UInt8.ofNat m).toNat = m := by simp; omega
      rw [hb, Nat.mod_eq_of_lt hs, if_neg (by omega), if_pos hs, if_neg (by omega)]
    · rw [num_big m hs, low, low, show (128 + m % 128) % 256 = 128 + m % 128 by omega]
      simp only [List.cons_append, List.nil_append, numR]
      have hb : (UInt8.ofNat (128 + m % 128)).toNat = 128 + m % 128 := by
        rw [UInt8.toNat_ofNat']; omega
      rw [hb, show (128 + m % 128) % 128 = m % 128 by omega]
      have hdiv : m % 128 * c + m / 128 * (128 * c) = m * c := by
        rw [← Nat.mul_assoc, ← Nat.add_mul, Nat.mul_comm (m / 128) 128]; congr 1; omega
      rw [if_neg (by omega), if_neg (by omega)]
      match f with
      | 0 => omega
      | f + 1 =>
        rw [numR_num f (128 * c) (n + m % 128 * c) (m / 128) t (by rw [Nat.div_lt_iff_lt_mul (by decide)]; rw [Nat.pow_succ] at hm; exact hm) (by omega) (.inl (by omega)) (by omega)]
        congr 2; omega
theorem numberR_num (m : Nat) (t : List UInt8) (h : m ≤ 2147483647) : numberR (num m ++ t) = some (m, t) := by
  have := numR_num 4 1 0 m t (by show m < 128 ^ 5; omega) (by omega) (.inr rfl) (by decide)
  unfold numberR; rw [this]; simp
def textR (t : List UInt8) : Option (List UInt8 × List UInt8) := match numberR t with
  | some (n, u) => takeR n u
  | none => none
theorem textR_text (s t : List UInt8) (h : s.length ≤ 2147483647) : textR (text s ++ t) = some (s, t) := by
  unfold textR text
  rw [List.append_assoc, numberR_num _ _ h]
  exact takeR_append s t
theorem textR_len {t x u : List UInt8} (h : textR t = some (x, u)) : x.length ≤ t.length ∧ u.length < t.length := by
  unfold textR at h
  split at h
  · rename_i n v hn
    have h1 := numberR_le hn
    obtain ⟨h2, h3⟩ := takeR_len h
    have : v.length = x.length + u.length := by rw [h3, List.length_append]
    omega
  · simp at h
/-- What is written in a section: how, and the bytes. -/
def secW (s : List UInt8) : Option (UInt8 × List UInt8) :=
  (takeR 1 s).bind fun a => (byteR a.2).bind fun h => (numberR h.2).bind fun n => (numberR n.2).bind fun z => if 249 < z.1 then none else (takeR z.1 z.2).map fun c => (h.1, c.1)
def secU (how : UInt8) (c : List UInt8) : Option (List UInt8) := if how = 1 then Sq.spread c else some c
/-- The content of a section. -/
def secR (k : UInt8) (s : List UInt8) : Option (List UInt8) := (secW s).bind fun x => (secU x.1 x.2).bind fun u => if section_ [k] u = s then some u else none
theorem secR_is {k : UInt8} {s c : List UInt8} (h : secR k s = some c) : section_ [k] c = s := by
  unfold secR at h
  cases hw : secW s with
  | none => rw [hw] at h; simp at h
  | some x =>
    rw [hw] at h
    simp only [Option.bind_some] at h
    cases hu : secU x.1 x.2 with
    | none => rw [hu] at h; simp at h
    | some u =>
      rw [hu] at h
      simp only [Option.bind_some] at h
      split at h
      · rename_i he; simp at h; rw [← h]; exact he
      · simp at h
theorem secW_is (k how : UInt8) (n : Nat) (c t : List UInt8) (hn : n ≤ 2147483647) (hc : c.length ≤ 249) : secW ([k] ++ [how] ++ num n ++ text c ++ t) = some (how, c) := by
  unfold secW text
  rw [show [k] ++ [how] ++ num n ++ (num c.length ++ c) ++ t = [k] ++ (how :: (num n ++ (num c.length ++ (c ++ t)))) by simp]
  rw [show takeR 1 ([k] ++ (how :: (num n ++ (num c.length ++ (c ++ t))))) = some ([k], how :: (num n ++ (num c.length ++ (c ++ t)))) from takeR_append [k] _]
  simp only [Option.bind_some, byteR]
  rw [numberR_num n _ hn]
  simp only [Option.bind_some]
  rw [numberR_num c.length _ (by omega)]
  simp only [Option.bind_some]
  rw [if_neg (by omega), takeR_append]
  rfl
theorem secR_section (k : UInt8) (c : List UInt8) (h : c.length ≤ 249) : secR k (section_ [k] c) = some c := by
  unfold secR
  by_cases hs : (Sq.squeeze c).length < c.length
  · have e : section_ [k] c = [k] ++ [1] ++ num c.length ++ text (Sq.squeeze c) ++ low (crc ([k] ++ low 1 1 ++ num c.length ++ text (Sq.squeeze c))) 4 := by unfold section_; rw [if_pos hs]; rfl
    have hw : secW (section_ [k] c) = some (1, Sq.squeeze c) := by rw [e]; exact secW_is k 1 _ _ _ (by omega) (by omega)
    rw [hw]
    simp only [Option.bind_some, secU, if_true, Sq.spread_squeeze]
  · have e : section_ [k] c = [k] ++ [0] ++ num c.length ++ text c ++ low (crc ([k] ++ low 0 1 ++ num c.length ++ text c)) 4 := by unfold section_; rw [if_neg hs]; rfl
    have hw : secW (section_ [k] c) = some (0, c) := by rw [e]; exact secW_is k 0 _ _ _ (by omega) h
    rw [hw]
    simp [secU]
/-- Items, so many, behind a key. -/
def itemsR : Nat → List UInt8 → List UInt8 → Option (List (List UInt8 × List UInt8) × List UInt8)
  | 0, _, t => some ([], t)
  | n + 1, last, t => (byteR t).bind fun b => if last.length < b.1.toNat then none else (textR b.2).bind fun x => (textR x.2).bind fun v => (itemsR n (last.take b.1.toNat ++ x.1) v.2).map fun r => ((last.take b.1.toNat ++ x.1, v.1) :: r.1, r.2)
theorem common_take : ∀ (a b : List UInt8), a.take (common a b) ++ b.drop (common a b) = b
  | [], b => by simp [common]
  | _ :: _, [] => by simp [common]
  | x :: xs, y :: ys => by
    unfold common; split
    · rename_i h; rw [List.take_succ_cons, List.drop_succ_cons, List.cons_append, common_take xs ys, h]
    · simp
theorem itemsR_items : ∀ (l : List (List UInt8 × List UInt8)) (last t : List UInt8), last.length ≤ 12 → (∀ x ∈ l, x.1.length ≤ 12 ∧ x.2.length ≤ 16) → itemsR l.length last (items last l ++ t) = some (l, t)
  | [], _, t, _, _ => rfl
  | (k, v) :: r, last, t, hl, h => by
    have hk := h (k, v) (by simp)
    simp only at hk
    have hc := common_le last k
    rw [items, List.length_cons, itemsR]
    obtain ⟨c, hc1⟩ : ∃ c, common last k = c := ⟨_, rfl⟩
    have hct := common_take last k
    rw [hc1] at hc hct ⊢
    have hb : (UInt8.ofNat (c % 256)).toNat = c := by rw [UInt8.toNat_ofNat']; omega
    rw [show low c 1 ++ text (k.drop c) ++ text v ++ items k r ++ t = UInt8.ofNat (c % 256) :: (text (k.drop c) ++ (text v ++ (items k r ++ t))) by simp [low]]
    simp only [byteR, Option.bind_some, hb]
    rw [if_neg (by omega), textR_text _ _ (by rw [List.length_drop]; omega)]
    simp only [Option.bind_some]
    rw [textR_text _ _ (by omega)]
    simp only [Option.bind_some, hct]
    rw [itemsR_items r k t hk.1 (fun x hx => h x (by simp [hx]))]
    rfl
/-- The items of which this is the content. -/
def basR (c : List UInt8) : Option (List (List UInt8 × List UInt8)) := (byteR c).bind fun b => (itemsR b.1.toNat [] b.2).bind fun r => if basement r.1 = c then some r.1 else none
theorem basR_is {c : List UInt8} {l : List (List UInt8 × List UInt8)} (h : basR c = some l) : basement l = c := by
  unfold basR at h
  cases hw : byteR c with
  | none => rw [hw] at h; simp at h
  | some x =>
    rw [hw] at h
    simp only [Option.bind_some] at h
    cases hu : itemsR x.1.toNat [] x.2 with
    | none => rw [hu] at h; simp at h
    | some u =>
      rw [hu] at h
      simp only [Option.bind_some] at h
      split at h
      · rename_i he; simp at h; rw [← h]; exact he
      · simp at h
theorem basR_basement (l : List (List UInt8 × List UInt8)) (h4 : l.length ≤ 255) (h : ∀ x ∈ l, x.1.length ≤ 12 ∧ x.2.length ≤ 16) : basR (basement l) = some l := by
  have e : basement l = UInt8.ofNat (l.length % 256) :: (items [] l ++ []) := by unfold basement; simp [low]
  unfold basR
  have hb : (UInt8.ofNat (l.length % 256)).toNat = l.length := by rw [UInt8.toNat_ofNat']; omega
  rw [show byteR (basement l) = some (UInt8.ofNat (l.length % 256), items [] l ++ []) by rw [e]; rfl]
  simp only [Option.bind_some, hb]
  rw [itemsR_items l [] [] (by simp) h]
  simp
end Go.Proofs.Ytolgpnaoaodepaa.Pr
namespace Go.Proofs.Ytolgpnaoaodepaa.Pr
open Pg
/-- A page cut into sections, of these lengths. -/
def cutsR : List Nat → List UInt8 → Option (List (List UInt8) × List UInt8)
  | [], t => some ([], t)
  | s :: ss, t => (takeR s t).bind fun x => (cutsR ss x.2).map fun r => (x.1 :: r.1, r.2)
def cutR (page : List UInt8) (ss : List Nat) : Option (List (List UInt8)) := (takeR 68 page).bind fun a => (cutsR ss a.2).bind fun r => if r.2 = [] then some r.1 else none
theorem cutsR_flat : ∀ (l : List (List UInt8)) (t : List UInt8), cutsR (l.map List.length) (l.flatten ++ t) = some (l, t)
  | [], t => rfl
  | x :: r, t => by
    rw [List.map_cons, cutsR, List.flatten_cons, List.append_assoc, takeR_append]
    simp only [Option.bind_some]
    rw [cutsR_flat r t]; rfl
theorem cutsR_is : ∀ (ss : List Nat) (t : List UInt8) (l : List (List UInt8)) (u : List UInt8), cutsR ss t = some (l, u) → t = l.flatten ++ u ∧ l.map List.length = ss
  | [], t, l, u, h => by simp [cutsR] at h; rw [h.1, h.2]; simp
  | s :: ss, t, l, u, h => by
    rw [cutsR] at h
    cases ht : takeR s t with
    | none => rw [ht] at h; simp at h
    | some x =>
      rw [ht] at h
      simp only [Option.bind_some] at h
      cases hc : cutsR ss x.2 with
      | none => rw [hc] at h; simp at h
      | some r =>
        rw [hc] at h
        simp only [Option.map_some, Option.some.injEq, Prod.mk.injEq] at h
        obtain ⟨h1, h2⟩ := takeR_len ht
        obtain ⟨h3, h4⟩ := cutsR_is ss x.2 r.1 r.2 hc
        rw [← h.1, ← h.2, List.flatten_cons, List.map_cons, h1, h4, h2, h3, List.append_assoc]
        exact ⟨rfl, rfl⟩
theorem cutR_is {page : List UInt8} {ss : List Nat} {l : List (List UInt8)} (h : cutR page ss = some l) : 68 ≤ page.length ∧ page.drop 68 = l.flatten ∧ l.map List.length = ss := by
  unfold cutR at h
  cases ht : takeR 68 page with
  | none => rw [ht] at h; simp at h
  | some x =>
    rw [ht] at h
    simp only [Option.bind_some] at h
    cases hc : cutsR ss x.2 with
    | none => rw [hc] at h; simp at h
    | some r =>
      rw [hc] at h
      simp only [Option.bind_some] at h
      split at h
      · rename_i he
        simp only [Option.some.injEq] at h
        obtain ⟨h1, h2⟩ := takeR_len ht
        obtain ⟨h3, h4⟩ := cutsR_is ss x.2 r.1 r.2 hc
        rw [he, List.append_nil] at h3
        rw [← h]
        refine ⟨by rw [h2, List.length_append]; omega, ?_, h4⟩
        rw [h2, ← h1, List.drop_left, h3]
      · simp at h
theorem cutR_flat (p : List UInt8) (l : List (List UInt8)) (h : p.length = 68) : cutR (p ++ l.flatten) (l.map List.length) = some l := by
  unfold cutR
  rw [← h, takeR_append]
  simp only [Option.bind_some]
  have := cutsR_flat l []
  rw [List.append_nil] at this
  rw [this]; simp
end Go.Proofs.Ytolgpnaoaodepaa.Pr
