/- Plain mathematics: a branch's page; whatever is a page is one node's. -/
import Derived.Test.YtolgpnaoaodepaaGreatWalkAIm
namespace Go.Proofs.YtolgpnaoaodepaaGreat.Pr
open Pg
theorem text_small (s : List UInt8) (h : s.length < 128) : (text s).length = s.length + 1 := by
  unfold text
  rw [List.length_append]
  have : (num s.length).length = 1 := by rw [num_small _ h, low_len]
  omega
theorem change1_len {c : Int × List UInt8 × List UInt8} (h : okChange c = true) : (change1 c).length ≤ 31 := by
  simp only [okChange, isChange, Bool.and_eq_true, Bool.or_eq_true, decide_eq_true_eq] at h
  have hk := isKey_le h.1.1
  have h1 := text_small c.2.1 (by omega)
  have h2 := text_small c.2.2 (by omega)
  unfold change1
  rw [List.length_append, List.length_append, low_len]
  split
  · simp; omega
  · omega
theorem changes_small (l : List (Int × List UInt8 × List UInt8)) (h : ∀ c ∈ l, okChange c = true) : (changes l).length ≤ 1 + 31 * l.length := by
  unfold changes
  rw [List.length_append, low_len]
  have : (l.flatMap change1).length ≤ 31 * l.length := by
    induction l with
    | nil => simp
    | cons x r ih =>
      rw [List.flatMap_cons, List.length_append, List.length_cons]
      have h1 := change1_len (h x (by simp))
      have h2 := ih fun y hy => h y (by simp [hy])
      omega
  omega
theorem pivotsC_small (cl : List Nat) (pl : List (List UInt8)) (hc : ∀ c ∈ cl, c ≤ 2147483647) (hp : ∀ p ∈ pl, p.length ≤ 12) : (pivotsC cl pl).length ≤ 5 * cl.length + 13 * pl.length := by
  unfold pivotsC
  rw [List.length_append]
  have h1 : (cl.flatMap num).length ≤ 5 * cl.length := by
    induction cl with
    | nil => simp
    | cons x r ih =>
      rw [List.flatMap_cons, List.length_append, List.length_cons]
      have h1 := num_len x (by have := hc x (by simp); omega)
      have h2 := ih fun y hy => hc y (by simp [hy])
      omega
  have h2 : (pl.flatMap text).length ≤ 13 * pl.length := by
    induction pl with
    | nil => simp
    | cons x r ih =>
      rw [List.flatMap_cons, List.length_append, List.length_cons]
      have h1 := text_small x (by have := hp x (by simp); omega)
      have h2 := ih fun y hy => hp y (by simp [hy])
      have := hp x (by simp)
      omega
  omega
theorem shortR_low (n : Nat) (t : List UInt8) (h : n < 65536) : shortR (low n 2 ++ t) = some (n, t) := by
  unfold shortR
  have := takeR_append (low n 2) t
  rw [low_len] at this
  rw [this]
  simp only [Option.map_some]
  rw [high_low 2 n (by simpa using h)]
theorem branchR_branch (cl : List Nat) (pl : List (List UInt8)) (ml : List (Int × List UInt8 × List UInt8)) (hc : ∀ c ∈ cl, c ≤ 2147483647) (hp : ∀ p ∈ pl, p.length ≤ 12) (hm : ∀ c ∈ ml, okChange c = true) (h4 : cl.length ≤ 4) (hl : pl.length + 1 = cl.length) (h8 : ml.length ≤ 8) : branchR (branch cl pl ml) = some (cl, pl, ml) := by
  have s1 := pivotsC_small cl pl hc hp
  have s2 := changes_small ml hm
  have l1 := section_len [112] (pivotsC cl pl) (by omega)
  have l2 := section_len [109] (changes ml) (by omega)
  have q1 : ([112] : List UInt8).length = 1 := rfl
  have q2 : ([109] : List UInt8).length = 1 := rfl
  have r1 := secR_section 112 (pivotsC cl pl) (by omega)
  have r2 := secR_section 109 (changes ml) (by omega)
  have r3 := childrenR_is cl pl hc hp hl
  have r4 := chgsR_changes ml [] (by omega) (fun c hcm => by
    have := hm c hcm
    simp only [okChange, isChange, Bool.and_eq_true, Bool.or_eq_true, decide_eq_true_eq] at this
    have hk := isKey_le this.1.1
    refine ⟨?_, hk, this.1.2⟩
    rcases this.2 with (h | h) | h
    · exact .inl h
    · exact .inr (.inl h)
    · exact .inr (.inr ⟨h.1, List.length_eq_zero_iff.1 h.2⟩))
  rw [List.append_nil] at r4
  have hP : branchP cl pl = section_ [112] (pivotsC cl pl) := rfl
  have hM : branchM ml = section_ [109] (changes ml) := rfl
  have e : branch cl pl ml = sealed ([83, 50, 73] ++ low cl.length 1 ++ low (branchP cl pl).length 2 ++ low (branchM ml).length 2 ++ List.replicate 56 0) ++ [branchP cl pl, branchM ml].flatten := by
    unfold branch; simp
  have hlen : (sealed ([83, 50, 73] ++ low cl.length 1 ++ low (branchP cl pl).length 2 ++ low (branchM ml).length 2 ++ List.replicate 56 0)).length = 68 := by
    rw [seal_len]; simp [low_len]
  have hcut := cutR_flat _ [branchP cl pl, branchM ml] hlen
  rw [← e] at hcut
  obtain ⟨rest, e2⟩ : ∃ rest, branch cl pl ml = [83, 50, 73] ++ (UInt8.ofNat (cl.length % 256) :: (low (branchP cl pl).length 2 ++ (low (branchM ml).length 2 ++ rest))) := by
    refine ⟨List.replicate 56 0 ++ (low (crc ([83, 50, 73] ++ low cl.length 1 ++ low (branchP cl pl).length 2 ++ low (branchM ml).length 2 ++ List.replicate 56 0)) 4 ++ (branchP cl pl ++ branchM ml)), ?_⟩
    unfold branch sealed
    generalize crc ([83, 50, 73] ++ low cl.length 1 ++ low (branchP cl pl).length 2 ++ low (branchM ml).length 2 ++ List.replicate 56 0) = c
    generalize branchP cl pl = P
    generalize branchM ml = M
    simp [low]
  unfold branchR
  have h1 : takeR 3 (branch cl pl ml) = some ([83, 50, 73], UInt8.ofNat (cl.length % 256) :: (low (branchP cl pl).length 2 ++ (low (branchM ml).length 2 ++ rest))) := by
    rw [e2]; exact takeR_append [83, 50, 73] _
  have hb : (UInt8.ofNat (cl.length % 256)).toNat = cl.length := by rw [UInt8.toNat_ofNat']; omega
  rw [h1]
  simp only [Option.bind_some, byteR]
  rw [shortR_low _ _ (by rw [hP]; omega)]
  simp only [Option.bind_some]
  rw [shortR_low _ _ (by rw [hM]; omega)]
  simp only [Option.bind_some]
  have hcut' : cutR (branch cl pl ml) [(branchP cl pl).length, (branchM ml).length] = some [branchP cl pl, branchM ml] := hcut
  rw [hcut']
  simp only [Option.bind_some, List.getD_cons_zero, List.getD_cons_succ]
  rw [hP, r1]
  simp only [Option.bind_some, hb]
  rw [r3]
  simp only [Option.bind_some]
  rw [hM, r2]
  simp only [Option.bind_some]
  rw [r4]
  simp
/-- What is written of a node is read. -/
theorem readR_page {n : NodeT} (h : wellT n = true) : readR (pageT n) = some n := by
  have key : eitherR (pageT n) = some n := by
    obtain ⟨kd, il, cl, pl, ml⟩ := n
    unfold wellT well at h
    simp only at h
    by_cases hk : kd = 1
    · rw [if_pos hk] at h
      simp only [Bool.and_eq_true, decide_eq_true_eq, List.length_map] at h
      obtain ⟨⟨⟨⟨h1, h2⟩, h3⟩, h4⟩, h5⟩ := h
      have e3 := List.length_eq_zero_iff.1 h3
      have e4 := List.length_eq_zero_iff.1 h4
      have e5 := List.length_eq_zero_iff.1 h5
      subst hk e3 e4 e5
      have hp : pageT (1, il, [], [], []) = leaf il := rfl
      have hf := (ok_fine il).1 h1
      have ht : (leaf il).take 3 = [83, 50, 76] := by unfold leaf sealed; simp
      unfold eitherR
      rw [hp, ht, if_neg (by decide), leafR_leaf hf h2]
      rfl
    · rw [if_neg hk] at h
      simp only [Bool.and_eq_true, decide_eq_true_eq, List.length_map] at h
      obtain ⟨⟨⟨⟨⟨⟨⟨⟨h1, h2⟩, h3⟩, h4⟩, h5⟩, h6⟩, h7⟩, h8⟩, h9⟩ := h
      have e5 := List.length_eq_zero_iff.1 h5
      subst h4 e5
      have hm : (cl.map Int.ofNat).map Int.toNat = cl := by rw [List.map_map]; exact List.map_id' _ |>.trans rfl
      have hp : pageT (2, [], cl, pl, ml) = branch cl pl ml := by
        show page 2 [] (cl.map Int.ofNat) pl ml = _
        unfold page
        rw [if_pos rfl, hm]
      have ht : (branch cl pl ml).take 3 = [83, 50, 73] := by unfold branch sealed; simp
      have hc : ∀ c ∈ cl, c ≤ 2147483647 := fun c hc => by
        have := List.all_eq_true.1 h2 (Int.ofNat c) (List.mem_map.2 ⟨c, hc, rfl⟩)
        simp only [okChild, Bool.and_eq_true, decide_eq_true_eq] at this
        have := this.2
        simp only [Int.ofNat_eq_natCast] at this
        omega
      unfold eitherR
      rw [hp, if_pos ht, branchR_branch cl pl ml hc (okPivots_sz _ _ h1) (fun c hc => List.all_eq_true.1 h3 c hc) h7 h8 h9]
      rfl
  unfold readR
  rw [key]
  simp only [Option.bind_some, h, if_true]
end Go.Proofs.YtolgpnaoaodepaaGreat.Pr
/- Plain mathematics: what is written, the reference's cursor reads; a section's content, as the reference tells it and as the program does. -/
namespace Go.Proofs.YtolgpnaoaodepaaGreat.Pg

theorem cur_take (p q : List UInt8) : (⟨p ++ q, false⟩ : Cur).take p.length = (p, ⟨q, false⟩) := by
  rw [take_yes rfl (by simp)]; simp
theorem cur_take' {n : Nat} (p q : List UInt8) (h : p.length = n) : (⟨p ++ q, false⟩ : Cur).take n = (p, ⟨q, false⟩) := by rw [← h]; exact cur_take p q
theorem cur_byte (b : UInt8) (q : List UInt8) : (⟨b :: q, false⟩ : Cur).take 1 = ([b], ⟨q, false⟩) := cur_take [b] q
theorem high_one (b : UInt8) : high [b] = b.toNat := by simp [high]
theorem numberF_num : ∀ (f n c m : Nat) (first : Bool) (t : List UInt8), m < 128 ^ (f + 1) → n + m * c ≤ 2147483647 → (0 < m ∨ first = true) → 0 < c → numberF (f + 1) ⟨num m ++ t, false⟩ n c first = (n + m * c, ⟨t, false⟩)
  | f, n, c, m, first, t, hm, hle, h0, hc => by
    by_cases hs : m < 128
    · rw [num_small m hs, low, low, show m % 256 = m by omega]
      simp only [List.cons_append, List.nil_append]
      have hb : (UInt8.ofNat m).toNat = m := by simp; omega
      have hby : (⟨UInt8.ofNat m :: t, false⟩ : Cur).byte = m := by unfold Cur.byte; rw [cur_byte, high_one, hb]
      rw [numberF, hby, if_pos hs, cur_byte, Nat.mod_eq_of_lt hs]
      rw [if_neg]
      rintro (h | ⟨h, h'⟩ | h)
      · simp at h
      · rcases h0 with h0 | h0
        · omega
        · rw [h0] at h'; simp at h'
      · omega
    · rw [num_big m hs, low, low, show (128 + m % 128) % 256 = 128 + m % 128 by omega]
      simp only [List.cons_append, List.nil_append]
      have hb : (UInt8.ofNat (128 + m % 128)).toNat = 128 + m % 128 := by rw [UInt8.toNat_ofNat']; omega
      have hby : (⟨UInt8.ofNat (128 + m % 128) :: (num (m / 128) ++ t), false⟩ : Cur).byte = 128 + m % 128 := by unfold Cur.byte; rw [cur_byte, high_one, hb]
      rw [numberF, hby, if_neg (by omega), cur_byte, show (128 + m % 128) % 128 = m % 128 by omega]
      have hdiv : m % 128 * c + m / 128 * (128 * c) = m * c := by
        rw [← Nat.mul_assoc, ← Nat.add_mul, Nat.mul_comm (m / 128) 128]; congr 1; omega
      match f with
      | 0 => omega
      | f + 1 =>
        rw [numberF_num f (n + m % 128 * c) (128 * c) (m / 128) false t (by rw [Nat.div_lt_iff_lt_mul (by decide)]; rw [Nat.pow_succ] at hm; exact hm) (by omega) (.inl (by omega)) (by omega)]
        congr 1; omega
theorem cur_number (m : Nat) (t : List UInt8) (h : m ≤ 2147483647) : (⟨num m ++ t, false⟩ : Cur).number = (m, ⟨t, false⟩) := by
  have := numberF_num 4 0 1 m true t (by show m < 128 ^ 5; omega) (by omega) (.inr rfl) (by decide)
  unfold Cur.number; rw [this]; simp
theorem cur_text (s t : List UInt8) (most : Nat) (h : s.length ≤ most) (h2 : s.length ≤ 2147483647) : (⟨text s ++ t, false⟩ : Cur).text most = (s, ⟨t, false⟩) := by
  unfold Cur.text text
  rw [List.append_assoc, cur_number _ _ h2]
  simp only
  rw [if_neg (by omega), cur_take]
theorem content_ok {k s : List UInt8} (h : (content k s).2 = true) : section_ k (content k s).1 = s := by
  by_cases hq : (secE s).2.ends = false ∨ (secA s).1 ≠ k ∨ 1 < high (secB s).1
  · rw [content_no hq] at h; simp at h
  · by_cases h1 : high (secB s).1 = 1
    · cases hs : Sq.spread (secT s).1 with
      | none => rw [content_none hq h1 hs] at h; simp at h
      | some u =>
        by_cases hl : u.length = (secN s).1
        · rw [content_some hq h1 hs hl] at h ⊢; simpa using h
        · rw [content_long hq h1 hs hl] at h; simp at h
    · rw [content_plain hq h1] at h ⊢; simpa using h
theorem content_at (k how : UInt8) (n : Nat) (c z : List UInt8) (hn : n ≤ 2147483647) (hc : c.length ≤ 2147483647) (hz : z.length = 4) (s : List UInt8) (hs : s = [k] ++ [how] ++ num n ++ text c ++ z) :
    (secA s).1 = [k] ∧ (secB s).1 = [how] ∧ (secN s).1 = n ∧ (secT s).1 = c ∧ (secE s).2.ends = true := by
  have e : s = k :: (how :: (num n ++ (text c ++ z))) := by rw [hs]; simp
  have hl : c.length ≤ s.length := by rw [hs]; unfold text; simp only [List.length_append]; omega
  have h1 : secA s = ([k], ⟨how :: (num n ++ (text c ++ z)), false⟩) := by unfold secA; rw [e]; exact cur_byte _ _
  have h2 : secB s = ([how], ⟨num n ++ (text c ++ z), false⟩) := by unfold secB; rw [h1]; exact cur_byte _ _
  have h3 : secN s = (n, ⟨text c ++ z, false⟩) := by unfold secN; rw [h2]; exact cur_number _ _ hn
  have h4 : secT s = (c, ⟨z, false⟩) := by unfold secT; rw [h3]; exact cur_text _ _ _ hl hc
  have h5 : secE s = (z, ⟨[], false⟩) := by
    unfold secE; rw [h4]
    have := cur_take z []
    rw [List.append_nil, hz] at this
    exact this
  rw [h1, h2, h3, h4, h5]
  exact ⟨rfl, rfl, rfl, rfl, rfl⟩
theorem content_section (k : UInt8) (c : List UInt8) (h : c.length ≤ 100000) : content [k] (section_ [k] c) = (c, true) := by
  by_cases hs : (Sq.squeeze c).length < c.length
  · have e : section_ [k] c = [k] ++ [1] ++ num c.length ++ text (Sq.squeeze c) ++ low (crc ([k] ++ low 1 1 ++ num c.length ++ text (Sq.squeeze c))) 4 := by unfold section_; rw [if_pos hs]; rfl
    obtain ⟨h1, h2, h3, h4, h5⟩ := content_at k 1 _ _ _ (by omega) (by omega) (low_len 4 _) _ e
    have hq : ¬ ((secE (section_ [k] c)).2.ends = false ∨ (secA (section_ [k] c)).1 ≠ [k] ∨ 1 < high (secB (section_ [k] c)).1) := by
      rw [h1, h2, h5, high_one]; simp
    rw [content_some hq (by rw [h2, high_one]; rfl) (u := c) (by rw [h4]; exact Sq.spread_squeeze c) (by rw [h3])]
    simp
  · have e : section_ [k] c = [k] ++ [0] ++ num c.length ++ text c ++ low (crc ([k] ++ low 0 1 ++ num c.length ++ text c)) 4 := by unfold section_; rw [if_neg hs]; rfl
    obtain ⟨h1, h2, h3, h4, h5⟩ := content_at k 0 _ _ _ (by omega) (by omega) (low_len 4 _) _ e
    have hq : ¬ ((secE (section_ [k] c)).2.ends = false ∨ (secA (section_ [k] c)).1 ≠ [k] ∨ 1 < high (secB (section_ [k] c)).1) := by
      rw [h1, h2, h5, high_one]; simp
    rw [content_plain hq (by rw [h2, high_one]; simp), h4]
    simp
end Go.Proofs.YtolgpnaoaodepaaGreat.Pg
namespace Go.Proofs.YtolgpnaoaodepaaGreat.Pr
open Pg
/-- A basement that the program reads is one that is written so. -/
theorem basementR_is {ks : List (List UInt8)} {i : Nat} {s : List UInt8} {l : List (List UInt8 × List UInt8)} (h : basementR ks i s = some l) : s = section_ [98] (basement l) ∧ basOk ks i l = true := by
  unfold basementR at h
  cases h1 : secR 98 s with
  | none => rw [h1] at h; simp at h
  | some c =>
    rw [h1] at h; simp only [Option.bind_some] at h
    cases h2 : basR c with
    | none => rw [h2] at h; simp at h
    | some x =>
      rw [h2] at h; simp only [Option.bind_some] at h
      split at h
      · rename_i hb
        simp only [Option.some.injEq] at h
        subst h
        exact ⟨by rw [basR_is h2, secR_is h1], hb⟩
      · simp at h
theorem basOk_fine {ks : List (List UInt8)} {i : Nat} {l : List (List UInt8 × List UInt8)} (h : basOk ks i l = true) : 1 ≤ l.length ∧ l.length ≤ 4 ∧ Fine l := by
  unfold basOk at h
  simp only [Bool.and_eq_true, decide_eq_true_eq] at h
  exact ⟨h.1.1.1.1, h.1.1.1.2, (ok_fine l).1 h.1.1.2⟩
theorem basementR_of {ks : List (List UInt8)} {i : Nat} {s : List UInt8} {l : List (List UInt8 × List UInt8)} (hs : s = section_ [98] (basement l)) (h : basOk ks i l = true) : basementR ks i s = some l := by
  obtain ⟨h1, h2, h3⟩ := basOk_fine h
  have hk : ∀ x ∈ l, x.1.length ≤ 12 ∧ x.2.length ≤ 16 := fun x hx => ⟨(isKey_le (h3.1 x hx).1), (h3.1 x hx).2⟩
  have hl : (basement l).length ≤ 249 := by have := basement_len l hk; omega
  unfold basementR
  rw [hs, secR_section 98 _ hl]
  simp only [Option.bind_some]
  rw [basR_basement l (by omega) hk]
  simp only [Option.bind_some, h, if_true]
end Go.Proofs.YtolgpnaoaodepaaGreat.Pr
/- Plain mathematics: a leaf's first bytes, as the reference reads them and as the program does. -/
namespace Go.Proofs.YtolgpnaoaodepaaGreat.Pg
open Pr

/-- The key ahead, if there is one. -/
def ahead (i : Nat) (ks : List (List UInt8)) : Option (List UInt8) := if i = 0 then none else some (ks.getD (i - 1) [])
theorem ordBad_ahead (i : Nat) (ks : List (List UInt8)) (key : List UInt8) : ordBad i ks key = !rises (ahead i ks) key := by
  unfold ordBad ahead
  by_cases h : i = 0
  · subst h; simp [rises]
  · rw [if_neg h, decide_eq_true (by omega : 0 < i)]; simp [rises]
theorem ahead_snoc (i : Nat) (ks : List (List UInt8)) (k : List UInt8) (h : ks.length = i) : ahead (i + 1) (ks ++ [k]) = some k := by
  unfold ahead
  rw [if_neg (by omega), Nat.add_sub_cancel, ← h]
  simp
theorem split15 (e : List UInt8) (h : e.length = 15) : e = e.take 2 ++ [e.getD 2 0] ++ e.drop 3 := by
  have h2 : 2 < e.length := by omega
  have e1 : e.drop 2 = e[2] :: e.drop 3 := List.drop_eq_getElem_cons h2
  have e2 : e.getD 2 0 = e[2] := by rw [List.getD_eq_getElem?_getD, List.getElem?_eq_getElem h2]; rfl
  rw [e2, List.append_assoc, List.singleton_append, ← e1, List.take_append_drop]
theorem ent_is {e : List UInt8} {at_ len : Nat} (h : e.length = 15) (hb : entBad e at_ len = false) : e = ent1 (entSize e) (entKey e) ∧ isKey (entKey e).length = true ∧ at_ + entSize e ≤ len ∧ entSize e < 65536 := by
  unfold entBad at hb
  simp only [Bool.or_eq_false_iff, decide_eq_false_iff_not] at hb
  obtain ⟨⟨⟨h1, h2⟩, h3⟩, h4⟩ := hb
  have h3 : e.drop (3 + entK e) = List.replicate (12 - entK e) 0 := Classical.byContradiction h3
  have hl : (entKey e).length = entK e := by unfold entKey; rw [List.length_take, List.length_drop]; omega
  have hs : low (entSize e) 2 = e.take 2 := by
    have := low_high (e.take 2)
    rw [List.length_take, h] at this
    exact this
  have hk : low (entKey e).length 1 = [e.getD 2 0] := by
    rw [hl]
    have : (e.getD 2 0).toNat < 256 := (e.getD 2 0).toNat_lt
    unfold entK
    simp only [low]
    rw [Nat.mod_eq_of_lt this]; simp
  have hz : entKey e ++ List.replicate (12 - (entKey e).length) 0 = e.drop 3 := by
    rw [hl, ← h3, ← List.drop_drop]
    unfold entKey
    exact List.take_append_drop _ _
  refine ⟨?_, ?_, by omega, ?_⟩
  · unfold ent1
    rw [hs, hk, List.append_assoc (e.take 2 ++ _), hz]
    exact split15 e h
  · unfold isKey; rw [hl]; simp; omega
  · exact high_lt _ 2 (by rw [List.length_take]; omega)
theorem ent_of (s : Nat) (k : List UInt8) (hs : s < 65536) (hk : isKey k.length = true) : entSize (ent1 s k) = s ∧ entK (ent1 s k) = k.length ∧ entKey (ent1 s k) = k ∧ (ent1 s k).drop (3 + k.length) = List.replicate (12 - k.length) 0 := by
  have hk2 : 1 ≤ k.length ∧ k.length ≤ 12 := by unfold isKey at hk; simpa using hk
  have e : ent1 s k = low s 2 ++ (UInt8.ofNat (k.length % 256) :: (k ++ List.replicate (12 - k.length) 0)) := by unfold ent1; simp [low]
  have hb : (UInt8.ofNat (k.length % 256)).toNat = k.length := by rw [UInt8.toNat_ofNat']; omega
  have h2 : (low s 2).length = 2 := low_len 2 s
  have hK : entK (ent1 s k) = k.length := by
    unfold entK
    rw [e, List.getD_eq_getElem?_getD, List.getElem?_append_right (by omega), h2]
    simpa using hb
  have hd : (ent1 s k).drop 3 = k ++ List.replicate (12 - k.length) 0 := by
    rw [e, List.drop_append, h2]
    rw [List.drop_eq_nil_of_le (by omega)]
    simp
  refine ⟨?_, hK, ?_, ?_⟩
  · unfold entSize
    rw [e, List.take_append_of_le_length (by omega), List.take_of_length_le (by omega), high_low 2 s (by simpa using hs)]
  · unfold entKey
    rw [hd, hK, List.take_left]
  · rw [← List.drop_drop, hd, List.drop_left]
theorem ent_cut (l : List UInt8) (i f : Nat) (h : 68 ≤ l.length) (hi : i + (f + 1) = 4) : (l.drop (4 + 15 * i)).take (15 * (f + 1)) = ent l i ++ (l.drop (4 + 15 * (i + 1))).take (15 * f) ∧ (ent l i).length = 15 := by
  unfold ent
  constructor
  · rw [show 15 * (f + 1) = 15 + 15 * f by omega, List.take_add, List.drop_drop, show 4 + 15 * i + 15 = 4 + 15 * (i + 1) by omega]
  · rw [List.length_take, List.length_drop]; omega
theorem app15 {a b c d : List UInt8} (h : a ++ b = c ++ d) (ha : a.length = 15) (hc : c.length = 15) : a = c ∧ b = d := List.append_inj h (by omega)
theorem loop_past (l : List UInt8) (m : Nat) (hl : 68 ≤ l.length) : ∀ (f i at_ : Nat) (ks ss : List (List UInt8)) (r : List (List UInt8) × List (List UInt8)), i + f = 4 → m ≤ i → (hdrLoop l m f i at_ ks ss = some r ↔ r = (ks, ss) ∧ at_ = l.length ∧ (l.drop (4 + 15 * i)).take (15 * f) = List.replicate (15 * f) 0)
  | 0, i, at_, ks, ss, r, hi, hm => by
    rw [hdr_end]
    constructor
    · intro h
      split at h
      · simp only [Option.some.injEq] at h; exact ⟨h.symm, by assumption, by simp⟩
      · simp at h
    · rintro ⟨rfl, h, -⟩; rw [if_pos h]
  | f + 1, i, at_, ks, ss, r, hi, hm => by
    obtain ⟨h1, h2⟩ := ent_cut l i f hl hi
    have hz : List.replicate (15 * (f + 1)) (0 : UInt8) = List.replicate 15 0 ++ List.replicate (15 * f) 0 := by rw [List.replicate_append_replicate]; congr 1; omega
    rw [h1, hz]
    by_cases he : ent l i = List.replicate 15 0
    · rw [hdr_past l m f i at_ ks ss hm he, loop_past l m hl f (i + 1) at_ ks ss r (by omega) (by omega), he]
      constructor
      · rintro ⟨a, b, c⟩; exact ⟨a, b, by rw [c]⟩
      · rintro ⟨a, b, c⟩; exact ⟨a, b, List.append_cancel_left c⟩
    · rw [hdr_past_no l m f i at_ ks ss hm he]
      constructor
      · intro h; simp at h
      · rintro ⟨-, -, c⟩; exact absurd (app15 c h2 (by simp)).1 he
theorem loop_is (l : List UInt8) (m : Nat) (hl : 68 ≤ l.length) (hm4 : m ≤ 4) : ∀ (f i at_ : Nat) (ks ss : List (List UInt8)) (r : List (List UInt8) × List (List UInt8)), i + f = 4 → i ≤ m → ks.length = i → at_ ≤ l.length →
    (hdrLoop l m f i at_ ks ss = some r ↔ ∃ ka sa, r = (ks ++ ka, ss ++ sa) ∧ ka.length = m - i ∧ sa.length = m - i ∧ l.drop at_ = sa.flatten ∧ okPivots ka (ahead i ks) = true ∧ (∀ s ∈ sa, s.length < 65536) ∧ (l.drop (4 + 15 * i)).take (15 * f) = heads (sa.map List.length) ka ++ List.replicate (15 * f - 15 * (m - i)) 0)
  | f, i, at_, ks, ss, r, hi, him, hks, hat => by
    by_cases hm : m ≤ i
    · rw [loop_past l m hl f i at_ ks ss r hi hm, show m - i = 0 by omega]
      constructor
      · rintro ⟨rfl, rfl, h⟩
        exact ⟨[], [], by simp, rfl, rfl, by simp, rfl, by simp, by simpa [heads] using h⟩
      · rintro ⟨ka, sa, rfl, h1, h2, h3, h4, h5, h6⟩
        obtain rfl := List.length_eq_zero_iff.1 h1
        obtain rfl := List.length_eq_zero_iff.1 h2
        refine ⟨by simp, ?_, by simpa [heads] using h6⟩
        have := congrArg List.length h3
        simp only [List.length_drop, List.flatten_nil, List.length_nil] at this
        omega
    · match f, hi with
      | 0, hi => omega
      | f + 1, hi =>
        obtain ⟨h1, h2⟩ := ent_cut l i f hl hi
        rw [h1]
        by_cases hb : entBad (ent l i) at_ l.length = true
        · rw [hdr_bad l m f i at_ ks ss hm hb]
          constructor
          · intro h; simp at h
          · rintro ⟨ka, sa, rfl, g1, g2, g3, g4, g5, g6⟩
            exfalso
            match ka, sa, g1, g2 with
            | [], _, g1, _ => simp at g1; omega
            | _ :: _, [], _, g2 => simp at g2; omega
            | k :: ka, s :: sa, g1, g2 =>
              rw [okPivots, Bool.and_eq_true, Bool.and_eq_true] at g4
              rw [List.map_cons, heads, List.append_assoc] at g6
              obtain ⟨q1, -⟩ := app15 g6 h2 (ent1_len _ _ (isKey_le g4.1.1))
              obtain ⟨e1, e2, e3, e4⟩ := ent_of s.length k (g5 s (by simp)) g4.1.1
              rw [← q1] at e1 e2 e3 e4
              have hkl : 1 ≤ k.length ∧ k.length ≤ 12 := by have := g4.1.1; unfold isKey at this; simpa using this
              have hlen : at_ + s.length ≤ l.length := by
                have := congrArg List.length g3
                rw [List.length_drop, List.flatten_cons, List.length_append] at this
                omega
              unfold entBad at hb
              rw [e1, e2, e4, decide_eq_false (by omega : ¬ k.length < 1), decide_eq_false (by omega : ¬ 12 < k.length), decide_eq_false (by omega : ¬ l.length < at_ + s.length)] at hb
              simp at hb
        · have hb : entBad (ent l i) at_ l.length = false := by simpa using hb
          obtain ⟨b1, b2, b3, b4⟩ := ent_is h2 hb
          by_cases ho : ordBad i ks (entKey (ent l i)) = true
          · rw [hdr_ord l m f i at_ ks ss hm hb ho]
            constructor
            · intro h; simp at h
            · rintro ⟨ka, sa, rfl, g1, g2, g3, g4, g5, g6⟩
              exfalso
              match ka, sa, g1, g2 with
              | [], _, g1, _ => simp at g1; omega
              | _ :: _, [], _, g2 => simp at g2; omega
              | k :: ka, s :: sa, g1, g2 =>
                rw [okPivots, Bool.and_eq_true, Bool.and_eq_true] at g4
                rw [List.map_cons, heads, List.append_assoc] at g6
                obtain ⟨q1, -⟩ := app15 g6 h2 (ent1_len _ _ (isKey_le g4.1.1))
                obtain ⟨e1, e2, e3, e4⟩ := ent_of s.length k (g5 s (by simp)) g4.1.1
                rw [← q1] at e3
                rw [ordBad_ahead, e3, g4.1.2] at ho
                simp at ho
          · have ho : ordBad i ks (entKey (ent l i)) = false := by simpa using ho
            have ho2 : rises (ahead i ks) (entKey (ent l i)) = true := by rw [ordBad_ahead] at ho; simpa using ho
            have hsl : ((l.drop at_).take (entSize (ent l i))).length = entSize (ent l i) := by rw [List.length_take, List.length_drop]; omega
            rw [hdr_next l m f i at_ ks ss hm hb ho, loop_is l m hl hm4 f (i + 1) (at_ + entSize (ent l i)) _ _ r (by omega) (by omega) (by simp [hks]) b3, ahead_snoc i ks _ hks]
            constructor
            · rintro ⟨ka, sa, rfl, g1, g2, g3, g4, g5, g6⟩
              refine ⟨entKey (ent l i) :: ka, (l.drop at_).take (entSize (ent l i)) :: sa, by simp, by rw [List.length_cons]; omega, by rw [List.length_cons]; omega, ?_, ?_, ?_, ?_⟩
              · rw [List.flatten_cons, ← g3, ← List.drop_drop, List.take_append_drop]
              · rw [okPivots, b2, ho2, g4]; rfl
              · intro s hs
                rcases List.mem_cons.1 hs with rfl | hs
                · omega
                · exact g5 s hs
              · rw [List.map_cons, heads, hsl, ← b1, List.append_assoc, g6]
                congr 3; omega
            · rintro ⟨ka, sa, rfl, g1, g2, g3, g4, g5, g6⟩
              match ka, sa, g1, g2 with
              | [], _, g1, _ => simp at g1; omega
              | _ :: _, [], _, g2 => simp at g2; omega
              | k :: ka, s :: sa, g1, g2 =>
                rw [okPivots, Bool.and_eq_true, Bool.and_eq_true] at g4
                rw [List.map_cons, heads, List.append_assoc] at g6
                obtain ⟨q1, q2⟩ := app15 g6 h2 (ent1_len _ _ (isKey_le g4.1.1))
                obtain ⟨e1, e2, e3, e4⟩ := ent_of s.length k (g5 s (by simp)) g4.1.1
                rw [← q1] at e1 e3
                have hs2 : (l.drop at_).take (entSize (ent l i)) = s := by rw [e1, g3, List.flatten_cons, List.take_left]
                rw [hs2, e3, e1]
                refine ⟨ka, sa, by simp, by rw [List.length_cons] at g1; omega, by rw [List.length_cons] at g2; omega, ?_, g4.2, fun x hx => g5 x (by simp [hx]), ?_⟩
                · rw [← List.drop_drop, g3, List.flatten_cons, List.drop_left]
                · rw [q2]; congr 2; omega
end Go.Proofs.YtolgpnaoaodepaaGreat.Pg
namespace Go.Proofs.YtolgpnaoaodepaaGreat.Pr
open Pg
theorem shortR_lt {t : List UInt8} {x : Nat × List UInt8} (h : shortR t = some x) : x.1 < 65536 := by
  unfold shortR at h
  cases h1 : takeR 2 t with
  | none => rw [h1] at h; simp at h
  | some y =>
    rw [h1] at h
    simp only [Option.map_some, Option.some.injEq] at h
    rw [← h]
    exact high_lt _ 2 (by rw [(takeR_len h1).1]; exact Nat.le_refl _)
theorem ents_sz : ∀ (n : Nat) (t : List UInt8) (x : List Nat × List (List UInt8)), entsR n t = some x → ∀ s ∈ x.1, s < 65536
  | 0, t, x, h => by simp [entsR] at h; subst h; simp
  | n + 1, t, x, h => by
    rw [entsR] at h
    cases h1 : shortR t with
    | none => rw [h1] at h; simp at h
    | some s =>
      rw [h1] at h; simp only [Option.bind_some] at h
      cases h2 : byteR s.2 with
      | none => rw [h2] at h; simp at h
      | some b =>
        rw [h2] at h; simp only [Option.bind_some] at h
        cases h3 : takeR 12 b.2 with
        | none => rw [h3] at h; simp at h
        | some p =>
          rw [h3] at h; simp only [Option.bind_some] at h
          split at h
          · simp at h
          · cases h4 : entsR n p.2 with
            | none => rw [h4] at h; simp at h
            | some r =>
              rw [h4] at h; simp only [Option.map_some, Option.some.injEq] at h
              subst h
              intro k hk
              rcases List.mem_cons.1 hk with rfl | hk
              · exact shortR_lt h1
              · exact ents_sz n p.2 r h4 k hk
theorem headR_sz {page : List UInt8} {r : List Nat × List (List UInt8)} (h : headR page = some r) : ∀ s ∈ r.1, s < 65536 := by
  unfold headR at h
  cases h1 : takeR 68 page with
  | none => rw [h1] at h; simp at h
  | some f =>
    rw [h1] at h; simp only [Option.bind_some] at h
    cases h2 : takeR 3 f.1 with
    | none => rw [h2] at h; simp at h
    | some a =>
      rw [h2] at h; simp only [Option.bind_some] at h
      cases h3 : byteR a.2 with
      | none => rw [h3] at h; simp at h
      | some c =>
        rw [h3] at h; simp only [Option.bind_some] at h
        split at h
        · simp at h
        · cases h4 : entsR c.1.toNat c.2 with
          | none => rw [h4] at h; simp at h
          | some x =>
            rw [h4] at h; simp only [Option.bind_some] at h
            split at h
            · split at h
              · simp only [Option.some.injEq] at h
                subst h
                exact ents_sz _ _ _ h4
              · simp at h
            · simp at h
theorem cut4 (l : List UInt8) (h : 68 ≤ l.length) : l.take 64 = l.take 3 ++ [l.getD 3 0] ++ (l.drop 4).take 60 := by
  have h3 : 3 < l.length := by omega
  have e2 : l.getD 3 0 = l[3] := by rw [List.getD_eq_getElem?_getD, List.getElem?_eq_getElem h3]; rfl
  rw [show 64 = 3 + 61 from rfl, List.take_add, List.append_assoc]
  congr 1
  rw [List.drop_eq_getElem_cons h3, List.take_succ_cons, e2]; rfl
theorem header_iff (l : List UInt8) (ks ss : List (List UInt8)) : header l = some (ks, ss) ↔ headR l = some (ss.map List.length, ks) ∧ cutR l (ss.map List.length) = some ss := by
  constructor
  · intro h
    unfold header at h
    split at h
    · rename_i hh
      unfold hdrHead at hh
      simp only [Bool.and_eq_true, decide_eq_true_eq] at hh
      obtain ⟨⟨⟨h1, h2⟩, h3⟩, h4⟩ := hh
      obtain ⟨ka, sa, e, g1, g2, g3, g4, g5, g6⟩ := (loop_is l (hdrMany l) h1 h4 4 0 68 [] [] (ks, ss) rfl (Nat.zero_le _) rfl h1).1 h
      simp only [List.nil_append, Prod.mk.injEq] at e
      obtain ⟨rfl, rfl⟩ := e
      rw [Nat.sub_zero] at g1 g2 g6
      have hb : low (ss.map List.length).length 1 = [l.getD 3 0] := by
        rw [List.length_map, g2]
        have : (l.getD 3 0).toNat < 256 := (l.getD 3 0).toNat_lt
        unfold hdrMany
        simp only [low]
        rw [Nat.mod_eq_of_lt this]; simp
      have hk12 : ∀ k ∈ ks, k.length ≤ 12 := okPivots_sz _ _ g4
      have hhl := heads_len (ss.map List.length) ks (by rw [List.length_map]; omega) hk12
      have hw : headW (ss.map List.length) ks = l.take 68 := by
        unfold headW
        rw [hb, hhl, List.length_map, g2, ← h2, List.append_assoc (l.take 3 ++ _)]
        rw [show (15 * 4 : Nat) = 60 from rfl, show 4 + 15 * 0 = 4 from rfl] at g6
        rw [← g6, ← cut4 l h1, h3]
      have hf : l = headW (ss.map List.length) ks ++ ss.flatten := by rw [hw, ← g3, List.take_append_drop]
      have hlen : (headW (ss.map List.length) ks).length = 68 := by rw [hw, List.length_take]; omega
      refine ⟨?_, ?_⟩
      · rw [hf]
        exact headR_headW _ _ _ (by rw [List.length_map]; omega) (by rw [List.length_map]; omega) (fun s hs => by obtain ⟨x, hx, rfl⟩ := List.mem_map.1 hs; exact g5 x hx) g4
      · conv => lhs; rw [hf]
        exact cutR_flat _ _ hlen
    · simp at h
  · rintro ⟨h1, h2⟩
    obtain ⟨a1, a2, a3, a4, a5⟩ := headR_is h1
    obtain ⟨b1, b2, b3⟩ := cutR_is h2
    simp only at a2 a3 a4 a5
    rw [List.length_map] at a4 a5
    have hk12 : ∀ k ∈ ks, k.length ≤ 12 := okPivots_sz _ _ a3
    have hhl := heads_len (ss.map List.length) ks (by rw [List.length_map]; omega) hk12
    rw [List.length_map] at hhl
    have hX : ([83, 50, 76] ++ low (ss.map List.length).length 1 ++ heads (ss.map List.length) ks ++ List.replicate (60 - (heads (ss.map List.length) ks).length) 0).length = 64 := by
      simp only [List.length_append, low_len, List.length_replicate, hhl]; simp; omega
    have h64 : l.take 64 = [83, 50, 76] ++ low (ss.map List.length).length 1 ++ heads (ss.map List.length) ks ++ List.replicate (60 - (heads (ss.map List.length) ks).length) 0 := by
      have e : l.take 64 = (l.take 68).take 64 := by rw [List.take_take]; rfl
      rw [e, ← a2]
      unfold headW sealed
      rw [List.take_append_of_le_length (by omega), List.take_of_length_le (by omega)]
    have h3 : l.take 3 = [83, 50, 76] := by
      have e : l.take 3 = (l.take 64).take 3 := by rw [List.take_take]; rfl
      rw [e, h64]; simp
    have hc4 := cut4 l a1
    rw [h3, h64] at hc4
    have hm : [l.getD 3 0] ++ (l.drop 4).take 60 = low ss.length 1 ++ (heads (ss.map List.length) ks ++ List.replicate (60 - (heads (ss.map List.length) ks).length) 0) := by
      have := hc4
      rw [List.length_map] at this
      simp only [List.append_assoc] at this
      exact (List.append_cancel_left this).symm
    obtain ⟨hm1, hm2⟩ := List.append_inj hm (by rw [low_len]; rfl)
    have hmany : hdrMany l = ss.length := by
      unfold hdrMany
      have hh := congrArg high hm1
      rw [high_one, high_low 1 _ (by omega)] at hh
      exact hh
    have hsz : ∀ s ∈ ss, s.length < 65536 := by
      intro s hs
      exact headR_sz h1 s.length (List.mem_map.2 ⟨s, hs, rfl⟩)
    unfold header
    rw [if_pos]
    · refine (loop_is l (hdrMany l) a1 (by omega) 4 0 68 [] [] (ks, ss) rfl (Nat.zero_le _) rfl a1).2 ⟨ks, ss, by simp, by omega, by omega, b2, a3, hsz, ?_⟩
      rw [show (15 * 4 : Nat) = 60 from rfl, show 4 + 15 * 0 = 4 from rfl, hm2, hhl, hmany]
      rfl
    · unfold hdrHead
      simp only [Bool.and_eq_true, decide_eq_true_eq]
      refine ⟨⟨⟨a1, h3⟩, ?_⟩, by omega⟩
      rw [h64, ← a2]; rfl
end Go.Proofs.YtolgpnaoaodepaaGreat.Pr
