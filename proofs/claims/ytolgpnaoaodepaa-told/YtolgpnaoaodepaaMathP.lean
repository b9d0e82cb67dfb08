/- Plain mathematics of Told: where a leaf's sections lie. -/
import Derived.Test.YtolgpnaoaodepaaMathO
namespace Go.Proofs.Ytolgpnaoaodepaa.Pr
open Pg
theorem low2_get (n : Nat) (h : n < 65536) : ∃ a b : UInt8, low n 2 = [a, b] ∧ a.toNat + 256 * b.toNat = n := by
  have hl : (low n 2).length = 2 := low_len 2 n
  have hh := high_low 2 n (by simpa using h)
  obtain ⟨a, b, e⟩ := two_of hl
  rw [e] at hh
  exact ⟨a, b, e, by simpa [high] using hh⟩
theorem heads_get : ∀ (ss : List Nat) (ks : List (List UInt8)) (k : Nat) (t : List UInt8) (hk : k < ss.length), ss.length = ks.length → (∀ s ∈ ss, s < 65536) → (∀ x ∈ ks, x.length ≤ 12) → ∃ a b : UInt8, (heads ss ks ++ t)[15 * k]? = some a ∧ (heads ss ks ++ t)[15 * k + 1]? = some b ∧ a.toNat + 256 * b.toNat = ss[k]'hk
  | s :: ss, x :: ks, 0, t, hk, h, hs, hx => by
    obtain ⟨a, b, e, e2⟩ := low2_get s (hs s (by simp))
    refine ⟨a, b, ?_, ?_, e2⟩ <;> · rw [heads, ent1, e]; simp
  | s :: ss, x :: ks, k + 1, t, hk, h, hs, hx => by
    obtain ⟨a, b, h1, h2, h3⟩ := heads_get ss ks k t (by simpa using hk) (by simpa using h) (fun y hy => hs y (by simp [hy])) (fun y hy => hx y (by simp [hy]))
    have hl := ent1_len s x (hx x (by simp))
    refine ⟨a, b, ?_, ?_, by simpa using h3⟩
    · rw [heads, List.append_assoc, List.getElem?_append_right (by omega), hl, show 15 * (k + 1) - 15 = 15 * k by omega]; exact h1
    · rw [heads, List.append_assoc, List.getElem?_append_right (by omega), hl, show 15 * (k + 1) + 1 - 15 = 15 * k + 1 by omega]; exact h2
  | [], _, k, _, hk, _, _, _ => by simp at hk
  | s :: ss, [], _, _, _, h, _, _ => by simp at h
theorem leaf_len68 {l : Its} (h : Fine l) (h16 : l.length ≤ 16) : (leaf l).length = 68 + (secs (parts l)).flatten.length := by
  rw [leaf_is, List.length_append, headW_take l h h16]
theorem entry_bytes {l : Its} (h : Fine l) (k : Nat) (hk : k < (parts l).length) : ∃ a b : UInt8, (leaf l)[4 + 15 * k]? = some a ∧ (leaf l)[5 + 15 * k]? = some b ∧ a.toNat + 256 * b.toNat = (sec1 ((parts l)[k]'hk)).length := by
  have hp := parts_fine h
  obtain ⟨r, hr⟩ : ∃ r, leaf l = ([83, 50, 76] ++ low (parts l).length 1) ++ (heads ((secs (parts l)).map List.length) (firsts (parts l)) ++ r) := by
    rw [leaf_is]
    unfold headW sealed
    refine ⟨List.replicate (60 - (heads ((secs (parts l)).map List.length) (firsts (parts l))).length) 0 ++ (low (crc ([83, 50, 76] ++ low ((secs (parts l)).map List.length).length 1 ++ heads ((secs (parts l)).map List.length) (firsts (parts l)) ++ List.replicate (60 - (heads ((secs (parts l)).map List.length) (firsts (parts l))).length) 0)) 4 ++ (secs (parts l)).flatten), ?_⟩
    rw [show ((secs (parts l)).map List.length).length = (parts l).length by simp [secs]]
    simp only [List.append_assoc]
  obtain ⟨a, b, h1, h2, h3⟩ := heads_get ((secs (parts l)).map List.length) (firsts (parts l)) k r (by simpa [secs] using hk) (by simp [secs, firsts]) (secs_small hp) (okPivots_sz _ _ (firsts_fine _ hp))
  have hl4 : ([83, 50, 76] ++ low (parts l).length 1).length = 4 := by rw [List.length_append, low_len]; rfl
  refine ⟨a, b, ?_, ?_, ?_⟩
  · rw [hr, List.getElem?_append_right (by omega), hl4, show 4 + 15 * k - 4 = 15 * k by omega]; exact h1
  · rw [hr, List.getElem?_append_right (by omega), hl4, show 5 + 15 * k - 4 = 15 * k + 1 by omega]; exact h2
  · rw [h3]; simp [secs]
/-- How long the first k sections are. -/
def upto (l : Its) (k : Nat) : Nat := ((secs (parts l)).take k).flatten.length
theorem upto_zero (l : Its) : upto l 0 = 0 := by simp [upto]
theorem upto_succ (l : Its) (k : Nat) (hk : k < (parts l).length) : upto l (k + 1) = upto l k + (sec1 ((parts l)[k]'hk)).length := by
  unfold upto
  have hk2 : k < (secs (parts l)).length := by simpa [secs] using hk
  rw [List.take_add_one, List.getElem?_eq_getElem hk2, List.flatten_append, List.length_append]
  simp [secs]
theorem upto_le (l : Its) (h : Fine l) (h16 : l.length ≤ 16) (k : Nat) : 68 + upto l k ≤ (leaf l).length := by
  rw [leaf_len68 h h16]
  unfold upto
  conv => rhs; rw [← List.take_append_drop k (secs (parts l)), List.flatten_append, List.length_append]
  omega
theorem sec_pos (p : Its) : 0 < (sec1 p).length := by
  obtain ⟨a, ha⟩ := section_sealed [98] (basement p)
  unfold sec1
  rw [ha, seal_len]; omega
theorem parts_length (l : Its) : (parts l).length = (l.length + 3) / 4 := parts_many _ _ rfl
end Go.Proofs.Ytolgpnaoaodepaa.Pr
