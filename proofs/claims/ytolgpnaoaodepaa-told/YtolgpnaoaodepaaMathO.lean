/- Plain mathematics: one bit of a text is turned. -/
import Derived.Test.YtolgpnaoaodepaaMathN
namespace Go.Proofs.Ytolgpnaoaodepaa.Pr
open Pg
theorem mul_xor_pow (a b k : Nat) : 2 ^ k * (a ^^^ b) = (2 ^ k * a) ^^^ (2 ^ k * b) := by
  apply Nat.eq_of_testBit_eq
  intro i
  rw [Nat.testBit_xor, Nat.testBit_two_pow_mul, Nat.testBit_two_pow_mul, Nat.testBit_two_pow_mul, Nat.testBit_xor]
  by_cases h : k ≤ i <;> simp [h]
/-- Bit m of a text is turned. -/
def flip : List UInt8 → Nat → List UInt8
  | [], _ => []
  | b :: t, m => if m < 8 then UInt8.ofNat (b.toNat ^^^ 2 ^ m) :: t else b :: flip t (m - 8)
theorem flip_len : ∀ (l : List UInt8) (m : Nat), (flip l m).length = l.length
  | [], _ => rfl
  | b :: t, m => by rw [flip]; split <;> simp [flip_len t]
theorem flip_high : ∀ (l : List UInt8) (m : Nat), m < 8 * l.length → high (flip l m) = high l ^^^ 2 ^ m
  | [], m, h => by simp at h
  | b :: t, m, h => by
    have hb : b.toNat < 256 := b.toNat_lt
    rw [flip]
    by_cases hm : m < 8
    · rw [if_pos hm]
      have hp : 2 ^ m < 256 := by
        have : 2 ^ m < 2 ^ 8 := Nat.pow_lt_pow_right (by decide) hm
        simpa using this
      have hx : b.toNat ^^^ 2 ^ m < 256 := Nat.xor_lt_two_pow (n := 8) (by simpa using hb) (by simpa using hp)
      rw [high, high, UInt8.toNat_ofNat', Nat.mod_eq_of_lt (by simpa using hx), xor_up _ _ hx, xor_up _ _ hb, Nat.xor_assoc, Nat.xor_comm (2 ^ m), ← Nat.xor_assoc]
    · rw [if_neg hm]
      have ih := flip_high t (m - 8) (by rw [List.length_cons] at h; omega)
      rw [high, high, ih, xor_up _ _ hb, xor_up _ _ hb, show (256 : Nat) = 2 ^ 8 from rfl, mul_xor_pow, ← Nat.pow_add, show 8 + (m - 8) = m by omega, Nat.xor_assoc]
theorem flip_set : ∀ (l : List UInt8) (m : Nat) (h : m / 8 < l.length), flip l m = l.set (m / 8) (UInt8.ofNat ((l[m / 8]'h).toNat ^^^ 2 ^ (m % 8)))
  | [], m, h => by simp at h
  | b :: t, m, h => by
    rw [flip]
    by_cases hm : m < 8
    · rw [if_pos hm]
      have h0 : m / 8 = 0 := by omega
      simp only [h0, List.getElem_cons_zero, List.set_cons_zero, Nat.mod_eq_of_lt hm]
    · rw [if_neg hm]
      obtain ⟨k, hk⟩ : ∃ k, m / 8 = k + 1 := ⟨m / 8 - 1, by omega⟩
      have hk2 : (m - 8) / 8 = k := by omega
      have hk3 : (m - 8) % 8 = m % 8 := by omega
      have ht : (m - 8) / 8 < t.length := by rw [List.length_cons] at h; omega
      rw [flip_set t (m - 8) ht]
      simp only [hk, hk2, hk3, List.getElem_cons_succ, List.set_cons_succ]
/-- Up to 32 bits in a row, from a place on, one at least: what is turned so far. -/
theorem turn_step {x y : List UInt8} {from_ e i : Nat} (hl : y.length = x.length) (hh : high y = high x ^^^ 2 ^ from_ * e) (he : e < 2 ^ i) (ho : e % 2 = 1) (hi : 1 ≤ i) (hb : from_ + i < 8 * x.length) : (flip y (from_ + i)).length = x.length ∧ high (flip y (from_ + i)) = high x ^^^ 2 ^ from_ * (e + 2 ^ i) ∧ e + 2 ^ i < 2 ^ (i + 1) ∧ (e + 2 ^ i) % 2 = 1 := by
  have hx : e + 2 ^ i = e ^^^ 2 ^ i := by
    apply Nat.eq_of_testBit_eq
    intro j
    have := Nat.testBit_two_pow_mul_add 1 he (j := j)
    rw [Nat.mul_one] at this
    rw [Nat.add_comm, this, Nat.testBit_xor, Nat.testBit_two_pow]
    by_cases hj : j < i
    · rw [if_pos hj]; simp [show ¬ i = j by omega]
    · rw [if_neg hj, Nat.testBit_lt_two_pow (Nat.lt_of_lt_of_le he (Nat.pow_le_pow_right (by decide) (by omega)))]
      by_cases hji : i = j
      · subst hji; simp
      · have : j - i ≠ 0 := by omega
        simp [hji, Nat.testBit_lt_two_pow (Nat.one_lt_two_pow this)]
  refine ⟨by rw [flip_len, hl], ?_, ?_, ?_⟩
  · rw [flip_high y _ (by rw [hl]; exact hb), hh, hx, mul_xor_pow, Nat.pow_add, ← Nat.xor_assoc]
  · rw [Nat.pow_succ]; omega
  · have : 2 ^ i % 2 = 0 := by
      obtain ⟨k, rfl⟩ : ∃ k, i = k + 1 := ⟨i - 1, by omega⟩
      rw [Nat.pow_succ]; omega
    omega
end Go.Proofs.Ytolgpnaoaodepaa.Pr
