/- A check tells up to 32 turned bits in a row: the plain mathematics of CRC-32C. -/
import Derived.Test.YtolgpnaoaodepaaMathD
namespace Go.Proofs.Ytolgpnaoaodepaa.Pg

theorem crcBit_xor (a b : Nat) : crcBit (a ^^^ b) = crcBit a ^^^ crcBit b := by
  unfold crcBit
  rw [Nat.xor_div_two]
  by_cases ha : a % 2 = 1 <;> by_cases hb : b % 2 = 1
  · rw [if_neg (by rw [Nat.xor_mod_two_eq_one]; simp [ha, hb]), if_pos ha, if_pos hb]
    rw [Nat.xor_assoc, Nat.xor_comm (b / 2), ← Nat.xor_assoc 2197175160, Nat.xor_self, Nat.zero_xor]
  · rw [if_pos (by rw [Nat.xor_mod_two_eq_one]; simp [ha, hb]), if_pos ha, if_neg hb]
    rw [Nat.xor_assoc, Nat.xor_comm (b / 2), ← Nat.xor_assoc]
  · rw [if_pos (by rw [Nat.xor_mod_two_eq_one]; simp [ha, hb]), if_neg ha, if_pos hb, Nat.xor_assoc]
  · rw [if_neg (by rw [Nat.xor_mod_two_eq_one]; simp [ha, hb]), if_neg ha, if_neg hb]
theorem crcBits_xor (a b : Nat) : ∀ k, crcBits k (a ^^^ b) = crcBits k a ^^^ crcBits k b
  | 0 => rfl
  | k + 1 => by rw [crcBits, crcBits_xor a b k, crcBit_xor]; rfl
theorem crcBits_add (c : Nat) (j : Nat) : ∀ k, crcBits (j + k) c = crcBits k (crcBits j c)
  | 0 => rfl
  | k + 1 => by rw [show j + (k + 1) = (j + k) + 1 from rfl, crcBits, crcBits_add c j k]; rfl
theorem crcBits_shift (e : Nat) : ∀ k, crcBits k (2 ^ k * e) = e
  | 0 => by simp [crcBits]
  | k + 1 => by
    rw [show k + 1 = 1 + k by omega, crcBits_add]
    have : crcBits 1 (2 ^ (1 + k) * e) = 2 ^ k * e := by
      show crcBit (2 ^ (1 + k) * e) = _
      have h2 : 2 ^ (1 + k) * e = 2 * (2 ^ k * e) := by rw [Nat.pow_add, Nat.pow_one, Nat.mul_assoc]
      rw [h2]; unfold crcBit; rw [if_neg (by omega)]; omega
    rw [this, crcBits_shift e k]
theorem crcBit_nz {c : Nat} (h : c < 4294967296) (h0 : c ≠ 0) : crcBit c ≠ 0 := by
  unfold crcBit; split
  · intro e
    have : c / 2 = 2197175160 := by
      have := congrArg (· ^^^ 2197175160) e
      simp only [Nat.xor_assoc, Nat.xor_self, Nat.xor_zero, Nat.zero_xor] at this
      exact this
    omega
  · omega
theorem crcBits_nz {c : Nat} (h : c < 4294967296) (h0 : c ≠ 0) : ∀ k, crcBits k c ≠ 0
  | 0 => h0
  | k + 1 => crcBit_nz (crcBits_lt h k) (crcBits_nz h h0 k)
theorem xor_up (b t : Nat) (hb : b < 256) : b + 256 * t = b ^^^ (256 * t) := by
  apply Nat.eq_of_testBit_eq
  intro i
  rw [Nat.add_comm, show (256 : Nat) = 2 ^ 8 from rfl, Nat.testBit_two_pow_mul_add t (by simpa using hb), Nat.testBit_xor, Nat.testBit_two_pow_mul]
  by_cases hi : i < 8
  · rw [if_pos hi]; simp [show ¬ 8 ≤ i by omega]
  · rw [if_neg hi, Nat.testBit_lt_two_pow (show b < 2 ^ i from Nat.lt_of_lt_of_le (show b < 2 ^ 8 from hb) (Nat.pow_le_pow_right (by decide) (by omega)))]
    simp [show 8 ≤ i by omega]
/-- The check of bytes, all of them in one great number. -/
theorem crc_fold : ∀ (l : List UInt8) (c : Nat), l.foldl crcByte c = crcBits (8 * l.length) (c ^^^ high l)
  | [], c => by simp [high, crcBits]
  | b :: t, c => by
    have hb : b.toNat < 256 := b.toNat_lt
    rw [List.foldl_cons, crc_fold t, high, xor_up _ _ hb, ← Nat.xor_assoc, List.length_cons, show 8 * (t.length + 1) = 8 + 8 * t.length by omega, crcBits_add, crcBits_xor _ _ 8]
    rw [show 256 * high t = 2 ^ 8 * high t from rfl, crcBits_shift]; rfl
theorem crc_seal (a : List UInt8) : (sealed a).foldl crcByte 4294967295 = crcBits 32 4294967295 := by
  unfold sealed
  rw [List.foldl_append]
  show (low (crc a) 4).foldl crcByte (crcAll a) = _
  rw [crc_fold, low_len, high_low 4 _ (crc_lt a)]
  unfold crc
  rw [← Nat.xor_assoc, Nat.xor_self, Nat.zero_xor]
/-- Two sealed texts of one length, one of which is the other with up to 32 bits in a row turned: there are none such. -/
theorem crc_burst (x y a b : List UInt8) (from_ e : Nat) (hx : x = sealed a) (hy : y = sealed b) (hl : y.length = x.length) (he : high y = high x ^^^ 2 ^ from_ * e) (h1 : e ≠ 0) (h2 : e < 4294967296) (hf : from_ ≤ 8 * x.length) : False := by
  have r1 := crc_seal a
  have r2 := crc_seal b
  rw [← hx, crc_fold] at r1
  rw [← hy, crc_fold, hl, he, ← Nat.xor_assoc, crcBits_xor, r1] at r2
  have r3 : crcBits (8 * x.length) (2 ^ from_ * e) = 0 := by
    have := congrArg (crcBits 32 4294967295 ^^^ ·) r2
    simp only [← Nat.xor_assoc, Nat.xor_self, Nat.zero_xor] at this
    exact this
  rw [show 8 * x.length = from_ + (8 * x.length - from_) by omega, crcBits_add, crcBits_shift] at r3
  exact crcBits_nz h2 h1 _ r3
theorem high_append : ∀ (p q : List UInt8), high (p ++ q) = high p + 256 ^ p.length * high q
  | [], q => by simp [high]
  | b :: p, q => by rw [List.cons_append, high, high, high_append p q, List.length_cons, Nat.pow_succ]; rw [Nat.mul_add, ← Nat.mul_assoc]; rw [Nat.mul_comm 256 (256 ^ p.length)]; omega
theorem high_inj {x y : List UInt8} (hl : x.length = y.length) (h : high x = high y) : x = y := by rw [← low_high x, ← low_high y, h, hl]
theorem pow256 (k : Nat) : 256 ^ k = 2 ^ (8 * k) := by rw [Nat.pow_mul]
theorem xor_part (a b e k : Nat) (h : a < 2 ^ k) : (a + 2 ^ k * b) ^^^ (2 ^ k * e) = a + 2 ^ k * (b ^^^ e) := by
  apply Nat.eq_of_testBit_eq
  intro i
  rw [Nat.add_comm a, Nat.add_comm a, Nat.testBit_xor, Nat.testBit_two_pow_mul_add _ h, Nat.testBit_two_pow_mul_add _ h, Nat.testBit_two_pow_mul]
  by_cases hi : i < k
  · rw [if_pos hi, if_pos hi]; simp [show ¬ k ≤ i by omega]
  · rw [if_neg hi, if_neg hi, Nat.testBit_xor]; simp [show k ≤ i by omega]
theorem xor_lt_pow {a b k : Nat} (ha : a < 2 ^ k) (hb : b < 2 ^ k) : a ^^^ b < 2 ^ k := Nat.xor_lt_two_pow ha hb
/-- Bits that are turned in a part of a text: the rest stays. -/
theorem turn_part (p q r y : List UInt8) (e : Nat) (hl : y.length = (p ++ q ++ r).length) (he : high y = high (p ++ q ++ r) ^^^ 2 ^ (8 * p.length) * e) (hq : e < 2 ^ (8 * q.length)) : ∃ q', y = p ++ q' ++ r ∧ q'.length = q.length ∧ high q' = high q ^^^ e := by
  have hqx : high q ^^^ e < 256 ^ q.length := by rw [pow256]; exact xor_lt_pow (by rw [← pow256]; exact high_lt q _ (Nat.le_refl _)) hq
  have h1 : high (low (high q ^^^ e) q.length) = high q ^^^ e := high_low _ _ hqx
  refine ⟨low (high q ^^^ e) q.length, ?_, low_len _ _, h1⟩
  apply high_inj
  · rw [hl]; simp only [List.length_append, low_len]
  · rw [he, List.append_assoc, List.append_assoc, high_append p, high_append p, pow256, xor_part _ _ _ _ (by rw [← pow256]; exact high_lt p _ (Nat.le_refl _))]
    congr 2
    rw [high_append, high_append, low_len, h1, pow256]
    have := xor_part e (high q + 2 ^ (8 * q.length) * high r) 0 (8 * q.length) hq
    rw [Nat.xor_comm]
    apply Nat.eq_of_testBit_eq
    intro i
    have hq1 : high q < 2 ^ (8 * q.length) := by rw [← pow256]; exact high_lt q _ (Nat.le_refl _)
    rw [Nat.testBit_xor, Nat.add_comm (high q), Nat.add_comm (high q ^^^ e), Nat.testBit_two_pow_mul_add _ hq1, Nat.testBit_two_pow_mul_add _ (xor_lt_pow hq1 hq)]
    by_cases hi : i < 8 * q.length
    · rw [if_pos hi, if_pos hi, Nat.testBit_xor, Bool.xor_comm]
    · rw [if_neg hi, if_neg hi, Nat.testBit_lt_two_pow (Nat.lt_of_lt_of_le hq (Nat.pow_le_pow_right (by decide) (by omega))), Bool.false_xor]
end Go.Proofs.Ytolgpnaoaodepaa.Pg
