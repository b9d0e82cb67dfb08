/- The walks of giveup.Unless, unpackRun, unpackMatch. -/
import Derived.Test.YtolgpnaoaodepaaGreatWalkCm
import Derived.Defers
import Derived.Recover
import Derived.Laws.Pointers
import Derived.Test.YtolgpnaoaodepaaGreatMathAm
namespace Go.Proofs.YtolgpnaoaodepaaGreat
open Go.RowKit

theorem Owns.cellAt {B : Nat} {w : World} {g n c : Nat} {l : List UInt8} (h : Owns B w (.slice (some ⟨g, 0, none⟩) n c) l) (j : Nat) (b : UInt8) (hj : l[j]? = some b) : w.cell? ⟨g, j, none⟩ = some (.int .u8 (b.toNat : Int)) := by
  have := h.cells j (.int .u8 (b.toNat : Int)) (by simp [Lib.byteCells, hj])
  by_cases h0 : j = 0
  · subst h0; simpa [Addr.add] using this
  · simpa [Addr.add, h0] using this
end Go.Proofs.YtolgpnaoaodepaaGreat
/- The walks of unpack and of package squeeze's Spread. -/
namespace Go.Proofs.YtolgpnaoaodepaaGreat
open Go.RowKit

theorem toList_is (s : ByteArray) : s.toList = s.data.toList := by
  have h := ByteArray.toList_mk s.data.toList
  simpa using h
end Go.Proofs.YtolgpnaoaodepaaGreat
/- The walks of Catch, of silt's Squeeze and Spread. -/
namespace Go.Proofs.YtolgpnaoaodepaaGreat
open Go.RowKit

end Go.Proofs.YtolgpnaoaodepaaGreat
/- Plain mathematics of numbers, texts, checks and sections. Nothing of the program is named here. -/
namespace Go.Proofs.YtolgpnaoaodepaaGreat.Pg

/-- A number in so many bytes, the lowest first. -/
def low (n : Nat) : Nat → List UInt8
  | 0 => []
  | k + 1 => UInt8.ofNat (n % 256) :: low (n / 256) k
theorem low_len : ∀ (k n : Nat), (low n k).length = k
  | 0, _ => rfl
  | k + 1, n => by rw [low, List.length_cons, low_len k]

/-- One step of the check. -/
def crcBit (c : Nat) : Nat := if c % 2 = 1 then (c / 2) ^^^ 2197175160 else c / 2
def crcBits : Nat → Nat → Nat
  | 0, c => c
  | k + 1, c => crcBit (crcBits k c)
def crcByte (c : Nat) (b : UInt8) : Nat := crcBits 8 (c ^^^ b.toNat)
def crcAll (l : List UInt8) : Nat := l.foldl crcByte 4294967295
def crc (l : List UInt8) : Nat := crcAll l ^^^ 4294967295
theorem xor_lt {a b : Nat} (ha : a < 4294967296) (hb : b < 4294967296) : a ^^^ b < 4294967296 := Nat.xor_lt_two_pow (n := 32) ha hb
theorem crcBit_lt {c : Nat} (h : c < 4294967296) : crcBit c < 4294967296 := by
  unfold crcBit; split
  · exact xor_lt (by omega) (by omega)
  · omega
theorem crcBits_lt {c : Nat} (h : c < 4294967296) : ∀ k, crcBits k c < 4294967296
  | 0 => h
  | k + 1 => crcBit_lt (crcBits_lt h k)
theorem crcByte_lt {c : Nat} (h : c < 4294967296) (b : UInt8) : crcByte c b < 4294967296 := by
  refine crcBits_lt (xor_lt h ?_) 8
  have : b.toNat < 256 := b.toNat_lt
  omega
theorem crcFold_lt : ∀ (l : List UInt8) (c : Nat), c < 4294967296 → l.foldl crcByte c < 4294967296
  | [], _, h => h
  | b :: l, _, h => crcFold_lt l _ (crcByte_lt h b)
theorem crcAll_lt (l : List UInt8) : crcAll l < 4294967296 := crcFold_lt l _ (by decide)
theorem crc_lt (l : List UInt8) : crc l < 4294967296 := xor_lt (crcAll_lt l) (by decide)
theorem crcAll_snoc (l : List UInt8) (b : UInt8) : crcAll (l ++ [b]) = crcByte (crcAll l) b := by simp [crcAll]

/-- With the check behind. -/
def sealed (l : List UInt8) : List UInt8 := l ++ low (crc l) 4
theorem seal_len (l : List UInt8) : (sealed l).length = l.length + 4 := by simp [sealed, low_len]

/-- A number, as it is written. -/
def numF : Nat → Nat → List UInt8
  | 0, _ => []
  | f + 1, n => if n < 128 then low n 1 else low (128 + n % 128) 1 ++ numF f (n / 128)
def num (n : Nat) : List UInt8 := numF (n + 1) n
theorem numF_fuel : ∀ (f g n : Nat), n < f → n < g → numF f n = numF g n
  | 0, _, _, h, _ => by omega
  | _ + 1, 0, _, _, h => by omega
  | f + 1, g + 1, n, h1, h2 => by
    unfold numF
    split
    · rfl
    · rw [numF_fuel f g (n / 128) (by omega) (by omega)]
theorem num_small (n : Nat) (h : n < 128) : num n = low n 1 := by unfold num numF; rw [if_pos h]
theorem num_big (n : Nat) (h : ¬ n < 128) : num n = low (128 + n % 128) 1 ++ num (n / 128) := by
  unfold num; rw [numF, if_neg h, numF_fuel n (n / 128 + 1) (n / 128) (by omega) (by omega)]
theorem num_len' : ∀ (k n : Nat), n < 128 ^ (k + 1) → (num n).length ≤ k + 1
  | 0, n, h => by rw [num_small n (by simpa using h)]; simp [low_len]
  | k + 1, n, h => by
    by_cases hs : n < 128
    · rw [num_small n hs]; simp [low_len]
    · rw [num_big n hs]
      have h6 : n / 128 < 128 ^ (k + 1) := by rw [Nat.div_lt_iff_lt_mul (by decide)]; rw [Nat.pow_succ] at h; exact h
      have := num_len' k (n / 128) h6
      simp [low_len]; omega
theorem num_len (n : Nat) (h : n < 34359738368) : (num n).length ≤ 5 := num_len' 4 n (by show n < 128 ^ 5; exact h)

def text (l : List UInt8) : List UInt8 := num l.length ++ l

/-- A section: what it holds, and the content. -/
def section_ (kind content : List UInt8) : List UInt8 :=
  if (Sq.squeeze content).length < content.length then sealed (kind ++ low 1 1 ++ num content.length ++ text (Sq.squeeze content))
  else sealed (kind ++ low 0 1 ++ num content.length ++ text content)

end Go.Proofs.YtolgpnaoaodepaaGreat.Pg
namespace Go.Proofs.YtolgpnaoaodepaaGreat.Pg
/-- How many bytes two keys have in common at their fronts. -/
def common : List UInt8 → List UInt8 → Nat
  | x :: xs, y :: ys => if x = y then common xs ys + 1 else 0
  | _, _ => 0
theorem common_le : ∀ (a b : List UInt8), common a b ≤ a.length ∧ common a b ≤ b.length
  | [], _ => by simp [common]
  | _ :: _, [] => by simp [common]
  | x :: xs, y :: ys => by
    unfold common; split
    · have := common_le xs ys; simp; omega
    · simp
theorem common_stop : ∀ (n : Nat) (a b : List UInt8), (∀ k, k < n → ∃ x, a[k]? = some x ∧ b[k]? = some x) → (a.length = n ∨ b.length = n ∨ a[n]? ≠ b[n]?) → common a b = n
  | 0, [], _, _, _ => by simp [common]
  | 0, _ :: _, [], _, _ => by simp [common]
  | 0, x :: xs, y :: ys, _, h => by
    unfold common; rw [if_neg]
    rcases h with h | h | h
    · simp at h
    · simp at h
    · simpa using h
  | n + 1, [], b, h, _ => by obtain ⟨x, hx, _⟩ := h 0 (by omega); simp at hx
  | n + 1, x :: xs, [], h, _ => by obtain ⟨x, _, hx⟩ := h 0 (by omega); simp at hx
  | n + 1, x :: xs, y :: ys, h, hs => by
    obtain ⟨z, h1, h2⟩ := h 0 (by omega)
    simp at h1 h2
    unfold common; rw [if_pos (by rw [h1, h2]), common_stop n xs ys (fun k hk => by have := h (k + 1) (by omega); simpa using this) (by simpa using hs)]

/-- Items, one behind another, each with what it has in common with the key ahead. -/
def items : List UInt8 → List (List UInt8 × List UInt8) → List UInt8
  | _, [] => []
  | last, (k, v) :: r => low (common last k) 1 ++ text (k.drop (common last k)) ++ text v ++ items k r
def basement (l : List (List UInt8 × List UInt8)) : List UInt8 := low l.length 1 ++ items [] l
end Go.Proofs.YtolgpnaoaodepaaGreat.Pg
