/- Plain mathematics of reading: numbers in bytes, a cursor. -/
import Derived.Test.YtolgpnaoaodepaaGreatMathC
namespace Go.Proofs.YtolgpnaoaodepaaGreat.Pg

/-- The number in bytes, the lowest first. -/
def high : List UInt8 → Nat
  | [] => 0
  | b :: r => b.toNat + 256 * high r
theorem high_lt : ∀ (l : List UInt8) (k : Nat), l.length ≤ k → high l < 256 ^ k
  | [], k, _ => Nat.pow_pos (by decide)
  | b :: r, 0, h => by simp at h
  | b :: r, k + 1, h => by
    have h1 := high_lt r k (by simpa using h)
    have h2 : b.toNat < 256 := b.toNat_lt
    rw [high, Nat.pow_succ]; omega
theorem high_low : ∀ (k n : Nat), n < 256 ^ k → high (low n k) = n
  | 0, n, h => by simp at h; subst h; rfl
  | k + 1, n, h => by
    rw [low, high, high_low k (n / 256) (by rw [Nat.div_lt_iff_lt_mul (by decide)]; rw [Nat.pow_succ] at h; exact h)]
    simp; omega
theorem low_high : ∀ (l : List UInt8), low (high l) l.length = l
  | [] => rfl
  | b :: r => by
    have h2 : b.toNat < 256 := b.toNat_lt
    rw [List.length_cons, low, high]
    rw [show (b.toNat + 256 * high r) / 256 = high r by omega, low_high r, show (b.toNat + 256 * high r) % 256 = b.toNat by omega]
    simp

/-- What is left to be read; was something bad? -/
structure Cur where
  rem : List UInt8
  bad : Bool
def Cur.take (c : Cur) (n : Nat) : List UInt8 × Cur :=
  if c.bad = false ∧ n ≤ c.rem.length then (c.rem.take n, ⟨c.rem.drop n, false⟩) else ((if n ≤ 300 then List.replicate n 0 else []), ⟨c.rem, true⟩)
theorem take_yes {c : Cur} {n : Nat} (h : c.bad = false) (hn : n ≤ c.rem.length) : c.take n = (c.rem.take n, ⟨c.rem.drop n, false⟩) := by unfold Cur.take; rw [if_pos ⟨h, hn⟩]
theorem take_no {c : Cur} {n : Nat} (h : ¬ (c.bad = false ∧ n ≤ c.rem.length)) : c.take n = ((if n ≤ 300 then List.replicate n 0 else []), ⟨c.rem, true⟩) := by unfold Cur.take; rw [if_neg h]
def Cur.byte (c : Cur) : Nat := high (c.take 1).1
theorem take_len (c : Cur) (n : Nat) (h : n ≤ 300) : (c.take n).1.length = n := by
  unfold Cur.take; split
  · rename_i hc; rw [List.length_take]; omega
  · simp
theorem byte_lt (c : Cur) : c.byte < 256 := high_lt _ 1 (by rw [take_len c 1 (by decide)]; exact Nat.le_refl _)

/-- A number: so many rounds are left; what has been read so far; what a byte counts. -/
def numberF : Nat → Cur → Nat → Nat → Bool → Nat × Cur
  | 0, c, _, _, _ => (0, ⟨c.rem, true⟩)
  | f + 1, c, n, times, first =>
    if c.byte < 128 then
      (if (c.take 1).2.bad = true ∨ (c.byte = 0 ∧ first = false) ∨ 2147483647 < n + c.byte % 128 * times then (0, ⟨(c.take 1).2.rem, true⟩) else (n + c.byte % 128 * times, (c.take 1).2))
    else numberF f (c.take 1).2 (n + c.byte % 128 * times) (128 * times) false
def Cur.number (c : Cur) : Nat × Cur := numberF 5 c 0 1 true
def Cur.text (c : Cur) (most : Nat) : List UInt8 × Cur :=
  if most < c.number.1 then ([], ⟨c.number.2.rem, true⟩) else c.number.2.take c.number.1
def Cur.ends (c : Cur) : Bool := !c.bad && c.rem.isEmpty
end Go.Proofs.YtolgpnaoaodepaaGreat.Pg
namespace Go.Proofs.YtolgpnaoaodepaaGreat.Pg
/-- What a section says: its marks, one by one, as the reference reads them. -/
def secA (s : List UInt8) : List UInt8 × Cur := (⟨s, false⟩ : Cur).take 1
def secB (s : List UInt8) : List UInt8 × Cur := (secA s).2.take 1
def secN (s : List UInt8) : Nat × Cur := (secB s).2.number
def secT (s : List UInt8) : List UInt8 × Cur := (secN s).2.text s.length
def secE (s : List UInt8) : List UInt8 × Cur := (secT s).2.take 4
def content (kind s : List UInt8) : List UInt8 × Bool :=
  if (secE s).2.ends = false ∨ (secA s).1 ≠ kind ∨ 1 < high (secB s).1 then ([], false)
  else if high (secB s).1 = 1 then
    (match Sq.spread (secT s).1 with
      | none => ([], false)
      | some u => if u.length = (secN s).1 then (u, decide (section_ kind u = s)) else ([], false))
  else ((secT s).1, decide (section_ kind (secT s).1 = s))
theorem content_no {kind s : List UInt8} (h : (secE s).2.ends = false ∨ (secA s).1 ≠ kind ∨ 1 < high (secB s).1) : content kind s = ([], false) := by unfold content; rw [if_pos h]
theorem content_plain {kind s : List UInt8} (h : ¬ ((secE s).2.ends = false ∨ (secA s).1 ≠ kind ∨ 1 < high (secB s).1)) (h1 : ¬ high (secB s).1 = 1) : content kind s = ((secT s).1, decide (section_ kind (secT s).1 = s)) := by unfold content; rw [if_neg h, if_neg h1]
theorem content_none {kind s : List UInt8} (h : ¬ ((secE s).2.ends = false ∨ (secA s).1 ≠ kind ∨ 1 < high (secB s).1)) (h1 : high (secB s).1 = 1) (hs : Sq.spread (secT s).1 = none) : content kind s = ([], false) := by unfold content; rw [if_neg h, if_pos h1, hs]
theorem content_some {kind s u : List UInt8} (h : ¬ ((secE s).2.ends = false ∨ (secA s).1 ≠ kind ∨ 1 < high (secB s).1)) (h1 : high (secB s).1 = 1) (hs : Sq.spread (secT s).1 = some u) (hl : u.length = (secN s).1) : content kind s = (u, decide (section_ kind u = s)) := by unfold content; rw [if_neg h, if_pos h1, hs]; simp only [if_pos hl]
theorem content_long {kind s u : List UInt8} (h : ¬ ((secE s).2.ends = false ∨ (secA s).1 ≠ kind ∨ 1 < high (secB s).1)) (h1 : high (secB s).1 = 1) (hs : Sq.spread (secT s).1 = some u) (hl : ¬ u.length = (secN s).1) : content kind s = ([], false) := by unfold content; rw [if_neg h, if_pos h1, hs]; simp only [if_neg hl]
theorem take_short (c : Cur) (n : Nat) (h : n ≤ 1000000000) : (c.take n).1.length ≤ 1000000000 := by
  unfold Cur.take; split
  · rw [List.length_take]; omega
  · split
    · rw [List.length_replicate]; exact h
    · simp
theorem text_short (c : Cur) (most : Nat) (h : most ≤ 1000000000) : (c.text most).1.length ≤ 1000000000 := by
  unfold Cur.text; split
  · simp
  · exact take_short _ _ (by omega)
theorem content_short (kind s : List UInt8) (h : s.length ≤ 1000000000) : (content kind s).1.length ≤ 66000000000 := by
  have ht : (secT s).1.length ≤ 1000000000 := text_short _ _ h
  by_cases hq : (secE s).2.ends = false ∨ (secA s).1 ≠ kind ∨ 1 < high (secB s).1
  · rw [content_no hq]; simp
  · by_cases h1 : high (secB s).1 = 1
    · cases hs : Sq.spread (secT s).1 with
      | none => rw [content_none hq h1 hs]; simp
      | some u =>
        by_cases hl : u.length = (secN s).1
        · rw [content_some hq h1 hs hl]
          have : u.length ≤ 66 * (secT s).1.length := by
            unfold Sq.spread at hs
            split at hs
            · rename_i t ht'
              have := Sq.decode_le _ _ _ ht'
              split at hs
              · simp at hs; subst hs; simpa using this
              · simp at hs
            · simp at hs
          simp only; omega
        · rw [content_long hq h1 hs hl]; simp
    · rw [content_plain hq h1]; simp only; omega
end Go.Proofs.YtolgpnaoaodepaaGreat.Pg
