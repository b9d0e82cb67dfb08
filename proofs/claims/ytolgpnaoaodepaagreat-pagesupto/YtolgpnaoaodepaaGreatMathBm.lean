/- Plain mathematics of numbers, texts, checks and sections. Nothing of the program is named here. -/
import Derived.Test.YtolgpnaoaodepaaGreatMathAm
namespace Go.Proofs.YtolgpnaoaodepaaGreat.Pg

/-- A number in so many bytes, the lowest first. -/
def low (n : Nat) : Nat → List UInt8
  | 0 => []
  | k + 1 => UInt8.ofNat (n % 256) :: low (n / 256) k
theorem low_len : ∀ (k n : Nat), (low n k).length = k
  | 0, _ => rfl
  | k + 1, n => by rw [low, List.length_cons, low_len k]

/-- One step of the check. -/
def crcBit (c : Nat) : Nat := if c % 2 = 1 then (c / 2) ^^^ 2197175160 else c / 2
def crcBits : Nat → Nat → Nat
  | 0, c => c
  | k + 1, c => crcBit (crcBits k c)
def crcByte (c : Nat) (b : UInt8) : Nat := crcBits 8 (c ^^^ b.toNat)
def crcAll (l : List UInt8) : Nat := l.foldl crcByte 4294967295
def crc (l : List UInt8) : Nat := crcAll l ^^^ 4294967295
theorem xor_lt {a b : Nat} (ha : a < 4294967296) (hb : b < 4294967296) : a ^^^ b < 4294967296 := Nat.xor_lt_two_pow (n := 32) ha hb
theorem crcBit_lt {c : Nat} (h : c < 4294967296) : crcBit c < 4294967296 := by
  unfold crcBit; split
  · exact xor_lt (by omega) (by omega)
  · omega
theorem crcBits_lt {c : Nat} (h : c < 4294967296) : ∀ k, crcBits k c < 4294967296
  | 0 => h
  | k + 1 => crcBit_lt (crcBits_lt h k)
theorem crcByte_lt {c : Nat} (h : c < 4294967296) (b : UInt8) : crcByte c b < 4294967296 := by
  refine crcBits_lt (xor_lt h ?_) 8
  have : b.toNat < 256 := b.toNat_lt
  omega
theorem crcFold_lt : ∀ (l : List UInt8) (c : Nat), c < 4294967296 → l.foldl crcByte c < 4294967296
  | [], _, h => h
  | b :: l, _, h => crcFold_lt l _ (crcByte_lt h b)
theorem crcAll_lt (l : List UInt8) : crcAll l < 4294967296 := crcFold_lt l _ (by decide)
theorem crc_lt (l : List UInt8) : crc l < 4294967296 := xor_lt (crcAll_lt l) (by decide)
theorem crcAll_snoc (l : List UInt8) (b : UInt8) : crcAll (l ++ [b]) = crcByte (crcAll l) b := by simp [crcAll]

/-- With the check behind. -/
def sealed (l : List UInt8) : List UInt8 := l ++ low (crc l) 4
theorem seal_len (l : List UInt8) : (sealed l).length = l.length + 4 := by simp [sealed, low_len]

/-- A number, as it is written. -/
def numF : Nat → Nat → List UInt8
  | 0, _ => []
  | f + 1, n => if n < 128 then low n 1 else low (128 + n % 128) 1 ++ numF f (n / 128)
def num (n : Nat) : List UInt8 := numF (n + 1) n
theorem numF_fuel : ∀ (f g n : Nat), n < f → n < g → numF f n = numF g n
  | 0, _, _, h, _ => by omega
  | _ + 1, 0, _, _, h => by omega
  | f + 1, g + 1, n, h1, h2 => by
    unfold numF
    split
    · rfl
    · rw [numF_fuel f g (n / 128) (by omega) (by omega)]
theorem num_small (n : Nat) (h : n < 128) : num n = low n 1 := by unfold num numF; rw [if_pos h]
theorem num_big (n : Nat) (h : ¬ n < 128) : num n = low (128 + n % 128) 1 ++ num (n / 128) := by
  unfold num; rw [numF, if_neg h, numF_fuel n (n / 128 + 1) (n / 128) (by omega) (by omega)]
theorem num_len' : ∀ (k n : Nat), n < 128 ^ (k + 1) → (num n).length ≤ k + 1
  | 0, n, h => by rw [num_small n (by simpa using h)]; simp [low_len]
  | k + 1, n, h => by
    by_cases hs : n < 128
    · rw [num_small n hs]; simp [low_len]
    · rw [num_big n hs]
      have h6 : n / 128 < 128 ^ (k + 1) := by rw [Nat.div_lt_iff_lt_mul (by decide)]; rw [Nat.pow_succ] at h; exact h
      have := num_len' k (n / 128) h6
      simp [low_len]; omega
theorem num_len (n : Nat) (h : n < 34359738368) : (num n).length ≤ 5 := num_len' 4 n (by show n < 128 ^ 5; exact h)

def text (l : List UInt8) : List UInt8 := num l.length ++ l

/-- A section: what it holds, and the content. -/
def section_ (kind content : List UInt8) : List UInt8 :=
  if (Sq.squeeze content).length < content.length then sealed (kind ++ low 1 1 ++ num content.length ++ text (Sq.squeeze content))
  else sealed (kind ++ low 0 1 ++ num content.length ++ text content)

end Go.Proofs.YtolgpnaoaodepaaGreat.Pg
namespace Go.Proofs.YtolgpnaoaodepaaGreat.Pg
/-- How many bytes two keys have in common at their fronts. -/
def common : List UInt8 → List UInt8 → Nat
  | x :: xs, y :: ys => if x = y then common xs ys + 1 else 0
  | _, _ => 0
theorem common_le : ∀ (a b : List UInt8), common a b ≤ a.length ∧ common a b ≤ b.length
  | [], _ => by simp [common]
  | _ :: _, [] => by simp [common]
  | x :: xs, y :: ys => by
    unfold common; split
    · have := common_le xs ys; simp; omega
    · simp
theorem common_stop : ∀ (n : Nat) (a b : List UInt8), (∀ k, k < n → ∃ x, a[k]? = some x ∧ b[k]? = some x) → (a.length = n ∨ b.length = n ∨ a[n]? ≠ b[n]?) → common a b = n
  | 0, [], _, _, _ => by simp [common]
  | 0, _ :: _, [], _, _ => by simp [common]
  | 0, x :: xs, y :: ys, _, h => by
    unfold common; rw [if_neg]
    rcases h with h | h | h
    · simp at h
    · simp at h
    · simpa using h
  | n + 1, [], b, h, _ => by obtain ⟨x, hx, _⟩ := h 0 (by omega); simp at hx
  | n + 1, x :: xs, [], h, _ => by obtain ⟨x, _, hx⟩ := h 0 (by omega); simp at hx
  | n + 1, x :: xs, y :: ys, h, hs => by
    obtain ⟨z, h1, h2⟩ := h 0 (by omega)
    simp at h1 h2
    unfold common; rw [if_pos (by rw [h1, h2]), common_stop n xs ys (fun k hk => by have := h (k + 1) (by omega); simpa using this) (by simpa using hs)]

/-- Items, one behind another, each with what it has in common with the key ahead. -/
def items : List UInt8 → List (List UInt8 × List UInt8) → List UInt8
  | _, [] => []
  | last, (k, v) :: r => low (common last k) 1 ++ text (k.drop (common last k)) ++ text v ++ items k r
def basement (l : List (List UInt8 × List UInt8)) : List UInt8 := low l.length 1 ++ items [] l
end Go.Proofs.YtolgpnaoaodepaaGreat.Pg
/- Plain mathematics of a leaf's page, today's and old. -/
namespace Go.Proofs.YtolgpnaoaodepaaGreat.Pg

theorem text_le (l : List UInt8) (h : l.length < 34359738368) : (text l).length ≤ l.length + 5 := by
  unfold text; rw [List.length_append]; have := num_len l.length h; omega
theorem section_len (k c : List UInt8) (h : c.length < 17179869184) : (section_ k c).length ≤ k.length + c.length + 20 := by
  have h2 := num_len c.length (by omega)
  unfold section_
  split
  · rename_i hlt
    have := text_le (Sq.squeeze c) (by omega)
    rw [seal_len]; simp only [List.length_append, low_len]; omega
  · have := text_le c (by omega)
    rw [seal_len]; simp only [List.length_append, low_len]; omega
theorem items_len : ∀ (l : List (List UInt8 × List UInt8)) (last : List UInt8), (∀ x ∈ l, x.1.length ≤ 12 ∧ x.2.length ≤ 16) → (items last l).length ≤ 60 * l.length
  | [], _, _ => by simp [items]
  | (k, v) :: r, last, h => by
    have h1 := h (k, v) (by simp)
    simp only at h1
    have h2 := text_le (k.drop (common last k)) (by rw [List.length_drop]; omega)
    rw [List.length_drop] at h2
    have h3 := text_le v (by omega)
    have h4 := items_len r k (fun x hx => h x (by simp [hx]))
    unfold items
    simp only [List.length_append, low_len, List.length_cons]; omega
theorem basement_len (l : List (List UInt8 × List UInt8)) (h : ∀ x ∈ l, x.1.length ≤ 12 ∧ x.2.length ≤ 16) : (basement l).length ≤ 1 + 60 * l.length := by
  unfold basement; rw [List.length_append, low_len]; have := items_len l [] h; omega

/-- A basement's section. -/
def base (l : List (List UInt8 × List UInt8)) : List UInt8 := section_ [98] (basement (l.take 4))
/-- What stands of a basement in a leaf's first bytes. -/
def entry (l : List (List UInt8 × List UInt8)) : List UInt8 := match l with
  | [] => []
  | (k, _) :: _ => low (base l).length 2 ++ low k.length 1 ++ k ++ List.replicate (12 - k.length) 0
def entries : Nat → List (List UInt8 × List UInt8) → List UInt8
  | 0, _ => []
  | f + 1, l => if l = [] then [] else entry l ++ entries f (l.drop 4)
def bases : Nat → List (List UInt8 × List UInt8) → List UInt8
  | 0, _ => []
  | f + 1, l => if l = [] then [] else base l ++ bases f (l.drop 4)
def many (n : Nat) : Nat := (n + 3) / 4
def leaf (l : List (List UInt8 × List UInt8)) : List UInt8 :=
  sealed ([83, 50, 76] ++ low (many l.length) 1 ++ entries (many l.length) l ++ List.replicate (60 - (entries (many l.length) l).length) 0) ++ bases (many l.length) l
theorem entry_len (l : List (List UInt8 × List UInt8)) (h : l ≠ []) (hk : ∀ x ∈ l, x.1.length ≤ 12 ∧ x.2.length ≤ 16) : (entry l).length = 15 := by
  match l, h with
  | (k, v) :: r, _ =>
    have := hk (k, v) (by simp)
    simp only at this
    simp only [entry, List.length_append, low_len, List.length_replicate]; omega

/-- An old leaf's page. -/
def oldItems : List (List UInt8 × List UInt8) → List UInt8
  | [] => []
  | (k, v) :: r => text k ++ text v ++ oldItems r
def oldLeaf (l : List (List UInt8 × List UInt8)) : List UInt8 := sealed ([83, 49, 76] ++ low l.length 1 ++ oldItems l)
end Go.Proofs.YtolgpnaoaodepaaGreat.Pg
/- Plain mathematics of reading: numbers in bytes, a cursor. -/
namespace Go.Proofs.YtolgpnaoaodepaaGreat.Pg

/-- The number in bytes, the lowest first. -/
def high : List UInt8 → Nat
  | [] => 0
  | b :: r => b.toNat + 256 * high r
theorem high_lt : ∀ (l : List UInt8) (k : Nat), l.length ≤ k → high l < 256 ^ k
  | [], k, _ => Nat.pow_pos (by decide)
  | b :: r, 0, h => by simp at h
  | b :: r, k + 1, h => by
    have h1 := high_lt r k (by simpa using h)
    have h2 : b.toNat < 256 := b.toNat_lt
    rw [high, Nat.pow_succ]; omega
theorem high_low : ∀ (k n : Nat), n < 256 ^ k → high (low n k) = n
  | 0, n, h => by simp at h; subst h; rfl
  | k + 1, n, h => by
    rw [low, high, high_low k (n / 256) (by rw [Nat.div_lt_iff_lt_mul (by decide)]; rw [Nat.pow_succ] at h; exact h)]
    simp; omega
theorem low_high : ∀ (l : List UInt8), low (high l) l.length = l
  | [] => rfl
  | b :: r => by
    have h2 : b.toNat < 256 := b.toNat_lt
    rw [List.length_cons, low, high]
    rw [show (b.toNat + 256 * high r) / 256 = high r by omega, low_high r, show (b.toNat + 256 * high r) % 256 = b.toNat by omega]
    simp

/-- What is left to be read; was something bad? -/
structure Cur where
  rem : List UInt8
  bad : Bool
def Cur.take (c : Cur) (n : Nat) : List UInt8 × Cur :=
  if c.bad = false ∧ n ≤ c.rem.length then (c.rem.take n, ⟨c.rem.drop n, false⟩) else ((if n ≤ 300 then List.replicate n 0 else []), ⟨c.rem, true⟩)
theorem take_yes {c : Cur} {n : Nat} (h : c.bad = false) (hn : n ≤ c.rem.length) : c.take n = (c.rem.take n, ⟨c.rem.drop n, false⟩) := by unfold Cur.take; rw [if_pos ⟨h, hn⟩]
theorem take_no {c : Cur} {n : Nat} (h : ¬ (c.bad = false ∧ n ≤ c.rem.length)) : c.take n = ((if n ≤ 300 then List.replicate n 0 else []), ⟨c.rem, true⟩) := by unfold Cur.take; rw [if_neg h]
def Cur.byte (c : Cur) : Nat := high (c.take 1).1
theorem take_len (c : Cur) (n : Nat) (h : n ≤ 300) : (c.take n).1.length = n := by
  unfold Cur.take; split
  · rename_i hc; rw [List.length_take]; omega
  · simp
theorem byte_lt (c : Cur) : c.byte < 256 := high_lt _ 1 (by rw [take_len c 1 (by decide)]; exact Nat.le_refl _)

/-- A number: so many rounds are left; what has been read so far; what a byte counts. -/
def numberF : Nat → Cur → Nat → Nat → Bool → Nat × Cur
  | 0, c, _, _, _ => (0, ⟨c.rem, true⟩)
  | f + 1, c, n, times, first =>
    if c.byte < 128 then
      (if (c.take 1).2.bad = true ∨ (c.byte = 0 ∧ first = false) ∨ 2147483647 < n + c.byte % 128 * times then (0, ⟨(c.take 1).2.rem, true⟩) else (n + c.byte % 128 * times, (c.take 1).2))
    else numberF f (c.take 1).2 (n + c.byte % 128 * times) (128 * times) false
def Cur.number (c : Cur) : Nat × Cur := numberF 5 c 0 1 true
def Cur.text (c : Cur) (most : Nat) : List UInt8 × Cur :=
  if most < c.number.1 then ([], ⟨c.number.2.rem, true⟩) else c.number.2.take c.number.1
def Cur.ends (c : Cur) : Bool := !c.bad && c.rem.isEmpty
end Go.Proofs.YtolgpnaoaodepaaGreat.Pg
namespace Go.Proofs.YtolgpnaoaodepaaGreat.Pg
/-- What a section says: its marks, one by one, as the reference reads them. -/
def secA (s : List UInt8) : List UInt8 × Cur := (⟨s, false⟩ : Cur).take 1
def secB (s : List UInt8) : List UInt8 × Cur := (secA s).2.take 1
def secN (s : List UInt8) : Nat × Cur := (secB s).2.number
def secT (s : List UInt8) : List UInt8 × Cur := (secN s).2.text s.length
def secE (s : List UInt8) : List UInt8 × Cur := (secT s).2.take 4
def content (kind s : List UInt8) : List UInt8 × Bool :=
  if (secE s).2.ends = false ∨ (secA s).1 ≠ kind ∨ 1 < high (secB s).1 then ([], false)
  else if high (secB s).1 = 1 then
    (match Sq.spread (secT s).1 with
      | none => ([], false)
      | some u => if u.length = (secN s).1 then (u, decide (section_ kind u = s)) else ([], false))
  else ((secT s).1, decide (section_ kind (secT s).1 = s))
theorem content_no {kind s : List UInt8} (h : (secE s).2.ends = false ∨ (secA s).1 ≠ kind ∨ 1 < high (secB s).1) : content kind s = ([], false) := by unfold content; rw [if_pos h]
theorem content_plain {kind s : List UInt8} (h : ¬ ((secE s).2.ends = false ∨ (secA s).1 ≠ kind ∨ 1 < high (secB s).1)) (h1 : ¬ high (secB s).1 = 1) : content kind s = ((secT s).1, decide (section_ kind (secT s).1 = s)) := by unfold content; rw [if_neg h, if_neg h1]
theorem content_none {kind s : List UInt8} (h : ¬ ((secE s).2.ends = false ∨ (secA s).1 ≠ kind ∨ 1 < high (secB s).1)) (h1 : high (secB s).1 = 1) (hs : Sq.spread (secT s).1 = none) : content kind s = ([], false) := by unfold content; rw [if_neg h, if_pos h1, hs]
theorem content_some {kind s u : List UInt8} (h : ¬ ((secE s).2.ends = false ∨ (secA s).1 ≠ kind ∨ 1 < high (secB s).1)) (h1 : high (secB s).1 = 1) (hs : Sq.spread (secT s).1 = some u) (hl : u.length = (secN s).1) : content kind s = (u, decide (section_ kind u = s)) := by unfold content; rw [if_neg h, if_pos h1, hs]; simp only [if_pos hl]
theorem content_long {kind s u : List UInt8} (h : ¬ ((secE s).2.ends = false ∨ (secA s).1 ≠ kind ∨ 1 < high (secB s).1)) (h1 : high (secB s).1 = 1) (hs : Sq.spread (secT s).1 = some u) (hl : ¬ u.length = (secN s).1) : content kind s = ([], false) := by unfold content; rw [if_neg h, if_pos h1, hs]; simp only [if_neg hl]
theorem take_short (c : Cur) (n : Nat) (h : n ≤ 1000000000) : (c.take n).1.length ≤ 1000000000 := by
  unfold Cur.take; split
  · rw [List.length_take]; omega
  · split
    · rw [List.length_replicate]; exact h
    · simp
theorem text_short (c : Cur) (most : Nat) (h : most ≤ 1000000000) : (c.text most).1.length ≤ 1000000000 := by
  unfold Cur.text; split
  · simp
  · exact take_short _ _ (by omega)
theorem content_short (kind s : List UInt8) (h : s.length ≤ 1000000000) : (content kind s).1.length ≤ 66000000000 := by
  have ht : (secT s).1.length ≤ 1000000000 := text_short _ _ h
  by_cases hq : (secE s).2.ends = false ∨ (secA s).1 ≠ kind ∨ 1 < high (secB s).1
  · rw [content_no hq]; simp
  · by_cases h1 : high (secB s).1 = 1
    · cases hs : Sq.spread (secT s).1 with
      | none => rw [content_none hq h1 hs]; simp
      | some u =>
        by_cases hl : u.length = (secN s).1
        · rw [content_some hq h1 hs hl]
          have : u.length ≤ 66 * (secT s).1.length := by
            unfold Sq.spread at hs
            split at hs
            · rename_i t ht'
              have := Sq.decode_le _ _ _ ht'
              split at hs
              · simp at hs; subst hs; simpa using this
              · simp at hs
            · simp at hs
          simp only; omega
        · rw [content_long hq h1 hs hl]; simp
    · rw [content_plain hq h1]; simp only; omega
end Go.Proofs.YtolgpnaoaodepaaGreat.Pg
