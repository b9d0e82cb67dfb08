/- The walks of the functions that look for matches: the program's commonLength. -/
import Derived.Test.YtolgpnaoaodepaaGreatRows
import Derived.WalkKit
import Derived.WalkSpells
import Derived.WalkLawsBesides
import Derived.Deep.QuietTactic
import Derived.BigQuiet
import Derived.Lib.AppendStr
import Derived.Maps.AppendAt
import Derived.Lib.MinMax
/- Plain mathematics of squeezing: the longest nearest match two ways, what is still to be written, what a squeezed text says. Nothing of the program is named here. -/
namespace Go.Proofs.YtolgpnaoaodepaaGreat.Sq

/-- How many bytes, at most m, are the same from i and from j on. -/
def com (l : List UInt8) (i j : Nat) : Nat → Nat
  | 0 => 0
  | m + 1 => if j < l.length ∧ l[i]? = l[j]? then com l (i + 1) (j + 1) m + 1 else 0

theorem com_le (l : List UInt8) : ∀ (m i j : Nat), com l i j m ≤ m
  | 0, _, _ => Nat.le_refl _
  | m + 1, i, j => by
    unfold com; split
    · have := com_le l m (i + 1) (j + 1); omega
    · omega

theorem com_len (l : List UInt8) : ∀ (m i j : Nat), j ≤ l.length → j + com l i j m ≤ l.length
  | 0, _, _, h => h
  | m + 1, i, j, h => by
    unfold com; split
    · rename_i hc; have := com_len l m (i + 1) (j + 1) (by omega); omega
    · omega

/-- n bytes were the same: so many are, if the next are other or there is no next. -/
theorem com_stop (l : List UInt8) : ∀ (m i j n : Nat), n ≤ m → j + n ≤ l.length → (∀ k, k < n → l[i + k]? = l[j + k]?) → (n = m ∨ ¬ (j + n < l.length ∧ l[i + n]? = l[j + n]?)) → com l i j m = n
  | 0, i, j, n, h, _, _, _ => by simp [com]; omega
  | m + 1, i, j, 0, _, _, _, hs => by
    unfold com; rw [if_neg]
    rcases hs with h | h
    · omega
    · simpa using h
  | m + 1, i, j, n + 1, h, hl, hk, hs => by
    unfold com
    have h0 := hk 0 (by omega)
    rw [if_pos ⟨by omega, by simpa using h0⟩]
    rw [com_stop l m (i + 1) (j + 1) n (by omega) (by omega) (fun k hk' => by have := hk (k + 1) (by omega); rw [show i + 1 + k = i + (k + 1) by omega, show j + 1 + k = j + (k + 1) by omega]; exact this) ?_]
    rcases hs with h' | h'
    · left; omega
    · right; rw [show i + 1 + n = i + (n + 1) by omega, show j + 1 + n = j + (n + 1) by omega]; exact h'

/-- The match at a place, d bytes ahead. -/
def mat (l : List UInt8) (at_ d : Nat) : Nat := com l (at_ - d) at_ (min 66 (l.length - at_))

theorem mat_le (l : List UInt8) (at_ d : Nat) : mat l at_ d ≤ 66 := by
  unfold mat; have := com_le l (min 66 (l.length - at_)) (at_ - d) at_; omega
theorem mat_most (l : List UInt8) (at_ d : Nat) : mat l at_ d ≤ min 66 (l.length - at_) := com_le l _ _ _

/-- The best so far, from the nearest on: what is longer counts. -/
def up (l : List UInt8) (at_ : Nat) : Nat → Nat × Nat
  | 0 => (2, 0)
  | c + 1 => if (up l at_ c).1 < mat l at_ (c + 1) then (mat l at_ (c + 1), c + 1) else up l at_ c

theorem up_spec (l : List UInt8) (at_ : Nat) : ∀ c, (∀ d, 1 ≤ d → d ≤ c → mat l at_ d ≤ (up l at_ c).1 ∧ (d < (up l at_ c).2 → mat l at_ d < (up l at_ c).1)) ∧ ((up l at_ c = (2, 0)) ∨ (1 ≤ (up l at_ c).2 ∧ (up l at_ c).2 ≤ c ∧ mat l at_ (up l at_ c).2 = (up l at_ c).1 ∧ 2 < (up l at_ c).1))
  | 0 => ⟨fun d h1 h2 => by omega, .inl rfl⟩
  | c + 1 => by
    obtain ⟨h1, h2⟩ := up_spec l at_ c
    have g : 2 ≤ (up l at_ c).1 := by
      rcases h2 with h2 | h2
      · rw [h2]; exact Nat.le_refl _
      · omega
    rw [up]
    split
    · rename_i hlt
      refine ⟨fun d ha hb => ?_, .inr ⟨by simp, by simp, rfl, by simp; omega⟩⟩
      by_cases e : d = c + 1
      · subst e; simp
      · have := (h1 d ha (by omega)).1; simp; omega
    · rename_i hge
      refine ⟨fun d ha hb => ?_, ?_⟩
      · by_cases e : d = c + 1
        · subst e; refine ⟨by omega, fun hx => ?_⟩
          rcases h2 with h2 | h2
          · rw [h2] at hx; simp at hx
          · omega
        · exact h1 d ha (by omega)
      · rcases h2 with h2 | h2
        · exact .inl h2
        · exact .inr ⟨h2.1, by omega, h2.2.2.1, h2.2.2.2⟩

/-- Where the best is as long as can be, nothing changes. -/
theorem up_stays (l : List UInt8) (at_ c : Nat) (h : min 66 (l.length - at_) ≤ (up l at_ c).1) : ∀ k, up l at_ (c + k) = up l at_ c
  | 0 => rfl
  | k + 1 => by
    have ih := up_stays l at_ c h k
    rw [show c + (k + 1) = (c + k) + 1 from rfl, up, ih, if_neg]
    have := mat_most l at_ (c + k + 1); omega

/-- What is taken at a place: none, or how long and how far ahead. -/
def best (l : List UInt8) (at_ : Nat) : Nat × Nat := up l at_ (min at_ 255)

theorem best_far (l : List UInt8) (at_ : Nat) : (best l at_).2 ≤ 255 ∧ (best l at_).2 ≤ at_ := by
  have := (up_spec l at_ (min at_ 255)).2
  unfold best
  rcases this with h | h
  · rw [h]; simp
  · omega

theorem best_zero (l : List UInt8) (at_ : Nat) (h : (best l at_).2 = 0) : best l at_ = (2, 0) := by
  have := (up_spec l at_ (min at_ 255)).2
  unfold best at *
  rcases this with h' | h'
  · exact h'
  · omega

theorem best_len (l : List UInt8) (at_ : Nat) (h : (best l at_).2 ≠ 0) : 3 ≤ (best l at_).1 ∧ (best l at_).1 ≤ 66 ∧ at_ + (best l at_).1 ≤ l.length := by
  have := (up_spec l at_ (min at_ 255)).2
  unfold best at *
  rcases this with h' | h'
  · rw [h'] at h; simp at h
  · have h1 := mat_le l at_ (up l at_ (min at_ 255)).2
    have h2 := mat_most l at_ (up l at_ (min at_ 255)).2
    omega

/-- The other way: from the farthest down; what is not shorter counts. j rounds: 255 .. 256 - j. -/
def down (l : List UInt8) (at_ : Nat) : Nat → Nat × Nat
  | 0 => (0, 0)
  | j + 1 => if 255 - j ≤ at_ ∧ (down l at_ j).1 ≤ mat l at_ (255 - j) then (mat l at_ (255 - j), 255 - j) else down l at_ j

theorem down_spec (l : List UInt8) (at_ : Nat) : ∀ j, j ≤ 255 → (∀ d, 256 - j ≤ d → d ≤ 255 → d ≤ at_ → mat l at_ d ≤ (down l at_ j).1 ∧ (d < (down l at_ j).2 → mat l at_ d < (down l at_ j).1)) ∧ ((down l at_ j = (0, 0) ∧ ∀ d, 256 - j ≤ d → d ≤ 255 → ¬ d ≤ at_) ∨ (256 - j ≤ (down l at_ j).2 ∧ (down l at_ j).2 ≤ 255 ∧ (down l at_ j).2 ≤ at_ ∧ mat l at_ (down l at_ j).2 = (down l at_ j).1))
  | 0, _ => ⟨fun d h1 h2 => by omega, .inl ⟨rfl, fun d h1 h2 => by omega⟩⟩
  | j + 1, hj => by
    obtain ⟨h1, h2⟩ := down_spec l at_ j (by omega)
    rw [down]
    split
    · rename_i hc
      refine ⟨fun d ha hb hd => ?_, .inr ⟨by simp only []; omega, by simp, by simpa using hc.1, rfl⟩⟩
      by_cases e : d = 255 - j
      · subst e; simp
      · have := (h1 d (by omega) hb hd).1; exact ⟨by simp; omega, fun hx => by simp at hx; omega⟩
    · rename_i hc
      refine ⟨fun d ha hb hd => ?_, ?_⟩
      · by_cases e : d = 255 - j
        · subst e
          have : ¬ (down l at_ j).1 ≤ mat l at_ (255 - j) := fun hx => hc ⟨hd, hx⟩
          omega
        · exact h1 d (by omega) hb hd
      · rcases h2 with ⟨h2, h3⟩ | h2
        · refine .inl ⟨h2, fun d ha hb hd => ?_⟩
          by_cases e : d = 255 - j
          · subst e; exact hc ⟨hd, by rw [h2]; exact Nat.zero_le _⟩
          · exact h3 d (by omega) hb hd
        · exact .inr ⟨by omega, h2.2.1, h2.2.2.1, h2.2.2.2⟩

/-- Both ways come to the same. -/
theorem down_best (l : List UInt8) (at_ : Nat) : (best l at_).2 = 0 ∧ (down l at_ 255).1 < 3 ∨ (best l at_).2 ≠ 0 ∧ 3 ≤ (down l at_ 255).1 ∧ down l at_ 255 = best l at_ := by
  obtain ⟨u1, u2⟩ := up_spec l at_ (min at_ 255)
  obtain ⟨d1, d2⟩ := down_spec l at_ 255 (Nat.le_refl _)
  unfold best
  generalize up l at_ (min at_ 255) = u at *
  generalize down l at_ 255 = v at *
  obtain ⟨un, ub⟩ := u
  obtain ⟨vn, vb⟩ := v
  simp only [Prod.mk.injEq] at *
  rcases u2 with ⟨rfl, rfl⟩ | ⟨a1, a2, a3, a4⟩
  · left; refine ⟨rfl, ?_⟩
    rcases d2 with ⟨⟨rfl, rfl⟩, _⟩ | ⟨b1, b2, b3, b4⟩
    · omega
    · have := (u1 vb (by omega) (by omega)).1; omega
  · right; refine ⟨by omega, ?_⟩
    have h1 := d1 ub (by omega) (by omega) (by omega)
    rcases d2 with ⟨⟨rfl, rfl⟩, hx⟩ | ⟨b1, b2, b3, b4⟩
    · exact absurd (show ub ≤ at_ by omega) (hx ub (by omega) (by omega))
    · have h2 := u1 vb (by omega) (by omega)
      have e1 : un = vn := by omega
      subst e1
      refine ⟨by omega, rfl, ?_⟩
      rcases Nat.lt_trichotomy ub vb with h | h | h
      · have := h1.2 h; omega
      · exact h.symm
      · have := h2.2 h; omega

/-- A run, written in pieces of 128. -/
def pieces : Nat → List UInt8 → List UInt8
  | 0, _ => []
  | f + 1, s => if s = [] then [] else UInt8.ofNat (min s.length 128 - 1) :: (s.take 128 ++ pieces f (s.drop 128))
def runOf (s : List UInt8) : List UInt8 := pieces s.length s

theorem pieces_fuel : ∀ (f g : Nat) (s : List UInt8), s.length ≤ f → s.length ≤ g → pieces f s = pieces g s
  | 0, 0, _, _, _ => rfl
  | 0, g + 1, s, h, _ => by have : s = [] := List.length_eq_zero_iff.1 (by omega); subst this; simp [pieces]
  | f + 1, 0, s, _, h => by have : s = [] := List.length_eq_zero_iff.1 (by omega); subst this; simp [pieces]
  | f + 1, g + 1, s, h1, h2 => by
    unfold pieces
    by_cases e : s = []
    · simp [e]
    · have : 0 < s.length := List.length_pos_iff.2 e
      rw [if_neg e, if_neg e, pieces_fuel f g (s.drop 128) (by simp; omega) (by simp; omega)]

theorem runOf_nil : runOf [] = [] := rfl
theorem runOf_cons (s : List UInt8) (h : s ≠ []) : runOf s = UInt8.ofNat (min s.length 128 - 1) :: (s.take 128 ++ runOf (s.drop 128)) := by
  have hp : 0 < s.length := List.length_pos_iff.2 h
  obtain ⟨k, hk⟩ : ∃ k, s.length = k + 1 := ⟨s.length - 1, by omega⟩
  unfold runOf
  rw [hk, pieces, if_neg h, hk, pieces_fuel k (s.drop 128).length _ (by simp; omega) (Nat.le_refl _)]
theorem runOf_short (s : List UInt8) (h : s ≠ []) (hl : s.length ≤ 128) : runOf s = UInt8.ofNat (s.length - 1) :: s := by
  rw [runOf_cons s h, List.take_of_length_le hl, List.drop_eq_nil_of_le hl, runOf_nil, Nat.min_eq_left hl, List.append_nil]
theorem runOf_full (p q : List UInt8) (h : p.length = 128) : runOf (p ++ q) = 127 :: (p ++ runOf q) := by
  rw [runOf_cons _ (by intro e; simp at e; rw [e.1] at h; simp at h)]
  have h1 : min (p ++ q).length 128 - 1 = 127 := by simp; omega
  have h2 : (p ++ q).take 128 = p := by rw [← h]; simp
  have h3 : (p ++ q).drop 128 = q := by rw [← h]; simp
  rw [h1, h2, h3]; rfl

theorem runOf_le : ∀ (n : Nat) (s : List UInt8), s.length ≤ n → (runOf s).length ≤ 2 * s.length
  | 0, s, h => by have : s = [] := List.length_eq_zero_iff.1 (by omega); subst this; simp [runOf_nil]
  | n + 1, s, h => by
    by_cases e : s = []
    · subst e; simp [runOf_nil]
    · have hp : 0 < s.length := List.length_pos_iff.2 e
      rw [runOf_cons s e]
      have := runOf_le n (s.drop 128) (by simp; omega)
      simp at *; omega

/-- What is still to be written, from a place on, behind singles that wait. -/
def rem (l : List UInt8) : Nat → Nat → List UInt8 → List UInt8
  | 0, _, p => runOf p
  | f + 1, at_, p => if l.length ≤ at_ then runOf p else
    if (best l at_).2 = 0 then rem l f (at_ + 1) (p ++ (l.drop at_).take 1)
    else runOf p ++ (UInt8.ofNat (125 + (best l at_).1) :: UInt8.ofNat (best l at_).2 :: rem l f (at_ + (best l at_).1) [])

theorem rem_fuel (l : List UInt8) : ∀ (f g at_ : Nat) (p : List UInt8), l.length - at_ ≤ f → l.length - at_ ≤ g → rem l f at_ p = rem l g at_ p
  | 0, 0, _, _, _, _ => rfl
  | 0, g + 1, at_, p, h, _ => by rw [rem, rem, if_pos (by omega)]
  | f + 1, 0, at_, p, _, h => by rw [rem, rem, if_pos (by omega)]
  | f + 1, g + 1, at_, p, h1, h2 => by
    rw [rem, rem]
    by_cases e : l.length ≤ at_
    · rw [if_pos e, if_pos e]
    · rw [if_neg e, if_neg e]
      by_cases b : (best l at_).2 = 0
      · rw [if_pos b, if_pos b, rem_fuel l f g (at_ + 1) _ (by omega) (by omega)]
      · have := best_len l at_ b
        rw [if_neg b, if_neg b, rem_fuel l f g (at_ + (best l at_).1) _ (by omega) (by omega)]

/-- The rest of the squeezed text. -/
def rest (l : List UInt8) (at_ : Nat) (p : List UInt8) : List UInt8 := rem l (l.length - at_) at_ p
def squeeze (l : List UInt8) : List UInt8 := rest l 0 []

theorem rest_end (l : List UInt8) (at_ : Nat) (p : List UInt8) (h : l.length ≤ at_) : rest l at_ p = runOf p := by
  unfold rest; rw [show l.length - at_ = 0 by omega]; rfl
theorem rest_single (l : List UInt8) (at_ : Nat) (p : List UInt8) (h : at_ < l.length) (b : (best l at_).2 = 0) : rest l at_ p = rest l (at_ + 1) (p ++ [l[at_]]) := by
  unfold rest
  rw [show l.length - at_ = (l.length - (at_ + 1)) + 1 by omega, rem, if_neg (by omega), if_pos b]
  rw [List.drop_eq_getElem_cons h]; rfl
theorem rest_match (l : List UInt8) (at_ : Nat) (p : List UInt8) (h : at_ < l.length) (b : (best l at_).2 ≠ 0) : rest l at_ p = runOf p ++ (UInt8.ofNat (125 + (best l at_).1) :: UInt8.ofNat (best l at_).2 :: rest l (at_ + (best l at_).1) []) := by
  have hb := best_len l at_ b
  unfold rest
  rw [show l.length - at_ = (l.length - (at_ + 1)) + 1 by omega, rem, if_neg (by omega), if_neg b]
  rw [rem_fuel l (l.length - (at_ + 1)) (l.length - (at_ + (best l at_).1)) _ _ (by omega) (by omega)]

theorem rem_full (l : List UInt8) : ∀ (f at_ : Nat) (p q : List UInt8), p.length = 128 → rem l f at_ (p ++ q) = 127 :: (p ++ rem l f at_ q)
  | 0, _, p, q, h => runOf_full p q h
  | f + 1, at_, p, q, h => by
    rw [rem, rem]
    split
    · exact runOf_full p q h
    · split
      · rw [List.append_assoc, rem_full l f _ p _ h]
      · rw [runOf_full p q h]; simp
theorem rest_full (l : List UInt8) (at_ : Nat) (p : List UInt8) (h : p.length = 128) : rest l at_ p = 127 :: (p ++ rest l at_ []) := by
  have := rem_full l (l.length - at_) at_ p [] h
  rw [List.append_nil] at this; exact this

theorem rem_le (l : List UInt8) : ∀ (f at_ : Nat) (p : List UInt8), (rem l f at_ p).length ≤ 2 * p.length + 2 * f
  | 0, _, p => by have := runOf_le _ p (Nat.le_refl _); simp [rem]; omega
  | f + 1, at_, p => by
    rw [rem]
    have h0 := runOf_le _ p (Nat.le_refl _)
    split
    · omega
    · split
      · have := rem_le l f (at_ + 1) (p ++ (l.drop at_).take 1)
        simp at this; simp; omega
      · have := rem_le l f (at_ + (best l at_).1) []
        simp at *; omega
theorem rest_le (l : List UInt8) (at_ : Nat) (p : List UInt8) : (rest l at_ p).length ≤ 2 * p.length + 2 * (l.length - at_) := rem_le l _ at_ p
theorem squeeze_le (l : List UInt8) : (squeeze l).length ≤ 2 * l.length := by have := rest_le l 0 []; simpa [squeeze] using this

/-- n bytes more, each d back. -/
def copyN (out : List UInt8) (d : Nat) : Nat → List UInt8
  | 0 => out
  | n + 1 => copyN (out ++ [out.getD (out.length - d) 0]) d n
theorem copyN_len : ∀ (n : Nat) (out : List UInt8) (d : Nat), (copyN out d n).length = out.length + n
  | 0, _, _ => rfl
  | n + 1, out, d => by rw [copyN, copyN_len n]; simp; omega
theorem copyN_succ : ∀ (n : Nat) (out : List UInt8) (d : Nat), copyN out d (n + 1) = copyN out d n ++ [(copyN out d n).getD ((copyN out d n).length - d) 0]
  | 0, _, _ => rfl
  | n + 1, out, d => by rw [copyN, copyN_succ n]; rfl

/-- What follows runs and matches; none: they are none. -/
def dec : Nat → List UInt8 → List UInt8 → Option (List UInt8)
  | 0, s, out => if s = [] then some out else none
  | f + 1, s, out => match s with
    | [] => some out
    | n :: t => if n.toNat < 128 then
        (if n.toNat + 1 ≤ t.length then dec f (t.drop (n.toNat + 1)) (out ++ t.take (n.toNat + 1)) else none)
      else match t with
        | [] => none
        | d :: u => if n.toNat ≤ 191 ∧ 1 ≤ d.toNat ∧ d.toNat ≤ out.length then dec f u (copyN out d.toNat (n.toNat - 125)) else none
theorem dec_fuel : ∀ (f g : Nat) (s out : List UInt8), s.length ≤ f → s.length ≤ g → dec f s out = dec g s out
  | 0, 0, _, _, _, _ => rfl
  | 0, g + 1, s, out, h, _ => by have : s = [] := List.length_eq_zero_iff.1 (by omega); subst this; simp [dec]
  | f + 1, 0, s, out, _, h => by have : s = [] := List.length_eq_zero_iff.1 (by omega); subst this; simp [dec]
  | f + 1, g + 1, [], out, _, _ => by simp [dec]
  | f + 1, g + 1, [n], out, h1, h2 => by simp [dec]
  | f + 1, g + 1, n :: d :: u, out, h1, h2 => by
    simp only [List.length_cons] at h1 h2
    simp only [dec]
    rw [dec_fuel f g ((d :: u).drop (n.toNat + 1)) _ (by simp; omega) (by simp; omega), dec_fuel f g u _ (by omega) (by omega)]
theorem dec_nil (f : Nat) (out : List UInt8) : dec (f + 1) [] out = some out := rfl
theorem dec_one (f : Nat) (n : UInt8) (t out : List UInt8) : dec (f + 1) (n :: t) out = if n.toNat < 128 then (if n.toNat + 1 ≤ t.length then dec f (t.drop (n.toNat + 1)) (out ++ t.take (n.toNat + 1)) else none) else match t with
        | [] => none
        | d :: u => if n.toNat ≤ 191 ∧ 1 ≤ d.toNat ∧ d.toNat ≤ out.length then dec f u (copyN out d.toNat (n.toNat - 125)) else none := rfl
def decode (s out : List UInt8) : Option (List UInt8) := dec s.length s out
theorem decode_nil (out : List UInt8) : decode [] out = some out := rfl
theorem decode_run (n : UInt8) (t out : List UInt8) (h : n.toNat < 128) (hl : n.toNat + 1 ≤ t.length) : decode (n :: t) out = decode (t.drop (n.toNat + 1)) (out ++ t.take (n.toNat + 1)) := by
  unfold decode
  rw [List.length_cons, dec_one, if_pos h, if_pos hl, dec_fuel _ (t.drop (n.toNat + 1)).length _ _ (by simp) (Nat.le_refl _)]
theorem decode_run_no (n : UInt8) (t out : List UInt8) (h : n.toNat < 128) (hl : ¬ n.toNat + 1 ≤ t.length) : decode (n :: t) out = none := by
  unfold decode
  rw [List.length_cons, dec_one, if_pos h, if_neg hl]
theorem decode_match (n d : UInt8) (u out : List UInt8) (h : ¬ n.toNat < 128) (hc : n.toNat ≤ 191 ∧ 1 ≤ d.toNat ∧ d.toNat ≤ out.length) : decode (n :: d :: u) out = decode u (copyN out d.toNat (n.toNat - 125)) := by
  unfold decode
  rw [List.length_cons, dec_one, if_neg h]
  show (if n.toNat ≤ 191 ∧ 1 ≤ d.toNat ∧ d.toNat ≤ out.length then dec (d :: u).length u (copyN out d.toNat (n.toNat - 125)) else none) = _
  rw [if_pos hc, dec_fuel _ u.length _ _ (by simp) (Nat.le_refl _)]
theorem decode_match_no (n d : UInt8) (u out : List UInt8) (h : ¬ n.toNat < 128) (hc : ¬ (n.toNat ≤ 191 ∧ 1 ≤ d.toNat ∧ d.toNat ≤ out.length)) : decode (n :: d :: u) out = none := by
  unfold decode
  rw [List.length_cons, dec_one, if_neg h]
  show (if n.toNat ≤ 191 ∧ 1 ≤ d.toNat ∧ d.toNat ≤ out.length then dec (d :: u).length u (copyN out d.toNat (n.toNat - 125)) else none) = _
  rw [if_neg hc]
theorem decode_match_end (n : UInt8) (out : List UInt8) (h : ¬ n.toNat < 128) : decode [n] out = none := by
  unfold decode
  rw [List.length_cons, dec_one, if_neg h]

theorem dec_le : ∀ (f : Nat) (s out t : List UInt8), dec f s out = some t → t.length ≤ out.length + 66 * s.length
  | 0, s, out, t, h => by
    unfold dec at h; split at h
    · simp at h; subst h; omega
    · simp at h
  | f + 1, [], out, t, h => by simp [dec] at h; subst h; simp
  | f + 1, [n], out, t, h => by
    simp only [dec] at h
    split at h
    · split at h
      · rename_i hx; simp at hx
      · simp at h
    · simp at h
  | f + 1, n :: d :: u, out, t, h => by
    simp only [dec] at h
    split at h
    · split at h
      · have := dec_le f _ _ _ h; simp at *; omega
      · simp at h
    · split at h
      · have := dec_le f _ _ _ h; rw [copyN_len] at this; simp; omega
      · simp at h
theorem decode_le (s out t : List UInt8) (h : decode s out = some t) : t.length ≤ out.length + 66 * s.length := dec_le _ _ _ _ h

/-- Spread: the text whose squeezed form it is, if there is one. -/
def spread (s : List UInt8) : Option (List UInt8) := match decode s [] with
  | some t => if squeeze t = s then some t else none
  | none => none

end Go.Proofs.YtolgpnaoaodepaaGreat.Sq
namespace Go.Proofs.YtolgpnaoaodepaaGreat
open Go.RowKit

theorem ret_int {k : IntKind} {a b : Int} (h : a = b) : Ending.returned (.int k a) = .returned (.int k b) := by rw [h]

theorem at_list (s : ByteArray) (i : Nat) (h : i < s.size) : s.data.toList[i]? = some s[i] := by
  rw [List.getElem?_eq_getElem (by simpa using h)]; rfl
theorem byte_eq (s : ByteArray) (i j : Nat) (hi : i < s.size) (hj : j < s.size) (h : (((s[i]'hi).toNat : Int) == ((s[j]'hj).toNat : Int)) = true) : s.data.toList[i]? = s.data.toList[j]? := by
  rw [at_list s i hi, at_list s j hj]
  have h' : ((s[i]'hi).toNat : Int) = ((s[j]'hj).toNat : Int) := by simpa using h
  rw [UInt8.toNat_inj.1 (by omega : (s[i]'hi).toNat = (s[j]'hj).toNat)]
theorem byte_ne (s : ByteArray) (i j : Nat) (hi : i < s.size) (hj : j < s.size) (h : (((s[i]'hi).toNat : Int) == ((s[j]'hj).toNat : Int)) = false) : ¬ s.data.toList[i]? = s.data.toList[j]? := by
  rw [at_list s i hi, at_list s j hj]
  intro e
  have e' : s[i]'hi = s[j]'hj := by simpa using e
  rw [e'] at h; simp at h

set_option maxHeartbeats 400000 in
theorem common_any (s : ByteArray) (e l m : Nat) (w : World) (hs : s.size ≤ 140737488355328) (hel : e ≤ l) (hlm : l + m ≤ s.size) :
    Calls Tryz.prog 252 #[.string s, .int .i64 e, .int .i64 l, .int .i64 m] w fun r w' => r = .returned (.int .i64 (Sq.com s.data.toList e l m)) ∧ ∃ q, w' = w.drewN q := by
  go_enter Tryz.func252, Tryz.ntmps252
  go_wp2
  go_loopw [9] (fun i wr => ∃ k : Nat, k ≤ m ∧ i = .int .i64 k ∧ (∀ j, j < k → s.data.toList[e + j]? = s.data.toList[l + j]?) ∧ ∃ q, wr = w.drewN q) (fun i _ => m - (intOf i).toNat)
  case atStart => exact ⟨0, Nat.zero_le _, rfl, fun j h => by omega, 0, rfl⟩
  case round =>
    obtain ⟨k, hk, rfl, hj, q, rfl⟩ := hrel
    have HJ : Hid (∀ j, j < k → s.data.toList[e + j]? = s.data.toList[l + j]?) := hj
    clear hj
    by_cases hlt : k < m
    · have h1 : (l : Int) + (k : Int) < (s.size : Int) := by omega
      have h2 : (e : Int) + (k : Int) < (s.size : Int) := by omega
      have h3 : (0 : Int) ≤ (l : Int) + (k : Int) := by omega
      have h4 : (0 : Int) ≤ (e : Int) + (k : Int) := by omega
      go_wp2
      go_quiet (fail)
      go_wp2
      · have hb := byte_eq s (e + k) (l + k) (by omega) (by omega) (by assumption)
        go_roundw
        case rel =>
          refine ⟨k + 1, by omega, by go_num, fun j hj => ?_, _, rfl⟩
          by_cases ej : j = k
          · rw [ej]; exact hb
          · exact HJ.out j (by omega)
        case measure => simp [intOf]; omega
      · have hb := byte_ne s (e + k) (l + k) (by omega) (by omega) (by assumption)
        go_ret
        exact ⟨ret_int (by rw [Sq.com_stop s.data.toList m e l k (by omega) (by simp; omega) HJ.out (.inr fun h => hb h.2)]), _, World.drewN_drewN _ _ _⟩
    · have hd : decide ((k : Int) < (m : Int)) = false := by simp; omega
      go_wp2
      go_quiet (fail)
      go_wp2
      go_ret
      exact ⟨ret_int (by rw [Sq.com_stop s.data.toList m e l k (by omega) (by simp; omega) HJ.out (.inl (by omega))]), _, World.drewN_drewN _ _ _⟩
end Go.Proofs.YtolgpnaoaodepaaGreat
/- The walks of longestMatch and appendRun. -/
namespace Go.Proofs.YtolgpnaoaodepaaGreat
open Go.RowKit

/-- What longestMatch tells: the match's length, or 0. -/
def blen (l : List UInt8) (a : Nat) : Nat := if (Sq.best l a).2 = 0 then 0 else (Sq.best l a).1
def bfar (l : List UInt8) (a : Nat) : Nat := (Sq.best l a).2
theorem hid {p : Prop} (h : p) : Hid p := h
theorem int_eq {k : IntKind} {a b : Int} (h : a = b) : Value.int k a = Value.int k b := by rw [h]
theorem up_len (l : List UInt8) (a c : Nat) : 2 ≤ (Sq.up l a c).1 ∧ (Sq.up l a c).1 ≤ 66 ∧ (Sq.up l a c).2 ≤ c ∧ ((Sq.up l a c).2 = 0 → (Sq.up l a c).1 = 2) := by
  have := (Sq.up_spec l a c).2
  rcases this with h | h
  · rw [h]; simp
  · have := Sq.mat_le l a (Sq.up l a c).2; omega
theorem up_yes (l : List UInt8) (a c : Nat) (h : (Sq.up l a c).1 < Sq.mat l a (c + 1)) : Sq.up l a (c + 1) = (Sq.mat l a (c + 1), c + 1) := by rw [Sq.up, if_pos h]
theorem up_no (l : List UInt8) (a c : Nat) (h : ¬ (Sq.up l a c).1 < Sq.mat l a (c + 1)) : Sq.up l a (c + 1) = Sq.up l a c := by rw [Sq.up, if_neg h]
theorem best_at (l : List UInt8) (a c : Nat) (hc : c ≤ min a 255) (h : c = min a 255 ∨ min 66 (l.length - a) ≤ (Sq.up l a c).1) : Sq.best l a = Sq.up l a c := by
  unfold Sq.best
  rcases h with h | h
  · rw [h]
  · have := Sq.up_stays l a c h (min a 255 - c)
    rw [show c + (min a 255 - c) = min a 255 by omega] at this; exact this
theorem mat_com (l : List UInt8) (a d : Nat) : Sq.mat l a d = Sq.com l (a - d) a (min 66 (l.length - a)) := rfl

set_option maxHeartbeats 1000000 in
theorem longest_any (s : ByteArray) (a : Nat) (w : World) (hs : s.size ≤ 140737488355328) (ha : a ≤ s.size) :
    Calls Tryz.prog 202 #[.string s, .int .i64 a] w fun r w' => r = .returned (.tuple #[.int .i64 (blen s.data.toList a), .int .i64 (bfar s.data.toList a)]) ∧ ∃ q, w' = w.drewN q := by
  have HL : Hid (s.data.toList.length = s.size) := by exact (show s.data.toList.length = s.size by simp)
  obtain ⟨m, hm, HM⟩ : ∃ m : Nat, min ((s.size : Int) - (a : Int)) 66 = (m : Int) ∧ Hid (m = min 66 (s.size - a)) := ⟨min 66 (s.size - a), by omega, rfl⟩
  obtain ⟨e, he, HE⟩ : ∃ e : Nat, min (a : Int) 255 = (e : Int) ∧ Hid (e = min a 255) := ⟨min a 255, by omega, rfl⟩
  have hm1 : m ≤ 66 ∧ a + m ≤ s.size := by have := HM.out; omega
  have he1 : e ≤ 255 ∧ e ≤ a := by have := HE.out; omega
  go_enter Tryz.func202, Tryz.ntmps202
  go_wp2_with fail
  clear hm he
  go_loopw [4, 5, 8] (fun n f b wr => ∃ c : Nat, c ≤ e ∧ b = .int .i64 (c + 1 : Nat) ∧ n = .int .i64 (Sq.up s.data.toList a c).1 ∧ f = .int .i64 (Sq.up s.data.toList a c).2 ∧ ∃ q, wr = w.drewN q) (fun _ _ b _ => 300 - (intOf b).toNat)
  case atStart => exact ⟨0, Nat.zero_le _, rfl, rfl, rfl, 0, rfl⟩
  case round =>
    obtain ⟨c, hc, rfl, rfl, rfl, q, rfl⟩ := hrel
    have hu := up_len s.data.toList a c
    generalize hn : (Sq.up s.data.toList a c).1 = n at *
    generalize hf : (Sq.up s.data.toList a c).2 = f at *
    have HN : Hid ((Sq.up s.data.toList a c).1 = n) := hn
    have HF : Hid ((Sq.up s.data.toList a c).2 = f) := hf
    clear hn hf
    by_cases hlt : c < e ∧ n < m
    · obtain ⟨hlt1, hlt2⟩ := hlt
      go_wp2_with fail
      rw [show ((a : Int) - ((c : Int) + 1)) = ((a - (c + 1) : Nat) : Int) by omega]
      refine (common_any s (a - (c + 1)) a m _ hs (by omega) (by omega)).mono ?_
      rintro r w1 ⟨rfl, q1, rfl⟩
      have hk : Sq.com s.data.toList (a - (c + 1)) a m ≤ m := Sq.com_le _ _ _ _
      have HK : Hid (Sq.mat s.data.toList a (c + 1) = Sq.com s.data.toList (a - (c + 1)) a m) := by
        show _ = _; rw [mat_com, HL.out, ← HM.out]
      generalize Sq.com s.data.toList (a - (c + 1)) a m = k at *
      by_cases hk2 : n < k
      · go_wp2_with fail
        go_roundw
        case rel =>
          have hy := up_yes s.data.toList a c (by rw [HN.out, HK.out]; exact hk2)
          exact ⟨c + 1, by omega, by go_num, by rw [hy, HK.out], by rw [hy]; go_num, _, rfl⟩
        case measure => simp [intOf]; omega
      · go_wp2_with fail
        go_roundw
        case rel =>
          have hy := up_no s.data.toList a c (by rw [HN.out, HK.out]; exact hk2)
          exact ⟨c + 1, by omega, by go_num, by rw [hy, HN.out], by rw [hy, HF.out], _, rfl⟩
        case measure => simp [intOf]; omega
    · have HB : Hid (Sq.best s.data.toList a = Sq.up s.data.toList a c) := by
        refine best_at _ _ _ (by have := HE.out; omega) ?_
        have := HE.out; have := HM.out; have h3 := HL.out; have h4 := HN.out
        rw [h3, h4]; omega
      have F1 : Hid (f = 0 → blen s.data.toList a = 0 ∧ bfar s.data.toList a = 0) := fun h => by
        unfold blen bfar; rw [HB.out, HF.out, h]; exact ⟨rfl, rfl⟩
      have F2 : Hid (f ≠ 0 → blen s.data.toList a = n ∧ bfar s.data.toList a = f) := fun h => by
        unfold blen bfar; rw [HB.out, HF.out, HN.out, if_neg h]; exact ⟨rfl, rfl⟩
      by_cases hf : f = 0
      · have HF0 := hid hf
        go_wp2_with fail
        all_goals
          go_ret2
          exact ⟨by rw [(F1.out HF0.out).1, (F1.out HF0.out).2]; rfl, _, rfl⟩
      · have HF0 := hid hf
        go_wp2_with fail
        all_goals
          go_ret2
          exact ⟨by rw [(F2.out HF0.out).1, (F2.out HF0.out).2]; rfl, _, rfl⟩
end Go.Proofs.YtolgpnaoaodepaaGreat
