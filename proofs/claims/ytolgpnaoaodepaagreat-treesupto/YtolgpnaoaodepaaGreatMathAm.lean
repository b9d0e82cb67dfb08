/- The walks of the functions that look for matches: the program's commonLength. -/
import Derived.Test.YtolgpnaoaodepaaGreatRows
import Derived.WalkKit
import Derived.WalkSpells
import Derived.WalkLawsBesides
import Derived.Deep.QuietTactic
import Derived.BigQuiet
import Derived.Lib.AppendStr
import Derived.Maps.AppendAt
import Derived.Lib.MinMax
import Derived.Lib.BufferRead
import Derived.Laws.IdiomStrings
import Derived.Laws.DeepStrings4
/- Plain mathematics of squeezing: the longest nearest match two ways, what is still to be written, what a squeezed text says. Nothing of the program is named here. -/
namespace Go.Proofs.YtolgpnaoaodepaaGreat.Sq

/-- How many bytes, at most m, are the same from i and from j on. -/
def com (l : List UInt8) (i j : Nat) : Nat → Nat
  | 0 => 0
  | m + 1 => if j < l.length ∧ l[i]? = l[j]? then com l (i + 1) (j + 1) m + 1 else 0

theorem com_le (l : List UInt8) : ∀ (m i j : Nat), com l i j m ≤ m
  | 0, _, _ => Nat.le_refl _
  | m + 1, i, j => by
    unfold com; split
    · have := com_le l m (i + 1) (j + 1); omega
    · omega

/-- n bytes were the same: so many are, if the next are other or there is no next. -/
theorem com_stop (l : List UInt8) : ∀ (m i j n : Nat), n ≤ m → j + n ≤ l.length → (∀ k, k < n → l[i + k]? = l[j + k]?) → (n = m ∨ ¬ (j + n < l.length ∧ l[i + n]? = l[j + n]?)) → com l i j m = n
  | 0, i, j, n, h, _, _, _ => by simp [com]; omega
  | m + 1, i, j, 0, _, _, _, hs => by
    unfold com; rw [if_neg]
    rcases hs with h | h
    · omega
    · simpa using h
  | m + 1, i, j, n + 1, h, hl, hk, hs => by
    unfold com
    have h0 := hk 0 (by omega)
    rw [if_pos ⟨by omega, by simpa using h0⟩]
    rw [com_stop l m (i + 1) (j + 1) n (by omega) (by omega) (fun k hk' => by have := hk (k + 1) (by omega); rw [show i + 1 + k = i + (k + 1) by omega, show j + 1 + k = j + (k + 1) by omega]; exact this) ?_]
    rcases hs with h' | h'
    · left; omega
    · right; rw [show i + 1 + n = i + (n + 1) by omega, show j + 1 + n = j + (n + 1) by omega]; exact h'

/-- The match at a place, d bytes ahead. -/
def mat (l : List UInt8) (at_ d : Nat) : Nat := com l (at_ - d) at_ (min 66 (l.length - at_))

theorem mat_le (l : List UInt8) (at_ d : Nat) : mat l at_ d ≤ 66 := by
  unfold mat; have := com_le l (min 66 (l.length - at_)) (at_ - d) at_; omega
theorem mat_most (l : List UInt8) (at_ d : Nat) : mat l at_ d ≤ min 66 (l.length - at_) := com_le l _ _ _

/-- The best so far, from the nearest on: what is longer counts. -/
def up (l : List UInt8) (at_ : Nat) : Nat → Nat × Nat
  | 0 => (2, 0)
  | c + 1 => if (up l at_ c).1 < mat l at_ (c + 1) then (mat l at_ (c + 1), c + 1) else up l at_ c

theorem up_spec (l : List UInt8) (at_ : Nat) : ∀ c, (∀ d, 1 ≤ d → d ≤ c → mat l at_ d ≤ (up l at_ c).1 ∧ (d < (up l at_ c).2 → mat l at_ d < (up l at_ c).1)) ∧ ((up l at_ c = (2, 0)) ∨ (1 ≤ (up l at_ c).2 ∧ (up l at_ c).2 ≤ c ∧ mat l at_ (up l at_ c).2 = (up l at_ c).1 ∧ 2 < (up l at_ c).1))
  | 0 => ⟨fun d h1 h2 => by omega, .inl rfl⟩
  | c + 1 => by
    obtain ⟨h1, h2⟩ := up_spec l at_ c
    have g : 2 ≤ (up l at_ c).1 := by
      rcases h2 with h2 | h2
      · rw [h2]; exact Nat.le_refl _
      · omega
    rw [up]
    split
    · rename_i hlt
      refine ⟨fun d ha hb => ?_, .inr ⟨by simp, by simp, rfl, by simp; omega⟩⟩
      by_cases e : d = c + 1
      · subst e; simp
      · have := (h1 d ha (by omega)).1; simp; omega
    · rename_i hge
      refine ⟨fun d ha hb => ?_, ?_⟩
      · by_cases e : d = c + 1
        · subst e; refine ⟨by omega, fun hx => ?_⟩
          rcases h2 with h2 | h2
          · rw [h2] at hx; simp at hx
          · omega
        · exact h1 d ha (by omega)
      · rcases h2 with h2 | h2
        · exact .inl h2
        · exact .inr ⟨h2.1, by omega, h2.2.2.1, h2.2.2.2⟩

/-- What is taken at a place: none, or how long and how far ahead. -/
def best (l : List UInt8) (at_ : Nat) : Nat × Nat := up l at_ (min at_ 255)

theorem best_len (l : List UInt8) (at_ : Nat) (h : (best l at_).2 ≠ 0) : 3 ≤ (best l at_).1 ∧ (best l at_).1 ≤ 66 ∧ at_ + (best l at_).1 ≤ l.length := by
  have := (up_spec l at_ (min at_ 255)).2
  unfold best at *
  rcases this with h' | h'
  · rw [h'] at h; simp at h
  · have h1 := mat_le l at_ (up l at_ (min at_ 255)).2
    have h2 := mat_most l at_ (up l at_ (min at_ 255)).2
    omega

/-- The other way: from the farthest down; what is not shorter counts. j rounds: 255 .. 256 - j. -/
def down (l : List UInt8) (at_ : Nat) : Nat → Nat × Nat
  | 0 => (0, 0)
  | j + 1 => if 255 - j ≤ at_ ∧ (down l at_ j).1 ≤ mat l at_ (255 - j) then (mat l at_ (255 - j), 255 - j) else down l at_ j

theorem down_spec (l : List UInt8) (at_ : Nat) : ∀ j, j ≤ 255 → (∀ d, 256 - j ≤ d → d ≤ 255 → d ≤ at_ → mat l at_ d ≤ (down l at_ j).1 ∧ (d < (down l at_ j).2 → mat l at_ d < (down l at_ j).1)) ∧ ((down l at_ j = (0, 0) ∧ ∀ d, 256 - j ≤ d → d ≤ 255 → ¬ d ≤ at_) ∨ (256 - j ≤ (down l at_ j).2 ∧ (down l at_ j).2 ≤ 255 ∧ (down l at_ j).2 ≤ at_ ∧ mat l at_ (down l at_ j).2 = (down l at_ j).1))
  | 0, _ => ⟨fun d h1 h2 => by omega, .inl ⟨rfl, fun d h1 h2 => by omega⟩⟩
  | j + 1, hj => by
    obtain ⟨h1, h2⟩ := down_spec l at_ j (by omega)
    rw [down]
    split
    · rename_i hc
      refine ⟨fun d ha hb hd => ?_, .inr ⟨by simp only []; omega, by simp, by simpa using hc.1, rfl⟩⟩
      by_cases e : d = 255 - j
      · subst e; simp
      · have := (h1 d (by omega) hb hd).1; exact ⟨by simp; omega, fun hx => by simp at hx; omega⟩
    · rename_i hc
      refine ⟨fun d ha hb hd => ?_, ?_⟩
      · by_cases e : d = 255 - j
        · subst e
          have : ¬ (down l at_ j).1 ≤ mat l at_ (255 - j) := fun hx => hc ⟨hd, hx⟩
          omega
        · exact h1 d (by omega) hb hd
      · rcases h2 with ⟨h2, h3⟩ | h2
        · refine .inl ⟨h2, fun d ha hb hd => ?_⟩
          by_cases e : d = 255 - j
          · subst e; exact hc ⟨hd, by rw [h2]; exact Nat.zero_le _⟩
          · exact h3 d (by omega) hb hd
        · exact .inr ⟨by omega, h2.2.1, h2.2.2.1, h2.2.2.2⟩

/-- Both ways come to the same. -/
theorem down_best (l : List UInt8) (at_ : Nat) : (best l at_).2 = 0 ∧ (down l at_ 255).1 < 3 ∨ (best l at_).2 ≠ 0 ∧ 3 ≤ (down l at_ 255).1 ∧ down l at_ 255 = best l at_ := by
  obtain ⟨u1, u2⟩ := up_spec l at_ (min at_ 255)
  obtain ⟨d1, d2⟩ := down_spec l at_ 255 (Nat.le_refl _)
  unfold best
  generalize up l at_ (min at_ 255) = u at *
  generalize down l at_ 255 = v at *
  obtain ⟨un, ub⟩ := u
  obtain ⟨vn, vb⟩ := v
  simp only [Prod.mk.injEq] at *
  rcases u2 with ⟨rfl, rfl⟩ | ⟨a1, a2, a3, a4⟩
  · left; refine ⟨rfl, ?_⟩
    rcases d2 with ⟨⟨rfl, rfl⟩, _⟩ | ⟨b1, b2, b3, b4⟩
    · omega
    · have := (u1 vb (by omega) (by omega)).1; omega
  · right; refine ⟨by omega, ?_⟩
    have h1 := d1 ub (by omega) (by omega) (by omega)
    rcases d2 with ⟨⟨rfl, rfl⟩, hx⟩ | ⟨b1, b2, b3, b4⟩
    · exact absurd (show ub ≤ at_ by omega) (hx ub (by omega) (by omega))
    · have h2 := u1 vb (by omega) (by omega)
      have e1 : un = vn := by omega
      subst e1
      refine ⟨by omega, rfl, ?_⟩
      rcases Nat.lt_trichotomy ub vb with h | h | h
      · have := h1.2 h; omega
      · exact h.symm
      · have := h2.2 h; omega

/-- A run, written in pieces of 128. -/
def pieces : Nat → List UInt8 → List UInt8
  | 0, _ => []
  | f + 1, s => if s = [] then [] else UInt8.ofNat (min s.length 128 - 1) :: (s.take 128 ++ pieces f (s.drop 128))
def runOf (s : List UInt8) : List UInt8 := pieces s.length s

theorem pieces_fuel : ∀ (f g : Nat) (s : List UInt8), s.length ≤ f → s.length ≤ g → pieces f s = pieces g s
  | 0, 0, _, _, _ => rfl
  | 0, g + 1, s, h, _ => by have : s = [] := List.length_eq_zero_iff.1 (by omega); subst this; simp [pieces]
  | f + 1, 0, s, _, h => by have : s = [] := List.length_eq_zero_iff.1 (by omega); subst this; simp [pieces]
  | f + 1, g + 1, s, h1, h2 => by
    unfold pieces
    by_cases e : s = []
    · simp [e]
    · have : 0 < s.length := List.length_pos_iff.2 e
      rw [if_neg e, if_neg e, pieces_fuel f g (s.drop 128) (by simp; omega) (by simp; omega)]

theorem runOf_nil : runOf [] = [] := rfl
theorem runOf_cons (s : List UInt8) (h : s ≠ []) : runOf s = UInt8.ofNat (min s.length 128 - 1) :: (s.take 128 ++ runOf (s.drop 128)) := by
  have hp : 0 < s.length := List.length_pos_iff.2 h
  obtain ⟨k, hk⟩ : ∃ k, s.length = k + 1 := ⟨s.length - 1, by omega⟩
  unfold runOf
  rw [hk, pieces, if_neg h, hk, pieces_fuel k (s.drop 128).length _ (by simp; omega) (Nat.le_refl _)]
theorem runOf_short (s : List UInt8) (h : s ≠ []) (hl : s.length ≤ 128) : runOf s = UInt8.ofNat (s.length - 1) :: s := by
  rw [runOf_cons s h, List.take_of_length_le hl, List.drop_eq_nil_of_le hl, runOf_nil, Nat.min_eq_left hl, List.append_nil]
theorem runOf_full (p q : List UInt8) (h : p.length = 128) : runOf (p ++ q) = 127 :: (p ++ runOf q) := by
  rw [runOf_cons _ (by intro e; simp at e; rw [e.1] at h; simp at h)]
  have h1 : min (p ++ q).length 128 - 1 = 127 := by simp; omega
  have h2 : (p ++ q).take 128 = p := by rw [← h]; simp
  have h3 : (p ++ q).drop 128 = q := by rw [← h]; simp
  rw [h1, h2, h3]; rfl

theorem runOf_le : ∀ (n : Nat) (s : List UInt8), s.length ≤ n → (runOf s).length ≤ 2 * s.length
  | 0, s, h => by have : s = [] := List.length_eq_zero_iff.1 (by omega); subst this; simp [runOf_nil]
  | n + 1, s, h => by
    by_cases e : s = []
    · subst e; simp [runOf_nil]
    · have hp : 0 < s.length := List.length_pos_iff.2 e
      rw [runOf_cons s e]
      have := runOf_le n (s.drop 128) (by simp; omega)
      simp at *; omega

/-- What is still to be written, from a place on, behind singles that wait. -/
def rem (l : List UInt8) : Nat → Nat → List UInt8 → List UInt8
  | 0, _, p => runOf p
  | f + 1, at_, p => if l.length ≤ at_ then runOf p else
    if (best l at_).2 = 0 then rem l f (at_ + 1) (p ++ (l.drop at_).take 1)
    else runOf p ++ (UInt8.ofNat (125 + (best l at_).1) :: UInt8.ofNat (best l at_).2 :: rem l f (at_ + (best l at_).1) [])

theorem rem_fuel (l : List UInt8) : ∀ (f g at_ : Nat) (p : List UInt8), l.length - at_ ≤ f → l.length - at_ ≤ g → rem l f at_ p = rem l g at_ p
  | 0, 0, _, _, _, _ => rfl
  | 0, g + 1, at_, p, h, _ => by rw [rem, rem, if_pos (by omega)]
  | f + 1, 0, at_, p, _, h => by rw [rem, rem, if_pos (by omega)]
  | f + 1, g + 1, at_, p, h1, h2 => by
    rw [rem, rem]
    by_cases e : l.length ≤ at_
    · rw [if_pos e, if_pos e]
    · rw [if_neg e, if_neg e]
      by_cases b : (best l at_).2 = 0
      · rw [if_pos b, if_pos b, rem_fuel l f g (at_ + 1) _ (by omega) (by omega)]
      · have := best_len l at_ b
        rw [if_neg b, if_neg b, rem_fuel l f g (at_ + (best l at_).1) _ (by omega) (by omega)]

/-- The rest of the squeezed text. -/
def rest (l : List UInt8) (at_ : Nat) (p : List UInt8) : List UInt8 := rem l (l.length - at_) at_ p
def squeeze (l : List UInt8) : List UInt8 := rest l 0 []

theorem rest_end (l : List UInt8) (at_ : Nat) (p : List UInt8) (h : l.length ≤ at_) : rest l at_ p = runOf p := by
  unfold rest; rw [show l.length - at_ = 0 by omega]; rfl
theorem rest_single (l : List UInt8) (at_ : Nat) (p : List UInt8) (h : at_ < l.length) (b : (best l at_).2 = 0) : rest l at_ p = rest l (at_ + 1) (p ++ [l[at_]]) := by
  unfold rest
  rw [show l.length - at_ = (l.length - (at_ + 1)) + 1 by omega, rem, if_neg (by omega), if_pos b]
  rw [List.drop_eq_getElem_cons h]; rfl
theorem rest_match (l : List UInt8) (at_ : Nat) (p : List UInt8) (h : at_ < l.length) (b : (best l at_).2 ≠ 0) : rest l at_ p = runOf p ++ (UInt8.ofNat (125 + (best l at_).1) :: UInt8.ofNat (best l at_).2 :: rest l (at_ + (best l at_).1) []) := by
  have hb := best_len l at_ b
  unfold rest
  rw [show l.length - at_ = (l.length - (at_ + 1)) + 1 by omega, rem, if_neg (by omega), if_neg b]
  rw [rem_fuel l (l.length - (at_ + 1)) (l.length - (at_ + (best l at_).1)) _ _ (by omega) (by omega)]

theorem rem_full (l : List UInt8) : ∀ (f at_ : Nat) (p q : List UInt8), p.length = 128 → rem l f at_ (p ++ q) = 127 :: (p ++ rem l f at_ q)
  | 0, _, p, q, h => runOf_full p q h
  | f + 1, at_, p, q, h => by
    rw [rem, rem]
    split
    · exact runOf_full p q h
    · split
      · rw [List.append_assoc, rem_full l f _ p _ h]
      · rw [runOf_full p q h]; simp
theorem rest_full (l : List UInt8) (at_ : Nat) (p : List UInt8) (h : p.length = 128) : rest l at_ p = 127 :: (p ++ rest l at_ []) := by
  have := rem_full l (l.length - at_) at_ p [] h
  rw [List.append_nil] at this; exact this

theorem rem_le (l : List UInt8) : ∀ (f at_ : Nat) (p : List UInt8), (rem l f at_ p).length ≤ 2 * p.length + 2 * f
  | 0, _, p => by have := runOf_le _ p (Nat.le_refl _); simp [rem]; omega
  | f + 1, at_, p => by
    rw [rem]
    have h0 := runOf_le _ p (Nat.le_refl _)
    split
    · omega
    · split
      · have := rem_le l f (at_ + 1) (p ++ (l.drop at_).take 1)
        simp at this; simp; omega
      · have := rem_le l f (at_ + (best l at_).1) []
        simp at *; omega
theorem rest_le (l : List UInt8) (at_ : Nat) (p : List UInt8) : (rest l at_ p).length ≤ 2 * p.length + 2 * (l.length - at_) := rem_le l _ at_ p
theorem squeeze_le (l : List UInt8) : (squeeze l).length ≤ 2 * l.length := by have := rest_le l 0 []; simpa [squeeze] using this

end Go.Proofs.YtolgpnaoaodepaaGreat.Sq
namespace Go.Proofs.YtolgpnaoaodepaaGreat
open Go.RowKit

theorem ret_int {k : IntKind} {a b : Int} (h : a = b) : Ending.returned (.int k a) = .returned (.int k b) := by rw [h]

theorem at_list (s : ByteArray) (i : Nat) (h : i < s.size) : s.data.toList[i]? = some s[i] := by
  rw [List.getElem?_eq_getElem (by simpa using h)]; rfl
theorem byte_eq (s : ByteArray) (i j : Nat) (hi : i < s.size) (hj : j < s.size) (h : (((s[i]'hi).toNat : Int) == ((s[j]'hj).toNat : Int)) = true) : s.data.toList[i]? = s.data.toList[j]? := by
  rw [at_list s i hi, at_list s j hj]
  have h' : ((s[i]'hi).toNat : Int) = ((s[j]'hj).toNat : Int) := by simpa using h
  rw [UInt8.toNat_inj.1 (by omega : (s[i]'hi).toNat = (s[j]'hj).toNat)]
theorem byte_ne (s : ByteArray) (i j : Nat) (hi : i < s.size) (hj : j < s.size) (h : (((s[i]'hi).toNat : Int) == ((s[j]'hj).toNat : Int)) = false) : ¬ s.data.toList[i]? = s.data.toList[j]? := by
  rw [at_list s i hi, at_list s j hj]
  intro e
  have e' : s[i]'hi = s[j]'hj := by simpa using e
  rw [e'] at h; simp at h

end Go.Proofs.YtolgpnaoaodepaaGreat
/- The walks of longestMatch and appendRun. -/
namespace Go.Proofs.YtolgpnaoaodepaaGreat
open Go.RowKit

theorem hid {p : Prop} (h : p) : Hid p := h
theorem int_eq {k : IntKind} {a b : Int} (h : a = b) : Value.int k a = Value.int k b := by rw [h]
end Go.Proofs.YtolgpnaoaodepaaGreat
/- Bytes that a call owns: what append and the conversion to a string do to them. -/
namespace Go.Proofs.YtolgpnaoaodepaaGreat
open Go.RowKit

/-- The slice value v owns the bytes l, in a row from block B on. -/
def Owns (B : Nat) (w : World) (v : Value) (l : List UInt8) : Prop := w.ownsRow B 5 1 v l.length (Lib.byteCells l)

theorem info_u8 : (Tryz.prog.info? 5).map (fun i => (i.zero, i.size, i.bytes)) = some (some (.int .u8 0), 1, 1) := by kernel_rfl

theorem Owns.nil (B : Nat) (w : World) : Owns B w (.slice none 0 0) [] := World.ownsRow_nil _ _ _ _
theorem Owns.alloc {B : Nat} {w : World} {v : Value} {l : List UInt8} (h : Owns B w v l) (o : Obj) : Owns B (w.alloc o) v l := World.ownsRow.alloc h o
theorem Owns.drewN {B : Nat} {w : World} {v : Value} {l : List UInt8} (h : Owns B w v l) (q : Nat) : Owns B (w.drewN q) v l := h
theorem Owns.shape {B : Nat} {w : World} {v : Value} {l : List UInt8} (h : Owns B w v l) : ∃ a cap, v = .slice a l.length cap := by
  rcases h.2 with ⟨rfl, hn⟩ | ⟨g, cap, cur, rfl, _⟩
  · exact ⟨none, 0, by rw [hn]⟩
  · exact ⟨_, _, rfl⟩
theorem below_drewN {B : Nat} {a w : World} (h : Below B a w) (n : Nat) : Below B a (w.drewN n) := h.trans ⟨rfl, rfl, rfl, Nat.le_refl _, fun _ _ => rfl⟩

/-- string(v). -/
theorem Owns.str {B : Nat} {w : World} {v : Value} {l : List UInt8} (h : Owns B w v l) : (convert 108 9 v).run Tryz.prog w = .ok (.string ⟨l.toArray⟩) w := by
  rcases h.2 with ⟨rfl, hn⟩ | ⟨g, cap, cur, rfl, hb, hg, _, _, _, htk⟩
  · have : l = [] := List.length_eq_zero_iff.1 hn
    subst this
    exact Lib.run_convert_nil_bytes w _ _ 5 0 Tryz.underlying108 Tryz.underlying5 Tryz.underlying9
  · refine run_convert_bytes_back w _ _ 5 ⟨g, 0, none⟩ cap l Tryz.underlying108 Tryz.underlying5 Tryz.underlying9 ?_
    exact Lib.bytes_of_row hg (by simpa using htk)

theorem byteCells_one (l : List UInt8) : ∀ u ∈ Lib.byteCells l, u.oneCell' = true := by
  intro u hu
  simp [Lib.byteCells] at hu
  obtain ⟨b, _, rfl⟩ := hu
  rfl

/-- append(v, xs...), xs bytes that lie somewhere. -/
theorem wpApB (w : World) {ops : Array Oper} {rest : List Oper} {o : Oper} {a : Act} {Q : Exit → Act → World → Prop} (hgd : o.guard = none) (sl x : Operand)
    (ho : o.op = Op.call { callee := Callee.builtin Builtin.append, args := #[sl, x], argTypes := #[108, 108] }) (B : Nat) (v : Value) (l : List UInt8) (hs : a.eval sl = v) (hown : Owns B w v l)
    (ad : Addr) (c : Nat) (news : List UInt8) (hx : a.eval x = .slice (some ad) news.length c) (hnews : ∀ j u, (Lib.byteCells news)[j]? = some u → w.cell? (ad.add j) = some u)
    (hb : l.length + news.length ≤ 140737488355328) (hB : B ≤ w.heap.size)
    (h : ∀ (v' : Value) (w' : World), Owns B w' v' (l ++ news) → w.grownBy w' v.ownBlock → (v'.ownBlock = v.ownBlock ∨ v'.ownBlock = some w.heap.size) → wpList Tryz.prog ops Q rest (a.put o.dst v') w') : wpList Tryz.prog ops Q (o :: rest) a w := by
  obtain ⟨i, hi, hz0, hz1, hz2⟩ := info_parts info_u8
  refine wpList_append_own_at w hgd sl x 108 ho B 5 i (.int .u8 0) 1 1 Tryz.underlying108 hi hz0 hz1 hz2 rfl (by decide) v l.length (Lib.byteCells l) hs hown ad news.length c (Lib.byteCells news) hx (by rw [Lib.byteCells_length]; omega) hnews (byteCells_one _) (by unfold maxLen; omega) (by omega) hB ?_
  intro v' w' ho' hg _ hat
  refine h v' w' ?_ hg hat
  unfold Owns
  rw [Lib.byteCells_append, List.length_append]
  exact ho'

/-- A row of bytes that was laid just now. -/
theorem laid_cells (w : World) (T : TypeId) (bs : List UInt8) (cur : Array Value) (hc : cur.toList = Lib.byteCells bs) : ∀ j u, (Lib.byteCells bs)[j]? = some u → (w.alloc (.cells cur T)).cell? ((⟨w.heap.size, 0, none⟩ : Addr).add j) = some u := by
  intro j u hj
  rw [← hc, Array.getElem?_toList] at hj
  have e : ∀ j, (w.alloc (.cells cur T)).cell? ⟨w.heap.size, j, none⟩ = cur[j]? := fun j => World.cell?_alloc_at cur T _ j rfl
  by_cases h0 : j = 0
  · subst h0; simp only [Addr.add, if_pos]; rw [e]; exact hj
  · simp only [Addr.add, if_neg h0, Nat.zero_add]; rw [e]; exact hj

/-- append(v, b): b lies in a new block of its own. -/
theorem wpAp1 (w : World) {ops : Array Oper} {rest : List Oper} {o : Oper} {a : Act} {Q : Exit → Act → World → Prop} (hgd : o.guard = none) (sl x : Operand)
    (ho : o.op = Op.call { callee := Callee.builtin Builtin.append, args := #[sl, x], argTypes := #[108, 108] }) (B : Nat) (v : Value) (l : List UInt8) (hs : a.eval sl = v) (hown : Owns B w v l)
    (b : UInt8) (n : Int) (hn : n = (b.toNat : Int)) (hx : a.eval x = .slice (some ⟨w.heap.size, 0, none⟩) 1 1)
    (hb : l.length + 1 ≤ 140737488355328) (hB : B ≤ w.heap.size)
    (h : ∀ (v' : Value) (w' : World), Owns B w' v' (l ++ [b]) → (w.alloc (.cells #[.int .u8 n] 5)).grownBy w' v.ownBlock → (v'.ownBlock = v.ownBlock ∨ v'.ownBlock = some (w.heap.size + 1)) → wpList Tryz.prog ops Q rest (a.put o.dst v') w') : wpList Tryz.prog ops Q (o :: rest) a (w.alloc (.cells #[.int .u8 n] 5)) := by
  subst hn
  refine wpApB (w.alloc (.cells #[.int .u8 (b.toNat : Int)] 5)) hgd sl x ho B v l hs (hown.alloc _) ⟨w.heap.size, 0, none⟩ 1 [b] hx (laid_cells w _ [b] _ (by simp [Lib.byteCells])) (by simpa using hb) (by simp; omega) ?_
  intro v' w' h1 h2 h3
  exact h v' w' h1 h2 (by simpa using h3)
theorem wpAp2 (w : World) {ops : Array Oper} {rest : List Oper} {o : Oper} {a : Act} {Q : Exit → Act → World → Prop} (hgd : o.guard = none) (sl x : Operand)
    (ho : o.op = Op.call { callee := Callee.builtin Builtin.append, args := #[sl, x], argTypes := #[108, 108] }) (B : Nat) (v : Value) (l : List UInt8) (hs : a.eval sl = v) (hown : Owns B w v l)
    (b c : UInt8) (n m : Int) (hn : n = (b.toNat : Int)) (hm : m = (c.toNat : Int)) (hx : a.eval x = .slice (some ⟨w.heap.size, 0, none⟩) 2 2)
    (hb : l.length + 2 ≤ 140737488355328) (hB : B ≤ w.heap.size)
    (h : ∀ (v' : Value) (w' : World), Owns B w' v' (l ++ [b, c]) → (w.alloc (.cells #[.int .u8 n, .int .u8 m] 5)).grownBy w' v.ownBlock → (v'.ownBlock = v.ownBlock ∨ v'.ownBlock = some (w.heap.size + 1)) → wpList Tryz.prog ops Q rest (a.put o.dst v') w') : wpList Tryz.prog ops Q (o :: rest) a (w.alloc (.cells #[.int .u8 n, .int .u8 m] 5)) := by
  subst hn hm
  refine wpApB (w.alloc (.cells #[.int .u8 (b.toNat : Int), .int .u8 (c.toNat : Int)] 5)) hgd sl x ho B v l hs (hown.alloc _) ⟨w.heap.size, 0, none⟩ 2 [b, c] hx (laid_cells w _ [b, c] _ (by simp [Lib.byteCells])) (by simpa using hb) (by simp; omega) ?_
  intro v' w' h1 h2 h3
  exact h v' w' h1 h2 (by simpa using h3)

theorem below_of_grown {B : Nat} {w w' : World} {v : Value} {l : List UInt8} {ob : Obj} (hown : Owns B w v l) (hB : B ≤ w.heap.size) (hg : (w.alloc ob).grownBy w' v.ownBlock) : Below B w w' :=
  (((Below.refl B w).alloc hB ob).grown hg (by simp; omega) fun k hk => (World.ownsRow.lt hown k hk).1)
end Go.Proofs.YtolgpnaoaodepaaGreat
