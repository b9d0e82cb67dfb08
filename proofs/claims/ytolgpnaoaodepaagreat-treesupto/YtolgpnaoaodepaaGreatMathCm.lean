/- Plain mathematics of a leaf's page, today's and old. -/
import Derived.Test.YtolgpnaoaodepaaGreatWalkFm
namespace Go.Proofs.YtolgpnaoaodepaaGreat.Pg

theorem text_le (l : List UInt8) (h : l.length < 34359738368) : (text l).length ≤ l.length + 5 := by
  unfold text; rw [List.length_append]; have := num_len l.length h; omega
theorem section_len (k c : List UInt8) (h : c.length < 17179869184) : (section_ k c).length ≤ k.length + c.length + 20 := by
  have h2 := num_len c.length (by omega)
  unfold section_
  split
  · rename_i hlt
    have := text_le (Sq.squeeze c) (by omega)
    rw [seal_len]; simp only [List.length_append, low_len]; omega
  · have := text_le c (by omega)
    rw [seal_len]; simp only [List.length_append, low_len]; omega
theorem items_len : ∀ (l : List (List UInt8 × List UInt8)) (last : List UInt8), (∀ x ∈ l, x.1.length ≤ 12 ∧ x.2.length ≤ 16) → (items last l).length ≤ 60 * l.length
  | [], _, _ => by simp [items]
  | (k, v) :: r, last, h => by
    have h1 := h (k, v) (by simp)
    simp only at h1
    have h2 := text_le (k.drop (common last k)) (by rw [List.length_drop]; omega)
    rw [List.length_drop] at h2
    have h3 := text_le v (by omega)
    have h4 := items_len r k (fun x hx => h x (by simp [hx]))
    unfold items
    simp only [List.length_append, low_len, List.length_cons]; omega
theorem basement_len (l : List (List UInt8 × List UInt8)) (h : ∀ x ∈ l, x.1.length ≤ 12 ∧ x.2.length ≤ 16) : (basement l).length ≤ 1 + 60 * l.length := by
  unfold basement; rw [List.length_append, low_len]; have := items_len l [] h; omega

/-- A basement's section. -/
def base (l : List (List UInt8 × List UInt8)) : List UInt8 := section_ [98] (basement (l.take 4))
/-- What stands of a basement in a leaf's first bytes. -/
def entry (l : List (List UInt8 × List UInt8)) : List UInt8 := match l with
  | [] => []
  | (k, _) :: _ => low (base l).length 2 ++ low k.length 1 ++ k ++ List.replicate (12 - k.length) 0
def entries : Nat → List (List UInt8 × List UInt8) → List UInt8
  | 0, _ => []
  | f + 1, l => if l = [] then [] else entry l ++ entries f (l.drop 4)
def bases : Nat → List (List UInt8 × List UInt8) → List UInt8
  | 0, _ => []
  | f + 1, l => if l = [] then [] else base l ++ bases f (l.drop 4)
def many (n : Nat) : Nat := (n + 3) / 4
def leaf (l : List (List UInt8 × List UInt8)) : List UInt8 :=
  sealed ([83, 50, 76] ++ low (many l.length) 1 ++ entries (many l.length) l ++ List.replicate (60 - (entries (many l.length) l).length) 0) ++ bases (many l.length) l
/-- An old leaf's page. -/
def oldItems : List (List UInt8 × List UInt8) → List UInt8
  | [] => []
  | (k, v) :: r => text k ++ text v ++ oldItems r
def oldLeaf (l : List (List UInt8 × List UInt8)) : List UInt8 := sealed ([83, 49, 76] ++ low l.length 1 ++ oldItems l)
end Go.Proofs.YtolgpnaoaodepaaGreat.Pg
/- Plain mathematics of reading: numbers in bytes, a cursor. -/
namespace Go.Proofs.YtolgpnaoaodepaaGreat.Pg

end Go.Proofs.YtolgpnaoaodepaaGreat.Pg
namespace Go.Proofs.YtolgpnaoaodepaaGreat.Pg
end Go.Proofs.YtolgpnaoaodepaaGreat.Pg
/- What Squeeze writes Spread reads; it is never much longer: the plain mathematics. -/
namespace Go.Proofs.YtolgpnaoaodepaaGreat.Sq

end Go.Proofs.YtolgpnaoaodepaaGreat.Sq
/- Plain mathematics of a leaf's first bytes. -/
namespace Go.Proofs.YtolgpnaoaodepaaGreat.Pg

end Go.Proofs.YtolgpnaoaodepaaGreat.Pg
