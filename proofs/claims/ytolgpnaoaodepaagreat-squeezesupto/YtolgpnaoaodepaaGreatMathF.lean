/- Plain mathematics of a leaf's first bytes. -/
import Derived.Test.YtolgpnaoaodepaaGreatMathD
import Derived.Test.YtolgpnaoaodepaaGreatMathE
namespace Go.Proofs.YtolgpnaoaodepaaGreat.Pg

/-- The entry of basement i in a leaf's first bytes. -/
def ent (l : List UInt8) (i : Nat) : List UInt8 := (l.drop (4 + 15 * i)).take 15
def entSize (e : List UInt8) : Nat := high (e.take 2)
def entK (e : List UInt8) : Nat := (e.getD 2 0).toNat
def entKey (e : List UInt8) : List UInt8 := (e.drop 3).take (entK e)
/-- Such an entry may not be. -/
def entBad (e : List UInt8) (at_ len : Nat) : Bool := decide (entK e < 1) || decide (12 < entK e) || decide (e.drop (3 + entK e) ≠ List.replicate (12 - entK e) 0) || decide (len < at_ + entSize e)
def ordBad (i : Nat) (ks : List (List UInt8)) (key : List UInt8) : Bool := decide (0 < i) && !decide (ks.getD (i - 1) [] < key)
def hdrLoop (l : List UInt8) (many : Nat) : Nat → Nat → Nat → List (List UInt8) → List (List UInt8) → Option (List (List UInt8) × List (List UInt8))
  | 0, _, at_, ks, ss => if at_ = l.length then some (ks, ss) else none
  | f + 1, i, at_, ks, ss =>
    if many ≤ i then (if ent l i = List.replicate 15 0 then hdrLoop l many f (i + 1) at_ ks ss else none)
    else if entBad (ent l i) at_ l.length = true then none
    else if ordBad i ks (entKey (ent l i)) = true then none
    else hdrLoop l many f (i + 1) (at_ + entSize (ent l i)) (ks ++ [entKey (ent l i)]) (ss ++ [(l.drop at_).take (entSize (ent l i))])
def hdrMany (l : List UInt8) : Nat := (l.getD 3 0).toNat
def hdrHead (l : List UInt8) : Bool := decide (68 ≤ l.length) && decide (l.take 3 = [83, 50, 76]) && decide (sealed (l.take 64) = l.take 68) && decide (hdrMany l ≤ 4)
def header (l : List UInt8) : Option (List (List UInt8) × List (List UInt8)) := if hdrHead l = true then hdrLoop l (hdrMany l) 4 0 68 [] [] else none
theorem hdr_end (l : List UInt8) (m i at_ : Nat) (ks ss : List (List UInt8)) : hdrLoop l m 0 i at_ ks ss = if at_ = l.length then some (ks, ss) else none := rfl
theorem hdr_past (l : List UInt8) (m f i at_ : Nat) (ks ss : List (List UInt8)) (h : m ≤ i) (he : ent l i = List.replicate 15 0) : hdrLoop l m (f + 1) i at_ ks ss = hdrLoop l m f (i + 1) at_ ks ss := by rw [hdrLoop, if_pos h, if_pos he]
theorem hdr_past_no (l : List UInt8) (m f i at_ : Nat) (ks ss : List (List UInt8)) (h : m ≤ i) (he : ¬ ent l i = List.replicate 15 0) : hdrLoop l m (f + 1) i at_ ks ss = none := by rw [hdrLoop, if_pos h, if_neg he]
theorem hdr_bad (l : List UInt8) (m f i at_ : Nat) (ks ss : List (List UInt8)) (h : ¬ m ≤ i) (he : entBad (ent l i) at_ l.length = true) : hdrLoop l m (f + 1) i at_ ks ss = none := by rw [hdrLoop, if_neg h, if_pos he]
theorem hdr_ord (l : List UInt8) (m f i at_ : Nat) (ks ss : List (List UInt8)) (h : ¬ m ≤ i) (he : entBad (ent l i) at_ l.length = false) (ho : ordBad i ks (entKey (ent l i)) = true) : hdrLoop l m (f + 1) i at_ ks ss = none := by rw [hdrLoop, if_neg h, if_neg (by rw [he]; decide), if_pos ho]
theorem hdr_next (l : List UInt8) (m f i at_ : Nat) (ks ss : List (List UInt8)) (h : ¬ m ≤ i) (he : entBad (ent l i) at_ l.length = false) (ho : ordBad i ks (entKey (ent l i)) = false) : hdrLoop l m (f + 1) i at_ ks ss = hdrLoop l m f (i + 1) (at_ + entSize (ent l i)) (ks ++ [entKey (ent l i)]) (ss ++ [(l.drop at_).take (entSize (ent l i))]) := by rw [hdrLoop, if_neg h, if_neg (by rw [he]; decide), if_neg (by rw [ho]; decide)]
end Go.Proofs.YtolgpnaoaodepaaGreat.Pg
