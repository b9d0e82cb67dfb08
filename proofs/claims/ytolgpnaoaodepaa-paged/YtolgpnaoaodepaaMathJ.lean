/- Plain mathematics of the program's Fetch. -/
import Derived.Test.YtolgpnaoaodepaaMathI
namespace Go.Proofs.Ytolgpnaoaodepaa.Pr
open Pg
theorem secW_len {s : List UInt8} {x : UInt8 × List UInt8} (h : secW s = some x) : x.2.length ≤ 249 := by
  unfold secW at h
  cases h1 : takeR 1 s with
  | none => rw [h1] at h; simp at h
  | some a =>
    rw [h1] at h; simp only [Option.bind_some] at h
    cases h2 : byteR a.2 with
    | none => rw [h2] at h; simp at h
    | some b =>
      rw [h2] at h; simp only [Option.bind_some] at h
      cases h3 : numberR b.2 with
      | none => rw [h3] at h; simp at h
      | some n =>
        rw [h3] at h; simp only [Option.bind_some] at h
        cases h4 : numberR n.2 with
        | none => rw [h4] at h; simp at h
        | some z =>
          rw [h4] at h; simp only [Option.bind_some] at h
          split at h
          · simp at h
          · cases h5 : takeR z.1 z.2 with
            | none => rw [h5] at h; simp at h
            | some c =>
              rw [h5] at h; simp only [Option.map_some, Option.some.injEq] at h
              rw [← h]
              have := (takeR_len h5).1
              simp only; omega
theorem secR_len {k : UInt8} {s c : List UInt8} (h : secR k s = some c) : c.length ≤ 20000 := by
  unfold secR at h
  cases hw : secW s with
  | none => rw [hw] at h; simp at h
  | some x =>
    have hx := secW_len hw
    rw [hw] at h
    simp only [Option.bind_some] at h
    cases hu : secU x.1 x.2 with
    | none => rw [hu] at h; simp at h
    | some u =>
      rw [hu] at h
      simp only [Option.bind_some] at h
      split at h
      · simp only [Option.some.injEq] at h
        rw [← h]
        unfold secU at hu
        split at hu
        · unfold Sq.spread at hu
          split at hu
          · rename_i t ht'
            have := Sq.decode_le _ _ _ ht'
            split at hu
            · simp at hu; subst hu; simp at this; omega
            · simp at hu
          · simp at hu
        · simp at hu; rw [← hu]; omega
      · simp at h
/-- Which basement a key should be in: the last whose first key is not greater. -/
def findN (ks : List (List UInt8)) (key : List UInt8) : Nat → Int
  | 0 => -1
  | k + 1 => if key < ks.getD k [] then findN ks key k else (k : Int)
theorem findN_lt (ks : List (List UInt8)) (key : List UInt8) : ∀ n, -1 ≤ findN ks key n ∧ findN ks key n < n
  | 0 => by simp [findN]
  | n + 1 => by
    unfold findN
    split
    · have := findN_lt ks key n; omega
    · omega
/-- May these be the items of basement i? -/
def basOk (ks : List (List UInt8)) (i : Nat) (l : List (List UInt8 × List UInt8)) : Bool :=
  decide (1 ≤ l.length) && decide (l.length ≤ 4) && okFrom none l && decide ((l.map (·.1)).getD 0 [] = ks.getD i []) && (!decide (i + 1 < ks.length) || decide ((l.map (·.1)).getD (l.length - 1) [] < ks.getD (i + 1) []))
def basementR (ks : List (List UInt8)) (i : Nat) (s : List UInt8) : Option (List (List UInt8 × List UInt8)) := (secR 98 s).bind fun c => (basR c).bind fun l => if basOk ks i l = true then some l else none
/-- The value of a key among items. -/
def valueOf (key : List UInt8) : List (List UInt8 × List UInt8) → Option (List UInt8)
  | [] => none
  | x :: r => if x.1 = key then some x.2 else valueOf key r
/-- What Fetch tells: nothing (the page is none), or a value, if there is one. -/
def fetchR (page key : List UInt8) : Option (Option (List UInt8)) := (headR page).bind fun h => (cutR page h.1).bind fun ss => if findN h.2 key h.2.length < 0 then some none else (basementR h.2 (findN h.2 key h.2.length).toNat (ss.getD (findN h.2 key h.2.length).toNat [])).map fun l => valueOf key l
end Go.Proofs.Ytolgpnaoaodepaa.Pr
