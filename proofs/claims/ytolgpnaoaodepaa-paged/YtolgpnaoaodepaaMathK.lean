/- Plain mathematics of the program's reading of branches. -/
import Derived.Test.YtolgpnaoaodepaaMathJ
namespace Go.Proofs.Ytolgpnaoaodepaa.Pr
open Pg
def changesR : Nat → List UInt8 → Option (List (Int × List UInt8 × List UInt8) × List UInt8)
  | 0, t => some ([], t)
  | n + 1, t => (byteR t).bind fun b => (textR b.2).bind fun k => if b.1.toNat = 2 then (changesR n k.2).map fun r => (((2 : Int), k.1, []) :: r.1, r.2) else (textR k.2).bind fun v => (changesR n v.2).map fun r => (((b.1.toNat : Int), k.1, v.1) :: r.1, r.2)
def chgsR (t : List UInt8) : Option (List (Int × List UInt8 × List UInt8) × List UInt8) := (byteR t).bind fun b => changesR b.1.toNat b.2
def pivotsR : Nat → List UInt8 → Option (List (List UInt8) × List UInt8)
  | 0, t => some ([], t)
  | n + 1, t => (textR t).bind fun x => (pivotsR n x.2).map fun r => (x.1 :: r.1, r.2)
def numsR : Nat → List UInt8 → Option (List Nat × List UInt8)
  | 0, t => some ([], t)
  | n + 1, t => (numberR t).bind fun x => (numsR n x.2).map fun r => (x.1 :: r.1, r.2)
def childrenR (c : List UInt8) (n : Nat) : Option (List Nat × List (List UInt8)) := (numsR n c).bind fun x => (pivotsR (n - 1) x.2).bind fun p => if p.2 = [] then some (x.1, p.1) else none
theorem changesR_is : ∀ (l : List (Int × List UInt8 × List UInt8)) (t : List UInt8), (∀ c ∈ l, (c.1 = 1 ∨ c.1 = 3 ∨ (c.1 = 2 ∧ c.2.2 = [])) ∧ c.2.1.length ≤ 12 ∧ c.2.2.length ≤ 16) → changesR l.length (l.flatMap change1 ++ t) = some (l, t)
  | [], t, _ => rfl
  | (k, a, v) :: r, t, h => by
    have hc := h (k, a, v) (by simp)
    simp only at hc
    rw [List.length_cons, changesR, List.flatMap_cons]
    obtain ⟨n, hn, hn2⟩ : ∃ n : Nat, k = (n : Int) ∧ n ≤ 3 := ⟨k.toNat, by omega, by omega⟩
    subst hn
    have e : change1 ((n : Int), a, v) ++ r.flatMap change1 ++ t = UInt8.ofNat (n % 256) :: (text a ++ ((if (n : Int) = 2 then [] else text v) ++ (r.flatMap change1 ++ t))) := by
      unfold change1; simp [low]
    have hb : (UInt8.ofNat (n % 256)).toNat = n := by rw [UInt8.toNat_ofNat']; omega
    rw [e]
    simp only [byteR, Option.bind_some, hb]
    rw [textR_text _ _ (by omega)]
    simp only [Option.bind_some]
    have ih := changesR_is r t (fun c hc' => h c (by simp [hc']))
    by_cases h2 : n = 2
    · subst h2
      have hv : v = [] := by
        rcases hc.1 with h | h | h
        · omega
        · omega
        · exact h.2
      subst hv
      rw [if_pos rfl]
      simp only [if_true, show ((2 : Nat) : Int) = 2 from rfl, List.nil_append]
      rw [ih]; rfl
    · rw [if_neg h2, if_neg (by omega), textR_text _ _ (by omega)]
      simp only [Option.bind_some]
      rw [ih]; rfl
theorem chgsR_changes (l : List (Int × List UInt8 × List UInt8)) (t : List UInt8) (h8 : l.length ≤ 255) (h : ∀ c ∈ l, (c.1 = 1 ∨ c.1 = 3 ∨ (c.1 = 2 ∧ c.2.2 = [])) ∧ c.2.1.length ≤ 12 ∧ c.2.2.length ≤ 16) : chgsR (changes l ++ t) = some (l, t) := by
  have e : changes l ++ t = UInt8.ofNat (l.length % 256) :: (l.flatMap change1 ++ t) := by unfold changes; simp [low]
  have hb : (UInt8.ofNat (l.length % 256)).toNat = l.length := by rw [UInt8.toNat_ofNat']; omega
  unfold chgsR
  rw [e]
  simp only [byteR, Option.bind_some, hb]
  exact changesR_is l t h
theorem pivotsR_is : ∀ (l : List (List UInt8)) (t : List UInt8), (∀ p ∈ l, p.length ≤ 12) → pivotsR l.length (l.flatMap text ++ t) = some (l, t)
  | [], t, _ => rfl
  | p :: r, t, h => by
    rw [List.length_cons, pivotsR, List.flatMap_cons, List.append_assoc, textR_text _ _ (by have := h p (by simp); omega)]
    simp only [Option.bind_some]
    rw [pivotsR_is r t (fun x hx => h x (by simp [hx]))]; rfl
theorem numsR_is : ∀ (l : List Nat) (t : List UInt8), (∀ c ∈ l, c ≤ 2147483647) → numsR l.length (l.flatMap num ++ t) = some (l, t)
  | [], t, _ => rfl
  | c :: r, t, h => by
    rw [List.length_cons, numsR, List.flatMap_cons, List.append_assoc, numberR_num _ _ (h c (by simp))]
    simp only [Option.bind_some]
    rw [numsR_is r t (fun x hx => h x (by simp [hx]))]; rfl
theorem childrenR_is (cl : List Nat) (pl : List (List UInt8)) (hc : ∀ c ∈ cl, c ≤ 2147483647) (hp : ∀ p ∈ pl, p.length ≤ 12) (hl : pl.length + 1 = cl.length) : childrenR (pivotsC cl pl) cl.length = some (cl, pl) := by
  unfold childrenR pivotsC
  rw [numsR_is cl _ hc]
  simp only [Option.bind_some]
  have := pivotsR_is pl [] hp
  rw [List.append_nil] at this
  rw [show cl.length - 1 = pl.length by omega, this]
  simp
/-- A branch's page. -/
def branchR (page : List UInt8) : Option (List Nat × List (List UInt8) × List (Int × List UInt8 × List UInt8)) :=
  (takeR 3 page).bind fun a => (byteR a.2).bind fun c => (shortR c.2).bind fun p => (shortR p.2).bind fun m => (cutR page [p.1, m.1]).bind fun ss => (secR 112 (ss.getD 0 [])).bind fun pc => (childrenR pc c.1.toNat).bind fun cp => (secR 109 (ss.getD 1 [])).bind fun mc => (chgsR mc).bind fun ms => if ms.2 = [] then some (cp.1, cp.2, ms.1) else none
end Go.Proofs.Ytolgpnaoaodepaa.Pr
