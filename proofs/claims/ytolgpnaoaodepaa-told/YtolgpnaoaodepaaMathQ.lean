/- Plain mathematics of Told: what Read and Fetch tell of a leaf with bits turned. -/
import Derived.Test.YtolgpnaoaodepaaMathP
namespace Go.Proofs.Ytolgpnaoaodepaa.Pr
open Pg
theorem parts_at {l : Its} (i : Nat) (hi : i < l.length) : ∃ a p b, parts l = a ++ p :: b ∧ a.length = i / 4 ∧ l[i]'hi ∈ p := parts_get (many l.length) l i hi (by unfold many; omega)
theorem part_iff {l : Its} (h : Fine l) (a : List Its) (p : Its) (b : List Its) (hps : parts l = a ++ p :: b) (i : Nat) (hi : i < l.length) : l[i]'hi ∈ p ↔ i / 4 = a.length := by
  obtain ⟨a2, p2, b2, e2, h2, h3⟩ := parts_at i hi
  have hp := parts_fine h
  have f2 := findN_at hp e2 h3
  constructor
  · intro hx
    have f1 := findN_at hp hps hx
    rw [f1] at f2
    omega
  · intro he
    have hl : a.length = a2.length := by omega
    have e : a ++ p :: b = a2 ++ p2 :: b2 := hps.symm.trans e2
    have := (List.append_inj e hl).2
    injection this with e3 _
    rw [e3]; exact h3
theorem told_all {l : Its} (h : Fine l) (h16 : l.length ≤ 16) (k A P e : Nat) (y : List UInt8) (hk : k ≤ (parts l).length) (hA0 : k = 0 → A = 0) (hA1 : ∀ j, k = j + 1 → A = 68 + upto l j) (hl : y.length = (leaf l).length) (hy : high y = high (leaf l) ^^^ 2 ^ (8 * A + P) * e) (ho : e % 2 = 1) (h32 : e < 2 ^ 32) (hb : 2 ^ (8 * A + P) * e < 2 ^ (8 * (68 + upto l k))) :
    readR y = none ∧ ∀ i (hi : i < l.length), (k ≠ 0 ∧ i / 4 + 1 ≠ k → fetchR y (l[i]'hi).1 = some (some (l[i]'hi).2)) ∧ (k = 0 ∨ i / 4 + 1 = k → fetchR y (l[i]'hi).1 = none) := by
  have he0 : e ≠ 0 := by omega
  have he2 : e < 4294967296 := by simpa using h32
  cases k with
  | zero =>
    have := hA0 rfl
    subst this
    rw [Nat.mul_zero, Nat.zero_add] at hy hb
    rw [upto_zero, Nat.add_zero] at hb
    obtain ⟨r1, r2⟩ := told_head h h16 y P e hl hy he0 he2 hb
    refine ⟨r2, fun i hi => ⟨fun hc => absurd rfl hc.1, fun _ => ?_⟩⟩
    unfold fetchR
    rw [r1]; rfl
  | succ j =>
    have hAj := hA1 j rfl
    have hj : j < (parts l).length := by omega
    have hps : parts l = (parts l).take j ++ ((parts l)[j]'hj) :: (parts l).drop (j + 1) := by rw [← List.drop_eq_getElem_cons hj, List.take_append_drop]
    have hal : ((parts l).take j).length = j := by rw [List.length_take]; omega
    have hus := upto_succ l j hj
    have hh := headW_take l h h16
    generalize hp : (parts l)[j]'hj = p at *
    generalize ha : (parts l).take j = a at *
    generalize hbb : (parts l).drop (j + 1) = b at *
    have hua : (secs a).flatten.length = upto l j := by unfold upto; rw [← ha]; unfold secs; rw [List.map_take]
    have hleaf : leaf l = (headW ((secs (parts l)).map List.length) (firsts (parts l)) ++ (secs a).flatten) ++ sec1 p ++ (secs b).flatten := by
      rw [leaf_is]
      have : (secs (parts l)).flatten = (secs a).flatten ++ sec1 p ++ (secs b).flatten := by
        conv => lhs; rw [hps]
        simp [secs]
      conv => lhs; rhs; rw [this]
      simp only [List.append_assoc]
    have hpre : (headW ((secs (parts l)).map List.length) (firsts (parts l)) ++ (secs a).flatten).length = A := by rw [List.length_append, hh, hua, hAj]
    have hb2 : 2 ^ P * e < 2 ^ (8 * (sec1 p).length) := by
      rw [Nat.pow_add, Nat.mul_assoc, hus, show 8 * (68 + (upto l j + (sec1 p).length)) = 8 * A + 8 * (sec1 p).length by omega, Nat.pow_add] at hb
      exact Nat.lt_of_mul_lt_mul_left hb
    obtain ⟨s', e1, e2, e3⟩ := turn_part _ (sec1 p) (secs b).flatten y (2 ^ P * e) (by rw [hl, hleaf]) (by rw [hy, hpre, hleaf, Nat.pow_add, Nat.mul_assoc]) hb2
    obtain ⟨r1, r2⟩ := told_section h h16 a p b hps s' P e e2 e3 he0 he2 hb2 y (by rw [e1]; simp only [List.append_assoc])
    refine ⟨r1, fun i hi => ?_⟩
    obtain ⟨q1, q2⟩ := r2 (l[i]'hi) (List.getElem_mem hi)
    have hiff := part_iff h a p b hps i hi
    refine ⟨fun hc => q2 fun hx => ?_, fun hc => q1 (hiff.2 ?_)⟩
    · have := hiff.1 hx; omega
    · rcases hc with hc | hc
      · omega
      · omega
theorem flat_small : ∀ (L : List (List UInt8)), (∀ s ∈ L.map List.length, s < 65536) → L.flatten.length ≤ 65536 * L.length
  | [], _ => by simp
  | x :: r, h => by
    rw [List.flatten_cons, List.length_append, List.length_cons]
    have h1 := flat_small r (fun s hs => h s (by rw [List.map_cons]; exact List.mem_cons_of_mem _ hs))
    have h2 := h x.length (by simp)
    omega
theorem leaf_small {l : Its} (h : Fine l) (h16 : l.length ≤ 16) : (leaf l).length ≤ 1000000 := by
  rw [leaf_len68 h h16]
  have h1 := flat_small (secs (parts l)) (secs_small (parts_fine h))
  have h2 : (secs (parts l)).length ≤ 4 := by have := parts_length l; simp [secs]; omega
  omega
end Go.Proofs.Ytolgpnaoaodepaa.Pr
