/- Plain mathematics: a branch's page; whatever is a page is one node's. -/
import Derived.Test.YtolgpnaoaodepaaMathL
namespace Go.Proofs.Ytolgpnaoaodepaa.Pr
open Pg
theorem text_small (s : List UInt8) (h : s.length < 128) : (text s).length = s.length + 1 := by
  unfold text
  rw [List.length_append]
  have : (num s.length).length = 1 := by rw [num_small _ h, low_len]
  omega
theorem change1_len {c : Int × List UInt8 × List UInt8} (h : okChange c = true) : (change1 c).length ≤ 31 := by
  simp only [okChange, isChange, Bool.and_eq_true, Bool.or_eq_true, decide_eq_true_eq] at h
  have hk := isKey_le h.1.1
  have h1 := text_small c.2.1 (by omega)
  have h2 := text_small c.2.2 (by omega)
  unfold change1
  rw [List.length_append, List.length_append, low_len]
  split
  · simp; omega
  · omega
theorem changes_small (l : List (Int × List UInt8 × List UInt8)) (h : ∀ c ∈ l, okChange c = true) : (changes l).length ≤ 1 + 31 * l.length := by
  unfold changes
  rw [List.length_append, low_len]
  have : (l.flatMap change1).length ≤ 31 * l.length := by
    induction l with
    | nil => simp
    | cons x r ih =>
      rw [List.flatMap_cons, List.length_append, List.length_cons]
      have h1 := change1_len (h x (by simp))
      have h2 := ih fun y hy => h y (by simp [hy])
      omega
  omega
theorem pivotsC_small (cl : List Nat) (pl : List (List UInt8)) (hc : ∀ c ∈ cl, c ≤ 2147483647) (hp : ∀ p ∈ pl, p.length ≤ 12) : (pivotsC cl pl).length ≤ 5 * cl.length + 13 * pl.length := by
  unfold pivotsC
  rw [List.length_append]
  have h1 : (cl.flatMap num).length ≤ 5 * cl.length := by
    induction cl with
    | nil => simp
    | cons x r ih =>
      rw [List.flatMap_cons, List.length_append, List.length_cons]
      have h1 := num_len x (by have := hc x (by simp); omega)
      have h2 := ih fun y hy => hc y (by simp [hy])
      omega
  have h2 : (pl.flatMap text).length ≤ 13 * pl.length := by
    induction pl with
    | nil => simp
    | cons x r ih =>
      rw [List.flatMap_cons, List.length_append, List.length_cons]
      have h1 := text_small x (by have := hp x (by simp); omega)
      have h2 := ih fun y hy => hp y (by simp [hy])
      have := hp x (by simp)
      omega
  omega
theorem shortR_low (n : Nat) (t : List UInt8) (h : n < 65536) : shortR (low n 2 ++ t) = some (n, t) := by
  unfold shortR
  have := takeR_append (low n 2) t
  rw [low_len] at this
  rw [this]
  simp only [Option.map_some]
  rw [high_low 2 n (by simpa using h)]
theorem branchR_branch (cl : List Nat) (pl : List (List UInt8)) (ml : List (Int × List UInt8 × List UInt8)) (hc : ∀ c ∈ cl, c ≤ 2147483647) (hp : ∀ p ∈ pl, p.length ≤ 12) (hm : ∀ c ∈ ml, okChange c = true) (h4 : cl.length ≤ 4) (hl : pl.length + 1 = cl.length) (h8 : ml.length ≤ 8) : branchR (branch cl pl ml) = some (cl, pl, ml) := by
  have s1 := pivotsC_small cl pl hc hp
  have s2 := changes_small ml hm
  have l1 := section_len [112] (pivotsC cl pl) (by omega)
  have l2 := section_len [109] (changes ml) (by omega)
  have q1 : ([112] : List UInt8).length = 1 := rfl
  have q2 : ([109] : List UInt8).length = 1 := rfl
  have r1 := secR_section 112 (pivotsC cl pl) (by omega)
  have r2 := secR_section 109 (changes ml) (by omega)
  have r3 := childrenR_is cl pl hc hp hl
  have r4 := chgsR_changes ml [] (by omega) (fun c hcm => by
    have := hm c hcm
    simp only [okChange, isChange, Bool.and_eq_true, Bool.or_eq_true, decide_eq_true_eq] at this
    have hk := isKey_le this.1.1
    refine ⟨?_, hk, this.1.2⟩
    rcases this.2 with (h | h) | h
    · exact .inl h
    · exact .inr (.inl h)
    · exact .inr (.inr ⟨h.1, List.length_eq_zero_iff.1 h.2⟩))
  rw [List.append_nil] at r4
  have hP : branchP cl pl = section_ [112] (pivotsC cl pl) := rfl
  have hM : branchM ml = section_ [109] (changes ml) := rfl
  have e : branch cl pl ml = sealed ([83, 50, 73] ++ low cl.length 1 ++ low (branchP cl pl).length 2 ++ low (branchM ml).length 2 ++ List.replicate 56 0) ++ [branchP cl pl, branchM ml].flatten := by
    unfold branch; simp
  have hlen : (sealed ([83, 50, 73] ++ low cl.length 1 ++ low (branchP cl pl).length 2 ++ low (branchM ml).length 2 ++ List.replicate 56 0)).length = 68 := by
    rw [seal_len]; simp [low_len]
  have hcut := cutR_flat _ [branchP cl pl, branchM ml] hlen
  rw [← e] at hcut
  obtain ⟨rest, e2⟩ : ∃ rest, branch cl pl ml = [83, 50, 73] ++ (UInt8.ofNat (cl.length % 256) :: (low (branchP cl pl).length 2 ++ (low (branchM ml).length 2 ++ rest))) := by
    refine ⟨List.replicate 56 0 ++ (low (crc ([83, 50, 73] ++ low cl.length 1 ++ low (branchP cl pl).length 2 ++ low (branchM ml).length 2 ++ List.replicate 56 0)) 4 ++ (branchP cl pl ++ branchM ml)), ?_⟩
    unfold branch sealed
    generalize crc ([83, 50, 73] ++ low cl.length 1 ++ low (branchP cl pl).length 2 ++ low (branchM ml).length 2 ++ List.replicate 56 0) = c
    generalize branchP cl pl = P
    generalize branchM ml = M
    simp [low]
  unfold branchR
  have h1 : takeR 3 (branch cl pl ml) = some ([83, 50, 73], UInt8.ofNat (cl.length % 256) :: (low (branchP cl pl).length 2 ++ (low (branchM ml).length 2 ++ rest))) := by
    rw [e2]; exact takeR_append [83, 50, 73] _
  have hb : (UInt8.ofNat (cl.length % 256)).toNat = cl.length := by rw [UInt8.toNat_ofNat']; omega
  rw [h1]
  simp only [Option.bind_some, byteR]
  rw [shortR_low _ _ (by rw [hP]; omega)]
  simp only [Option.bind_some]
  rw [shortR_low _ _ (by rw [hM]; omega)]
  simp only [Option.bind_some]
  have hcut' : cutR (branch cl pl ml) [(branchP cl pl).length, (branchM ml).length] = some [branchP cl pl, branchM ml] := hcut
  rw [hcut']
  simp only [Option.bind_some, List.getD_cons_zero, List.getD_cons_succ]
  rw [hP, r1]
  simp only [Option.bind_some, hb]
  rw [r3]
  simp only [Option.bind_some]
  rw [hM, r2]
  simp only [Option.bind_some]
  rw [r4]
  simp
/-- What is written of a node is read. -/
theorem readR_page {n : NodeT} (h : wellT n = true) : readR (pageT n) = some n := by
  have key : eitherR (pageT n) = some n := by
    obtain ⟨kd, il, cl, pl, ml⟩ := n
    unfold wellT well at h
    simp only at h
    by_cases hk : kd = 1
    · rw [if_pos hk] at h
      simp only [Bool.and_eq_true, decide_eq_true_eq, List.length_map] at h
      obtain ⟨⟨⟨⟨h1, h2⟩, h3⟩, h4⟩, h5⟩ := h
      have e3 := List.length_eq_zero_iff.1 h3
      have e4 := List.length_eq_zero_iff.1 h4
      have e5 := List.length_eq_zero_iff.1 h5
      subst hk e3 e4 e5
      have hp : pageT (1, il, [], [], []) = leaf il := rfl
      have hf := (ok_fine il).1 h1
      have ht : (leaf il).take 3 = [83, 50, 76] := by unfold leaf sealed; simp
      unfold eitherR
      rw [hp, ht, if_neg (by decide), leafR_leaf hf h2]
      rfl
    · rw [if_neg hk] at h
      simp only [Bool.and_eq_true, decide_eq_true_eq, List.length_map] at h
      obtain ⟨⟨⟨⟨⟨⟨⟨⟨h1, h2⟩, h3⟩, h4⟩, h5⟩, h6⟩, h7⟩, h8⟩, h9⟩ := h
      have e5 := List.length_eq_zero_iff.1 h5
      subst h4 e5
      have hm : (cl.map Int.ofNat).map Int.toNat = cl := by rw [List.map_map]; exact List.map_id' _ |>.trans rfl
      have hp : pageT (2, [], cl, pl, ml) = branch cl pl ml := by
        show page 2 [] (cl.map Int.ofNat) pl ml = _
        unfold page
        rw [if_pos rfl, hm]
      have ht : (branch cl pl ml).take 3 = [83, 50, 73] := by unfold branch sealed; simp
      have hc : ∀ c ∈ cl, c ≤ 2147483647 := fun c hc => by
        have := List.all_eq_true.1 h2 (Int.ofNat c) (List.mem_map.2 ⟨c, hc, rfl⟩)
        simp only [okChild, Bool.and_eq_true, decide_eq_true_eq] at this
        have := this.2
        simp only [Int.ofNat_eq_natCast] at this
        omega
      unfold eitherR
      rw [hp, if_pos ht, branchR_branch cl pl ml hc (okPivots_sz _ _ h1) (fun c hc => List.all_eq_true.1 h3 c hc) h7 h8 h9]
      rfl
  unfold readR
  rw [key]
  simp only [Option.bind_some, h, if_true]
end Go.Proofs.Ytolgpnaoaodepaa.Pr
