/- Plain mathematics of Told: bits that are turned in a leaf's first bytes, or in a section, are told. -/
import Derived.Test.YtolgpnaoaodepaaMathLm
import Derived.Test.YtolgpnaoaodepaaMathG
namespace Go.Proofs.Ytolgpnaoaodepaa.Pr
open Pg
theorem pow_lt_of {f e n : Nat} (h1 : e ≠ 0) (h : 2 ^ f * e < 2 ^ n) : f < n := by
  have : 2 ^ f ≤ 2 ^ f * e := Nat.le_mul_of_pos_right _ (by omega)
  exact (Nat.pow_lt_pow_iff_right (by decide)).1 (Nat.lt_of_le_of_lt this h)
theorem head_sealed (ss : List Nat) (ks : List (List UInt8)) : ∃ a, headW ss ks = sealed a := ⟨_, rfl⟩
theorem section_sealed (k c : List UInt8) : ∃ a, section_ k c = sealed a := by
  unfold section_
  split <;> exact ⟨_, rfl⟩
theorem headW_take (l : Its) (h : Fine l) (h16 : l.length ≤ 16) : (headW ((secs (parts l)).map List.length) (firsts (parts l))).length = 68 := by
  have hp := parts_fine h
  have hl : (parts l).length ≤ 4 := by have := parts_len (many l.length) l; unfold parts; unfold many at *; omega
  exact headW_len _ _ (by simp [secs, firsts]) (by simpa [secs] using hl) (okPivots_sz _ _ (firsts_fine _ hp))
/-- The first 68 bytes of a page are sealed. -/
theorem page_sealed {n : NodeT} (h : wellT n = true) : ∃ a r, pageT n = sealed a ++ r ∧ (sealed a).length = 68 := by
  obtain ⟨kd, il, cl, pl, ml⟩ := n
  unfold wellT well at h
  simp only at h
  by_cases hk : kd = 1
  · rw [if_pos hk] at h
    simp only [Bool.and_eq_true, decide_eq_true_eq, List.length_map] at h
    obtain ⟨⟨⟨⟨h1, h2⟩, _⟩, _⟩, _⟩ := h
    have hp : pageT (kd, il, cl, pl, ml) = leaf il := by subst hk; rfl
    have hf := (ok_fine il).1 h1
    have := headW_take il hf h2
    rw [hp, leaf_is]
    exact ⟨_, _, rfl, this⟩
  · rw [if_neg hk] at h
    simp only [Bool.and_eq_true, decide_eq_true_eq, List.length_map] at h
    obtain ⟨⟨⟨⟨⟨⟨⟨⟨_, _⟩, _⟩, h4⟩, _⟩, _⟩, _⟩, _⟩, _⟩ := h
    subst h4
    refine ⟨[83, 50, 73] ++ low ((cl.map Int.ofNat).map Int.toNat).length 1 ++ low (branchP ((cl.map Int.ofNat).map Int.toNat) pl).length 2 ++ low (branchM ml).length 2 ++ List.replicate 56 0, branchP ((cl.map Int.ofNat).map Int.toNat) pl ++ branchM ml, ?_, ?_⟩
    · show page 2 il (cl.map Int.ofNat) pl ml = _
      unfold page branch
      rw [if_pos rfl, List.append_assoc]
    · rw [seal_len]; simp [low_len]
theorem told_head {l : Its} (h : Fine l) (h16 : l.length ≤ 16) (q : List UInt8) (f e : Nat) (hl : q.length = (leaf l).length) (he : high q = high (leaf l) ^^^ 2 ^ f * e) (h1 : e ≠ 0) (h2 : e < 4294967296) (hb : 2 ^ f * e < 2 ^ (8 * 68)) : headR q = none ∧ readR q = none := by
  have hh := headW_take l h h16
  rw [leaf_is] at hl he
  obtain ⟨a, ha⟩ := head_sealed ((secs (parts l)).map List.length) (firsts (parts l))
  generalize headW ((secs (parts l)).map List.length) (firsts (parts l)) = x at *
  generalize (secs (parts l)).flatten = r at *
  obtain ⟨y, hy, hyl, hyh⟩ := turn_part [] x r q (2 ^ f * e) (by simpa using hl) (by simpa using he) (by rw [hh]; exact hb)
  rw [List.nil_append] at hy
  have hf : f ≤ 8 * x.length := by have := pow_lt_of h1 hb; omega
  have no : ∀ b, y = sealed b → False := fun b hb => crc_burst x y a b f e ha hb hyl hyh h1 h2 hf
  constructor
  · cases hr : headR q with
    | none => rfl
    | some z =>
      obtain ⟨_, e2, _⟩ := headR_is hr
      have : q.take 68 = y := by rw [hy, ← hh, ← hyl, List.take_left]
      rw [this] at e2
      obtain ⟨b, hb'⟩ := head_sealed z.1 z.2
      exact absurd (e2.symm.trans hb') (fun e => no b e)
  · cases hr : readR q with
    | none => rfl
    | some n =>
      obtain ⟨w1, w2⟩ := readR_is hr
      obtain ⟨b, r', e1, e2⟩ := page_sealed w1
      rw [w2, hy] at e1
      have := (List.append_inj e1 (by omega)).1
      exact absurd this (fun e => no b e)
theorem parts_get : ∀ (f : Nat) (l : Its) (i : Nat) (hi : i < l.length), l.length ≤ 4 * f → ∃ a p b, partsN f l = a ++ p :: b ∧ a.length = i / 4 ∧ l[i]'hi ∈ p
  | 0, l, i, hi, h => by omega
  | f + 1, l, i, hi, h => by
    have hl : l ≠ [] := by rintro rfl; simp at hi
    rw [partsN, if_neg hl]
    by_cases h4 : i < 4
    · refine ⟨[], l.take 4, partsN f (l.drop 4), rfl, by simp; omega, ?_⟩
      have : i < (l.take 4).length := by rw [List.length_take]; omega
      have e : (l.take 4)[i]'this = l[i]'hi := List.getElem_take
      rw [← e]; exact List.getElem_mem _
    · have hd : i - 4 < (l.drop 4).length := by rw [List.length_drop]; omega
      obtain ⟨a, p, b, h1, h2, h3⟩ := parts_get f (l.drop 4) (i - 4) hd (by rw [List.length_drop]; omega)
      refine ⟨l.take 4 :: a, p, b, by rw [h1]; rfl, by rw [List.length_cons]; omega, ?_⟩
      have e : (l.drop 4)[i - 4]'hd = l[i]'hi := by rw [List.getElem_drop]; congr 1; omega
      rw [← e]; exact h3
theorem findN_at {ps : List Its} {a : List Its} {p : Its} {b : List Its} (h : Parts ps) (e : ps = a ++ p :: b) {x : List UInt8 × List UInt8} (hx : x ∈ p) : findN (firsts ps) x.1 ps.length = (a.length : Int) := by
  obtain ⟨s1, s2⟩ := findN_spec (firsts ps) x.1 ps.length
  have hlt := findN_lt (firsts ps) x.1 ps.length
  have hal : a.length < ps.length := by rw [e]; simp
  have hpa : ps[a.length]'hal = p := by simp [e]
  have hp : p ∈ ps := by rw [e]; simp
  have hf : Fine p := h.2.sub (List.sublist_flatten_of_mem hp)
  have n1 : ¬ x.1 < first1 p := first_le hf hx
  have n2 : ∀ k (hk : k < ps.length), a.length < k → x.1 < first1 (ps[k]'hk) := fun k hk hak => by
    have hq : ps[k]'hk ∈ b := by
      have : (a ++ p :: b)[k]? = some (ps[k]'hk) := by rw [← e]; exact List.getElem?_eq_getElem hk
      rw [List.getElem?_append_right (by omega)] at this
      obtain ⟨m, hm⟩ : ∃ m, k - a.length = m + 1 := ⟨k - a.length - 1, by omega⟩
      rw [hm, List.getElem?_cons_succ] at this
      exact List.mem_of_getElem? this
    obtain ⟨y, hy, ey⟩ := first_mem (h.1 (ps[k]'hk) (List.getElem_mem hk)).1
    have h2 : Parts (p :: b) := ⟨fun r hr => h.1 r (by rw [e]; exact List.mem_append.2 (.inr hr)), h.2.sub (by rw [e, List.flatten_append]; exact List.sublist_append_right _ _)⟩
    rw [← ey]
    exact h2.across x hx y (List.mem_flatten.2 ⟨_, hq, hy⟩)
  have c1 : ¬ findN (firsts ps) x.1 ps.length < (a.length : Int) := fun hlt2 => by
    have := s1 a.length hlt2 hal
    rw [firsts_get hal, hpa] at this
    exact n1 this
  have c2 : ¬ (a.length : Int) < findN (firsts ps) x.1 ps.length := fun hlt2 => by
    obtain ⟨k, hk⟩ : ∃ k : Nat, findN (firsts ps) x.1 ps.length = (k : Int) := ⟨(findN (firsts ps) x.1 ps.length).toNat, by omega⟩
    have hkl : k < ps.length := by omega
    have := s2 k hk
    rw [firsts_get hkl] at this
    exact this (n2 k hkl (by omega))
  omega
theorem valueOf_at : ∀ (l : Its), Fine l → ∀ x ∈ l, valueOf x.1 l = some x.2
  | [], _, x, hx => by simp at hx
  | y :: r, hf, x, hx => by
    rw [valueOf]
    rcases List.mem_cons.1 hx with rfl | hx
    · rw [if_pos rfl]
    · have := (List.pairwise_cons.1 hf.2).1 x hx
      rw [if_neg (fun e => by rw [e] at this; exact lt_ir _ this)]
      exact valueOf_at r ⟨fun z hz => hf.1 z (by simp [hz]), (List.pairwise_cons.1 hf.2).2⟩ x hx
/-- A section is turned: what is read of the page. -/
theorem told_section {l : Its} (h : Fine l) (h16 : l.length ≤ 16) (a : List Its) (p : Its) (b : List Its) (hps : parts l = a ++ p :: b) (s' : List UInt8) (f e : Nat) (hl : s'.length = (sec1 p).length) (he : high s' = high (sec1 p) ^^^ 2 ^ f * e) (h1 : e ≠ 0) (h2 : e < 4294967296) (hb : 2 ^ f * e < 2 ^ (8 * (sec1 p).length)) (q : List UInt8) (hq : q = headW ((secs (parts l)).map List.length) (firsts (parts l)) ++ ((secs a).flatten ++ s' ++ (secs b).flatten)) :
    readR q = none ∧ ∀ x ∈ l, (x ∈ p → fetchR q x.1 = none) ∧ (x ∉ p → fetchR q x.1 = some (some x.2)) := by
  have hp := parts_fine h
  have hl4 : (parts l).length ≤ 4 := by have := parts_len (many l.length) l; unfold parts; unfold many at *; omega
  have hh := headW_take l h h16
  have hfl : (parts l).flatten = l := parts_flat _ _ (by unfold many; omega)
  obtain ⟨z, hz⟩ := section_sealed [98] (basement p)
  have hf : f ≤ 8 * (sec1 p).length := by have := pow_lt_of h1 hb; omega
  have no : ∀ y, s' = sealed y → False := fun y hy => crc_burst (sec1 p) s' z y f e hz hy hl he h1 h2 hf
  have nos : ∀ c, section_ [98] c ≠ s' := fun c ec => by obtain ⟨y, hy⟩ := section_sealed [98] c; exact no y (ec.symm.trans hy)
  have hsec : secR 98 s' = none := by
    cases hr : secR 98 s' with
    | none => rfl
    | some c => exact absurd (secR_is hr) (nos c)
  have hflat : (secs a).flatten ++ s' ++ (secs b).flatten = (secs a ++ s' :: secs b).flatten := by rw [List.flatten_append, List.flatten_cons, List.append_assoc]
  have hlens : (secs (parts l)).map List.length = (secs a ++ s' :: secs b).map List.length := by rw [hps]; simp [secs, hl]
  have hhead : headR q = some ((secs (parts l)).map List.length, firsts (parts l)) := by
    rw [hq]; exact headR_headW _ _ _ (by simp [secs, firsts]) (by simpa [secs] using hl4) (secs_small hp) (firsts_fine _ hp)
  have hcut : cutR q ((secs (parts l)).map List.length) = some (secs a ++ s' :: secs b) := by
    rw [hq, hflat]
    generalize hW : headW ((secs (parts l)).map List.length) (firsts (parts l)) = W at *
    rw [hlens]
    exact cutR_flat W _ hh
  refine ⟨?_, fun x hx => ?_⟩
  · cases hr : readR q with
    | none => rfl
    | some n =>
      exfalso
      have hei : ∃ m, eitherR q = some m := by
        unfold readR at hr
        rw [Option.bind_eq_some_iff] at hr
        obtain ⟨m, hm, _⟩ := hr
        exact ⟨m, hm⟩
      obtain ⟨m, hm⟩ := hei
      have ht : q.take 3 = [83, 50, 76] := by rw [hq]; unfold headW sealed; simp
      unfold eitherR at hm
      rw [if_neg (by rw [ht]; decide)] at hm
      unfold lfO leafR at hm
      rw [hhead] at hm
      simp only [Option.bind_some] at hm
      rw [hcut] at hm
      simp only [Option.bind_some] at hm
      have key : ∀ (c : List (List UInt8)) (i : Nat), s' ∈ c → basesR (firsts (parts l)) i c = none := by
        intro c
        induction c with
        | nil => intro i hc; simp at hc
        | cons y r ih =>
          intro i hc
          rw [basesR]
          rcases List.mem_cons.1 hc with rfl | hc
          · unfold basementR; rw [hsec]; rfl
          · cases basementR (firsts (parts l)) i y with
            | none => rfl
            | some v => simp only [Option.bind_some]; rw [ih (i + 1) hc]; rfl
      rw [key _ 0 (by simp)] at hm
      simp at hm
  · have hlen : (firsts (parts l)).length = (parts l).length := by simp [firsts]
    have hval : valueOf x.1 l = some x.2 := valueOf_at l h x hx
    constructor
    · intro hxp
      have hfn := findN_at hp hps hxp
      unfold fetchR
      rw [hhead]
      simp only [Option.bind_some]
      rw [hcut]
      simp only [Option.bind_some, hlen]
      rw [if_neg (by omega), hfn, Int.toNat_natCast]
      have : (secs a ++ s' :: secs b).getD a.length [] = s' := by
        rw [List.getD_eq_getElem?_getD, List.getElem?_append_right (by simp [secs])]; simp [secs]
      rw [this]
      unfold basementR
      rw [hsec]; rfl
    · intro hxp
      rw [← hfl] at hx
      obtain ⟨p2, hp2, hx2⟩ := List.mem_flatten.1 hx
      obtain ⟨k, hk, hkp⟩ := List.getElem_of_mem hp2
      have e2 : parts l = (parts l).take k ++ p2 :: (parts l).drop (k + 1) := by
        rw [← hkp, ← List.drop_eq_getElem_cons hk, List.take_append_drop]
      have hfn := findN_at hp e2 hx2
      have hka : ((parts l).take k).length = k := by rw [List.length_take]; omega
      have hne : k ≠ a.length := by
        rintro rfl
        have : (parts l)[a.length]'hk = p := by simp [hps]
        rw [this] at hkp
        exact hxp (hkp ▸ hx2)
      have hbase := bas_at ((parts l).take k) p2 ((parts l).drop (k + 1)) (by rw [← e2]; exact hp)
      rw [← e2, hka] at hbase
      have hget : (secs a ++ s' :: secs b).getD k [] = sec1 p2 := by
        have hk1 : (secs (parts l))[k]? = some (sec1 p2) := by unfold secs; rw [List.getElem?_map, List.getElem?_eq_getElem hk, hkp]; rfl
        rw [hps] at hk1
        unfold secs at hk1 ⊢
        rw [List.map_append, List.map_cons] at hk1
        rw [List.getD_eq_getElem?_getD]
        rcases Nat.lt_or_ge k a.length with hlt | hge
        · rw [List.getElem?_append_left (by simpa using hlt)] at hk1 ⊢
          rw [hk1]; rfl
        · rw [List.getElem?_append_right (by simpa using hge)] at hk1 ⊢
          obtain ⟨m, hm⟩ : ∃ m, k - (List.map sec1 a).length = m + 1 := ⟨k - a.length - 1, by rw [List.length_map]; omega⟩
          rw [hm, List.getElem?_cons_succ] at hk1 ⊢
          rw [hk1]; rfl
      have hold := fetchR_leaf h h16 x.1
      rw [hval] at hold
      unfold fetchR at hold ⊢
      rw [headR_leaf h h16] at hold
      rw [hhead]
      simp only [Option.bind_some] at hold ⊢
      rw [cutR_leaf h h16] at hold
      rw [hcut]
      simp only [Option.bind_some, hlen] at hold ⊢
      rw [hfn, hka] at hold ⊢
      rw [if_neg (by omega), Int.toNat_natCast] at hold ⊢
      rw [hget, hbase]
      have hg2 : (secs (parts l)).getD k [] = sec1 p2 := by
        unfold secs; rw [List.getD_eq_getElem?_getD, List.getElem?_map, List.getElem?_eq_getElem hk, hkp]; rfl
      rw [hg2, hbase] at hold
      exact hold
end Go.Proofs.Ytolgpnaoaodepaa.Pr
