/- Plain mathematics of Told: bits that are turned in a leaf's first bytes, or in a section, are told. -/
import Derived.Test.YtolgpnaoaodepaaMathLm
import Derived.Test.YtolgpnaoaodepaaMathG
namespace Go.Proofs.Ytolgpnaoaodepaa.Pr
open Pg
theorem pow_lt_of {f e n : Nat} (h1 : e ≠ 0) (h : 2 ^ f * e < 2 ^ n) : f < n := by
  have : 2 ^ f ≤ 2 ^ f * e := Nat.le_mul_of_pos_right _ (by omega)
  exact (Nat.pow_lt_pow_iff_right (by decide)).1 (Nat.lt_of_le_of_lt this h)
theorem head_sealed (ss : List Nat) (ks : List (List UInt8)) : ∃ a, headW ss ks = sealed a := ⟨_, rfl⟩
theorem section_sealed (k c : List UInt8) : ∃ a, section_ k c = sealed a := by
  unfold section_
  split <;> exact ⟨_, rfl⟩
theorem headW_take (l : Its) (h : Fine l) (h16 : l.length ≤ 16) : (headW ((secs (parts l)).map List.length) (firsts (parts l))).length = 68 := by
  have hp := parts_fine h
  have hl : (parts l).length ≤ 4 := by have := parts_len (many l.length) l; unfold parts; unfold many at *; omega
  exact headW_len _ _ (by simp [secs, firsts]) (by simpa [secs] using hl) (okPivots_sz _ _ (firsts_fine _ hp))
/-- The first 68 bytes of a page are sealed. -/
theorem page_sealed {n : NodeT} (h : wellT n = true) : ∃ a r, pageT n = sealed a ++ r ∧ (sealed a).length = 68 := by
  obtain ⟨kd, il, cl, pl, ml⟩ := n
  unfold wellT well at h
  simp only at h
  by_cases hk : kd = 1
  · rw [if_pos hk] at h
    simp only [Bool.and_eq_true, decide_eq_true_eq, List.length_map] at h
    obtain ⟨⟨⟨⟨h1, h2⟩, _⟩, _⟩, _⟩ := h
    have hp : pageT (kd, il, cl, pl, ml) = leaf il := by subst hk; rfl
    have hf := (ok_fine il).1 h1
    have := headW_take il hf h2
    rw [hp, leaf_is]
    exact ⟨_, _, rfl, this⟩
  · rw [if_neg hk] at h
    simp only [Bool.and_eq_true, decide_eq_true_eq, List.length_map] at h
    obtain ⟨⟨⟨⟨⟨⟨⟨⟨_, _⟩, _⟩, h4⟩, _⟩, _⟩, _⟩, _⟩, _⟩ := h
    subst h4
    refine ⟨[83, 50, 73] ++ low ((cl.map Int.ofNat).map Int.toNat).length 1 ++ low (branchP ((cl.map Int.ofNat).map Int.toNat) pl).length 2 ++ low (branchM ml).length 2 ++ List.replicate 56 0, branchP ((cl.map Int.ofNat).map Int.toNat) pl ++ branchM ml, ?_, ?_⟩
    · show page 2 il (cl.map Int.ofNat) pl ml = _
      unfold page branch
      rw [if_pos rfl, List.append_assoc]
    · rw [seal_len]; simp [low_len]
theorem told_head {l : Its} (h : Fine l) (h16 : l.length ≤ 16) (q : List UInt8) (f e : Nat) (hl : q.length = (leaf l).length) (he : high q = high (leaf l) ^^^ 2 ^ f * e) (h1 : e ≠ 0) (h2 : e < 4294967296) (hb : 2 ^ f * e < 2 ^ (8 * 68)) : headR q = none ∧ readR q = none := by
  have hh := headW_take l h h16
  rw [leaf_is] at hl he
  obtain ⟨a, ha⟩ := head_sealed ((secs (parts l)).map List.length) (firsts (parts l))
  generalize headW ((secs (parts l)).map List.length) (firsts (parts l)) = x at *
  generalize (secs (parts l)).flatten = r at *
  obtain ⟨y, hy, hyl, hyh⟩ := turn_part [] x r q (2 ^ f * e) (by simpa using hl) (by simpa using he) (by rw [hh]; exact hb)
  rw [List.nil_append] at hy
  have hf : f ≤ 8 * x.length := by have := pow_lt_of h1 hb; omega
  have no : ∀ b, y = sealed b → False := fun b hb => crc_burst x y a b f e ha hb hyl hyh h1 h2 hf
  constructor
  · cases hr : headR q with
    | none => rfl
    | some z =>
      obtain ⟨_, e2, _⟩ := headR_is hr
      have : q.take 68 = y := by rw [hy, ← hh, ← hyl, List.take_left]
      rw [this] at e2
      obtain ⟨b, hb'⟩ := head_sealed z.1 z.2
      exact absurd (e2.symm.trans hb') (fun e => no b e)
  · cases hr : readR q with
    | none => rfl
    | some n =>
      obtain ⟨w1, w2⟩ := readR_is hr
      obtain ⟨b, r', e1, e2⟩ := page_sealed w1
      rw [w2, hy] at e1
      have := (List.append_inj e1 (by omega)).1
      exact absurd this (fun e => no b e)
theorem parts_get : ∀ (f : Nat) (l : Its) (i : Nat) (hi : i < l.length), l.length ≤ 4 * f → ∃ a p b, partsN f l = a ++ p :: b ∧ a.length = i / 4 ∧ l[i]'hi ∈ p
  | 0, l, i, hi, h => by omega
  | f + 1, l, i, hi, h => by
    have hl : l ≠ [] := by rintro rfl; simp at hi
    rw [partsN, if_neg hl]
    by_cases h4 : i < 4
    · refine ⟨[], l.take 4, partsN f (l.drop 4), rfl, by simp; omega, ?_⟩
      have : i < (l.take 4).length := by rw [List.length_take]; omega
      have e : (l.take 4)[i]'this = l[i]'hi := List.getElem_take
      rw [← e]; exact List.getElem_mem _
    · have hd : i - 4 < (l.drop 4).length := by rw [List.length_drop]; omega
      obtain ⟨a, p, b, h1, h2, h3⟩ := parts_get f (l.drop 4) (i - 4) hd (by rw [List.length_drop]; omega)
      refine ⟨l.take 4 :: a, p, b, by rw [h1]; rfl, by rw [List.length_cons]; omega, ?_⟩
      have e : (l.drop 4)[i - 4]'hd = l[i]'hi := by rw [List.getElem_drop]; congr 1; omega
      rw [← e]; exact h3
theorem findN_at {ps : List Its} {a : List Its} {p : Its} {b : List Its} (h : Parts ps) (e : ps = a ++ p :: b) {x : List UInt8 × List UInt8} (hx : x ∈ p) : findN (firsts ps) x.1 ps.length = (a.length : Int) := by
  obtain ⟨s1, s2⟩ := findN_spec (firsts ps) x.1 ps.length
  have hlt := findN_lt (firsts ps) x.1 ps.length
  have hal : a.length < ps.length := by rw [e]; simp
  have hpa : ps[a.length]'hal = p := by simp [e]
  have hp : p ∈ ps := by rw [e]; simp
  have hf : Fine p := h.2.sub (List.sublist_flatten_of_mem hp)
  have n1 : ¬ x.1 < first1 p := first_le hf hx
  have n2 : ∀ k (hk : k < ps.length), a.length < k → x.1 < first1 (ps[k]'hk) := fun k hk hak => by
    have hq : ps[k]'hk ∈ b := by
      have : (a ++ p :: b)[k]? = some (ps[k]'hk) := by rw [← e]; exact List.getElem?_eq_getElem hk
      rw [List.getElem?_append_right (by omega)] at this
      obtain ⟨m, hm⟩ : ∃ m, k - a.length = m + 1 := ⟨k - a.length - 1, by omega⟩
      rw [hm, List.getElem?_cons_succ] at this
      exact List.mem_of_getElem? this
    obtain ⟨y, hy, ey⟩ := first_mem (h.1 (ps[k]'hk) (List.getElem_mem hk)).1
    have h2 : Parts (p :: b) := ⟨fun r hr => h.1 r (by rw [e]; exact List.mem_append.2 (.inr hr)), h.2.sub (by rw [e, List.flatten_append]; exact List.sublist_append_right _ _)⟩
    rw [← ey]
    exact h2.across x hx y (List.mem_flatten.2 ⟨_, hq, hy⟩)
  have c1 : ¬ findN (firsts ps) x.1 ps.length < (a.length : Int) := fun hlt2 => by
    have := s1 a.length hlt2 hal
    rw [firsts_get hal, hpa] at this
    exact n1 this
  have c2 : ¬ (a.length : Int) < findN (firsts ps) x.1 ps.length := fun hlt2 => by
    obtain ⟨k, hk⟩ : ∃ k : Nat, findN (firsts ps) x.1 ps.length = (k : Int) := ⟨(findN (firsts ps) x.1 ps.length).toNat, by omega⟩
    have hkl : k < ps.length := by omega
    have := s2 k hk
    rw [firsts_get hkl] at this
    exact this (n2 k hkl (by omega))
  omega
theorem valueOf_at : ∀ (l : Its), Fine l → ∀ x ∈ l, valueOf x.1 l = some x.2
  | [], _, x, hx => by simp at hx
  | y :: r, hf, x, hx => by
    rw [valueOf]
    rcases List.mem_cons.1 hx with rfl | hx
    · rw [if_pos rfl]
    · have := (List.pairwise_cons.1 hf.2).1 x hx
      rw [if_neg (fun e => by rw [e] at this; exact lt_ir _ this)]
      exact valueOf_at r ⟨fun z hz => hf.1 z (by simp [hz]), (List.pairwise_cons.1 hf.2).2⟩ x hx
/-- A section is turned: what is read of the page. -/
theorem told_section {l : Its} (h : Fine l) (h16 : l.length ≤ 16) (a : List Its) (p : Its) (b : List Its) (hps : parts l = a ++ p :: b) (s' : List UInt8) (f e : Nat) (hl : s'.length = (sec1 p).length) (he : high s' = high (sec1 p) ^^^ 2 ^ f * e) (h1 : e ≠ 0) (h2 : e < 4294967296) (hb : 2 ^ f * e < 2 ^ (8 * (sec1 p).length)) (q : List UInt8) (hq : q = headW ((secs (parts l)).map List.length) (firsts (parts l)) ++ ((secs a).flatten ++ s' ++ (secs b).flatten)) :
    readR q = none ∧ ∀ x ∈ l, (x ∈ p → fetchR q x.1 = none) ∧ (x ∉ p → fetchR q x.1 = some (some x.2)) := by
  have hp := parts_fine h
  have hl4 : (parts l).length ≤ 4 := by have := parts_len (many l.length) l; unfold parts; unfold many at *; omega
  have hh := headW_take l h h16
  have hfl : (parts l).flatten = l := parts_flat _ _ (by unfold many; omega)
  obtain ⟨z, hz⟩ := section_sealed [98] (basement p)
  have hf : f ≤ 8 * (sec1 p).length := by have := pow_lt_of h1 hb; omega
  have no : ∀ y, s' = sealed y → False := fun y hy => crc_burst (sec1 p) s' z y f e hz hy hl he h1 h2 hf
  have nos : ∀ c, section_ [98] c ≠ s' := fun c ec => by obtain ⟨y, hy⟩ := section_sealed [98] c; exact no y (ec.symm.trans hy)
  have hsec : secR 98 s' = none := by
    cases hr : secR 98 s' with
    | none => rfl
    | some c => exact absurd (secR_is hr) (nos c)
  have hflat : (secs a).flatten ++ s' ++ (secs b).flatten = (secs a ++ s' :: secs b).flatten := by rw [List.flatten_append, List.flatten_cons, List.append_assoc]
  have hlens : (secs (parts l)).map List.length = (secs a ++ s' :: secs b).map List.length := by rw [hps]; simp [secs, hl]
  have hhead : headR q = some ((secs (parts l)).map List.length, firsts (parts l)) := by
    rw [hq]; exact headR_headW _ _ _ (by simp [secs, firsts]) (by simpa [secs] using hl4) (secs_small hp) (firsts_fine _ hp)
  have hcut : cutR q ((secs (parts l)).map List.length) = some (secs a ++ s' :: secs b) := by
    rw [hq, hflat]
    generalize hW : headW ((secs (parts l)).map List.length) (firsts (parts l)) = W at *
    rw [hlens]
    exact cutR_flat W _ hh
  refine ⟨?_, fun x hx => ?_⟩
  · cases hr : readR q with
    | none => rfl
    | some n =>
      exfalso
      have hei : ∃ m, eitherR q = some m := by
        unfold readR at hr
        rw [Option.bind_eq_some_iff] at hr
        obtain ⟨m, hm, _⟩ := hr
        exact ⟨m, hm⟩
      obtain ⟨m, hm⟩ := hei
      have ht : q.take 3 = [83, 50, 76] := by rw [hq]; unfold headW sealed; simp
      unfold eitherR at hm
      rw [if_neg (by rw [ht]; decide)] at hm
      unfold lfO leafR at hm
      rw [hhead] at hm
      simp only [Option.bind_some] at hm
      rw [hcut] at hm
      simp only [Option.bind_some] at hm
      have key : ∀ (c : List (List UInt8)) (i : Nat), s' ∈ c → basesR (firsts (parts l)) i c = none := by
        intro c
        induction c with
        | nil => intro i hc; simp at hc
        | cons y r ih =>
          intro i hc
          rw [basesR]
          rcases List.mem_cons.1 hc with rfl | hc
          · unfold basementR; rw [hsec]; rfl
          · cases basementR (firsts (parts l)) i y with
            | none => rfl
            | some v => simp only [Option.bind_some]; rw [ih (i + 1) hc]; rfl
      rw [key _ 0 (by simp)] at hm
      simp at hm
  · have hlen : (firsts (parts l)).length = (parts l).length := by simp [firsts]
    have hval : valueOf x.1 l = some x.2 := valueOf_at l h x hx
    constructor
    · intro hxp
      have hfn := findN_at hp hps hxp
      unfold fetchR
      rw [hhead]
      simp only [Option.bind_some]
      rw [hcut]
      simp only [Option.bind_some, hlen]
      rw [if_neg (by omega), hfn, Int.toNat_natCast]
      have : (secs a ++ s' :: secs b).getD a.length [] = s' := by
        rw [List.getD_eq_getElem?_getD, List.getElem?_append_right (by simp [secs])]; simp [secs]
      rw [this]
      unfold basementR
      rw [hsec]; rfl
    · intro hxp
      rw [← hfl] at hx
      obtain ⟨p2, hp2, hx2⟩ := List.mem_flatten.1 hx
      obtain ⟨k, hk, hkp⟩ := List.getElem_of_mem hp2
      have e2 : parts l = (parts l).take k ++ p2 :: (parts l).drop (k + 1) := by
        rw [← hkp, ← List.drop_eq_getElem_cons hk, List.take_append_drop]
      have hfn := findN_at hp e2 hx2
      have hka : ((parts l).take k).length = k := by rw [List.length_take]; omega
      have hne : k ≠ a.length := by
        rintro rfl
        have : (parts l)[a.length]'hk = p := by simp [hps]
        rw [this] at hkp
        exact hxp (hkp ▸ hx2)
      have hbase := bas_at ((parts l).take k) p2 ((parts l).drop (k + 1)) (by rw [← e2]; exact hp)
      rw [← e2, hka] at hbase
      have hget : (secs a ++ s' :: secs b).getD k [] = sec1 p2 := by
        have hk1 : (secs (parts l))[k]? = some (sec1 p2) := by unfold secs; rw [List.getElem?_map, List.getElem?_eq_getElem hk, hkp]; rfl
        rw [hps] at hk1
        unfold secs at hk1 ⊢
        rw [List.map_append, List.map_cons] at hk1
        rw [List.getD_eq_getElem?_getD]
        rcases Nat.lt_or_ge k a.length with hlt | hge
        · rw [List.getElem?_append_left (by simpa using hlt)] at hk1 ⊢
          rw [hk1]; rfl
        · rw [List.getElem?_append_right (by simpa using hge)] at hk1 ⊢
          obtain ⟨m, hm⟩ : ∃ m, k - (List.map sec1 a).length = m + 1 := ⟨k - a.length - 1, by rw [List.length_map]; omega⟩
          rw [hm, List.getElem?_cons_succ] at hk1 ⊢
          rw [hk1]; rfl
      have hold := fetchR_leaf h h16 x.1
      rw [hval] at hold
      unfold fetchR at hold ⊢
      rw [headR_leaf h h16] at hold
      rw [hhead]
      simp only [Option.bind_some] at hold ⊢
      rw [cutR_leaf h h16] at hold
      rw [hcut]
      simp only [Option.bind_some, hlen] at hold ⊢
      rw [hfn, hka] at hold ⊢
      rw [if_neg (by omega), Int.toNat_natCast] at hold ⊢
      rw [hget, hbase]
      have hg2 : (secs (parts l)).getD k [] = sec1 p2 := by
        unfold secs; rw [List.getD_eq_getElem?_getD, List.getElem?_map, List.getElem?_eq_getElem hk, hkp]; rfl
      rw [hg2, hbase] at hold
      exact hold
end Go.Proofs.Ytolgpnaoaodepaa.Pr
/- Plain mathematics: one bit of a text is turned. -/
namespace Go.Proofs.Ytolgpnaoaodepaa.Pr
open Pg
theorem mul_xor_pow (a b k : Nat) : 2 ^ k * (a ^^^ b) = (2 ^ k * a) ^^^ (2 ^ k * b) := by
  apply Nat.eq_of_testBit_eq
  intro i
  rw [Nat.testBit_xor, Nat.testBit_two_pow_mul, Nat.testBit_two_pow_mul, Nat.testBit_two_pow_mul, Nat.testBit_xor]
  by_cases h : k ≤ i <;> simp [h]
/-- Bit m of a text is turned. -/
def flip : List UInt8 → Nat → List UInt8
  | [], _ => []
  | b :: t, m => if m < 8 then UInt8.ofNat (b.toNat ^^^ 2 ^ m) :: t else b :: flip t (m - 8)
theorem flip_len : ∀ (l : List UInt8) (m : Nat), (flip l m).length = l.length
  | [], _ => rfl
  | b :: t, m => by rw [flip]; split <;> simp [flip_len t]
theorem flip_high : ∀ (l : List UInt8) (m : Nat), m < 8 * l.length → high (flip l m) = high l ^^^ 2 ^ m
  | [], m, h => by simp at h
  | b :: t, m, h => by
    have hb : b.toNat < 256 := b.toNat_lt
    rw [flip]
    by_cases hm : m < 8
    · rw [if_pos hm]
      have hp : 2 ^ m < 256 := by
        have : 2 ^ m < 2 ^ 8 := Nat.pow_lt_pow_right (by decide) hm
        simpa using this
      have hx : b.toNat ^^^ 2 ^ m < 256 := Nat.xor_lt_two_pow (n := 8) (by simpa using hb) (by simpa using hp)
      rw [high, high, UInt8.toNat_ofNat', Nat.mod_eq_of_lt (by simpa using hx), xor_up _ _ hx, xor_up _ _ hb, Nat.xor_assoc, Nat.xor_comm (2 ^ m), ← Nat.xor_assoc]
    · rw [if_neg hm]
      have ih := flip_high t (m - 8) (by rw [List.length_cons] at h; omega)
      rw [high, high, ih, xor_up _ _ hb, xor_up _ _ hb, show (256 : Nat) = 2 ^ 8 from rfl, mul_xor_pow, ← Nat.pow_add, show 8 + (m - 8) = m by omega, Nat.xor_assoc]
theorem flip_set : ∀ (l : List UInt8) (m : Nat) (h : m / 8 < l.length), flip l m = l.set (m / 8) (UInt8.ofNat ((l[m / 8]'h).toNat ^^^ 2 ^ (m % 8)))
  | [], m, h => by simp at h
  | b :: t, m, h => by
    rw [flip]
    by_cases hm : m < 8
    · rw [if_pos hm]
      have h0 : m / 8 = 0 := by omega
      simp only [h0, List.getElem_cons_zero, List.set_cons_zero, Nat.mod_eq_of_lt hm]
    · rw [if_neg hm]
      obtain ⟨k, hk⟩ : ∃ k, m / 8 = k + 1 := ⟨m / 8 - 1, by omega⟩
      have hk2 : (m - 8) / 8 = k := by omega
      have hk3 : (m - 8) % 8 = m % 8 := by omega
      have ht : (m - 8) / 8 < t.length := by rw [List.length_cons] at h; omega
      rw [flip_set t (m - 8) ht]
      simp only [hk, hk2, hk3, List.getElem_cons_succ, List.set_cons_succ]
/-- Up to 32 bits in a row, from a place on, one at least: what is turned so far. -/
theorem turn_step {x y : List UInt8} {from_ e i : Nat} (hl : y.length = x.length) (hh : high y = high x ^^^ 2 ^ from_ * e) (he : e < 2 ^ i) (ho : e % 2 = 1) (hi : 1 ≤ i) (hb : from_ + i < 8 * x.length) : (flip y (from_ + i)).length = x.length ∧ high (flip y (from_ + i)) = high x ^^^ 2 ^ from_ * (e + 2 ^ i) ∧ e + 2 ^ i < 2 ^ (i + 1) ∧ (e + 2 ^ i) % 2 = 1 := by
  have hx : e + 2 ^ i = e ^^^ 2 ^ i := by
    apply Nat.eq_of_testBit_eq
    intro j
    have := Nat.testBit_two_pow_mul_add 1 he (j := j)
    rw [Nat.mul_one] at this
    rw [Nat.add_comm, this, Nat.testBit_xor, Nat.testBit_two_pow]
    by_cases hj : j < i
    · rw [if_pos hj]; simp [show ¬ i = j by omega]
    · rw [if_neg hj, Nat.testBit_lt_two_pow (Nat.lt_of_lt_of_le he (Nat.pow_le_pow_right (by decide) (by omega)))]
      by_cases hji : i = j
      · subst hji; simp
      · have : j - i ≠ 0 := by omega
        simp [hji, Nat.testBit_lt_two_pow (Nat.one_lt_two_pow this)]
  refine ⟨by rw [flip_len, hl], ?_, ?_, ?_⟩
  · rw [flip_high y _ (by rw [hl]; exact hb), hh, hx, mul_xor_pow, Nat.pow_add, ← Nat.xor_assoc]
  · rw [Nat.pow_succ]; omega
  · have : 2 ^ i % 2 = 0 := by
      obtain ⟨k, rfl⟩ : ∃ k, i = k + 1 := ⟨i - 1, by omega⟩
      rw [Nat.pow_succ]; omega
    omega
end Go.Proofs.Ytolgpnaoaodepaa.Pr
/- Plain mathematics of Told: where a leaf's sections lie. -/
namespace Go.Proofs.Ytolgpnaoaodepaa.Pr
open Pg
theorem low2_get (n : Nat) (h : n < 65536) : ∃ a b : UInt8, low n 2 = [a, b] ∧ a.toNat + 256 * b.toNat = n := by
  have hl : (low n 2).length = 2 := low_len 2 n
  have hh := high_low 2 n (by simpa using h)
  obtain ⟨a, b, e⟩ := two_of hl
  rw [e] at hh
  exact ⟨a, b, e, by simpa [high] using hh⟩
theorem heads_get : ∀ (ss : List Nat) (ks : List (List UInt8)) (k : Nat) (t : List UInt8) (hk : k < ss.length), ss.length = ks.length → (∀ s ∈ ss, s < 65536) → (∀ x ∈ ks, x.length ≤ 12) → ∃ a b : UInt8, (heads ss ks ++ t)[15 * k]? = some a ∧ (heads ss ks ++ t)[15 * k + 1]? = some b ∧ a.toNat + 256 * b.toNat = ss[k]'hk
  | s :: ss, x :: ks, 0, t, hk, h, hs, hx => by
    obtain ⟨a, b, e, e2⟩ := low2_get s (hs s (by simp))
    refine ⟨a, b, ?_, ?_, e2⟩ <;> · rw [heads, ent1, e]; simp
  | s :: ss, x :: ks, k + 1, t, hk, h, hs, hx => by
    obtain ⟨a, b, h1, h2, h3⟩ := heads_get ss ks k t (by simpa using hk) (by simpa using h) (fun y hy => hs y (by simp [hy])) (fun y hy => hx y (by simp [hy]))
    have hl := ent1_len s x (hx x (by simp))
    refine ⟨a, b, ?_, ?_, by simpa using h3⟩
    · rw [heads, List.append_assoc, List.getElem?_append_right (by omega), hl, show 15 * (k + 1) - 15 = 15 * k by omega]; exact h1
    · rw [heads, List.append_assoc, List.getElem?_append_right (by omega), hl, show 15 * (k + 1) + 1 - 15 = 15 * k + 1 by omega]; exact h2
  | [], _, k, _, hk, _, _, _ => by simp at hk
  | s :: ss, [], _, _, _, h, _, _ => by simp at h
theorem leaf_len68 {l : Its} (h : Fine l) (h16 : l.length ≤ 16) : (leaf l).length = 68 + (secs (parts l)).flatten.length := by
  rw [leaf_is, List.length_append, headW_take l h h16]
theorem entry_bytes {l : Its} (h : Fine l) (k : Nat) (hk : k < (parts l).length) : ∃ a b : UInt8, (leaf l)[4 + 15 * k]? = some a ∧ (leaf l)[5 + 15 * k]? = some b ∧ a.toNat + 256 * b.toNat = (sec1 ((parts l)[k]'hk)).length := by
  have hp := parts_fine h
  obtain ⟨r, hr⟩ : ∃ r, leaf l = ([83, 50, 76] ++ low (parts l).length 1) ++ (heads ((secs (parts l)).map List.length) (firsts (parts l)) ++ r) := by
    rw [leaf_is]
    unfold headW sealed
    refine ⟨List.replicate (60 - (heads ((secs (parts l)).map List.length) (firsts (parts l))).length) 0 ++ (low (crc ([83, 50, 76] ++ low ((secs (parts l)).map List.length).length 1 ++ heads ((secs (parts l)).map List.length) (firsts (parts l)) ++ List.replicate (60 - (heads ((secs (parts l)).map List.length) (firsts (parts l))).length) 0)) 4 ++ (secs (parts l)).flatten), ?_⟩
    rw [show ((secs (parts l)).map List.length).length = (parts l).length by simp [secs]]
    simp only [List.append_assoc]
  obtain ⟨a, b, h1, h2, h3⟩ := heads_get ((secs (parts l)).map List.length) (firsts (parts l)) k r (by simpa [secs] using hk) (by simp [secs, firsts]) (secs_small hp) (okPivots_sz _ _ (firsts_fine _ hp))
  have hl4 : ([83, 50, 76] ++ low (parts l).length 1).length = 4 := by rw [List.length_append, low_len]; rfl
  refine ⟨a, b, ?_, ?_, ?_⟩
  · rw [hr, List.getElem?_append_right (by omega), hl4, show 4 + 15 * k - 4 = 15 * k by omega]; exact h1
  · rw [hr, List.getElem?_append_right (by omega), hl4, show 5 + 15 * k - 4 = 15 * k + 1 by omega]; exact h2
  · rw [h3]; simp [secs]
/-- How long the first k sections are. -/
def upto (l : Its) (k : Nat) : Nat := ((secs (parts l)).take k).flatten.length
theorem upto_zero (l : Its) : upto l 0 = 0 := by simp [upto]
theorem upto_succ (l : Its) (k : Nat) (hk : k < (parts l).length) : upto l (k + 1) = upto l k + (sec1 ((parts l)[k]'hk)).length := by
  unfold upto
  have hk2 : k < (secs (parts l)).length := by simpa [secs] using hk
  rw [List.take_add_one, List.getElem?_eq_getElem hk2, List.flatten_append, List.length_append]
  simp [secs]
theorem upto_le (l : Its) (h : Fine l) (h16 : l.length ≤ 16) (k : Nat) : 68 + upto l k ≤ (leaf l).length := by
  rw [leaf_len68 h h16]
  unfold upto
  conv => rhs; rw [← List.take_append_drop k (secs (parts l)), List.flatten_append, List.length_append]
  omega
theorem sec_pos (p : Its) : 0 < (sec1 p).length := by
  obtain ⟨a, ha⟩ := section_sealed [98] (basement p)
  unfold sec1
  rw [ha, seal_len]; omega
theorem parts_length (l : Its) : (parts l).length = (l.length + 3) / 4 := parts_many _ _ rfl
end Go.Proofs.Ytolgpnaoaodepaa.Pr
/- Plain mathematics of Told: what Read and Fetch tell of a leaf with bits turned. -/
namespace Go.Proofs.Ytolgpnaoaodepaa.Pr
open Pg
theorem parts_at {l : Its} (i : Nat) (hi : i < l.length) : ∃ a p b, parts l = a ++ p :: b ∧ a.length = i / 4 ∧ l[i]'hi ∈ p := parts_get (many l.length) l i hi (by unfold many; omega)
theorem part_iff {l : Its} (h : Fine l) (a : List Its) (p : Its) (b : List Its) (hps : parts l = a ++ p :: b) (i : Nat) (hi : i < l.length) : l[i]'hi ∈ p ↔ i / 4 = a.length := by
  obtain ⟨a2, p2, b2, e2, h2, h3⟩ := parts_at i hi
  have hp := parts_fine h
  have f2 := findN_at hp e2 h3
  constructor
  · intro hx
    have f1 := findN_at hp hps hx
    rw [f1] at f2
    omega
  · intro he
    have hl : a.length = a2.length := by omega
    have e : a ++ p :: b = a2 ++ p2 :: b2 := hps.symm.trans e2
    have := (List.append_inj e hl).2
    injection this with e3 _
    rw [e3]; exact h3
theorem told_all {l : Its} (h : Fine l) (h16 : l.length ≤ 16) (k A P e : Nat) (y : List UInt8) (hk : k ≤ (parts l).length) (hA0 : k = 0 → A = 0) (hA1 : ∀ j, k = j + 1 → A = 68 + upto l j) (hl : y.length = (leaf l).length) (hy : high y = high (leaf l) ^^^ 2 ^ (8 * A + P) * e) (ho : e % 2 = 1) (h32 : e < 2 ^ 32) (hb : 2 ^ (8 * A + P) * e < 2 ^ (8 * (68 + upto l k))) :
    readR y = none ∧ ∀ i (hi : i < l.length), (k ≠ 0 ∧ i / 4 + 1 ≠ k → fetchR y (l[i]'hi).1 = some (some (l[i]'hi).2)) ∧ (k = 0 ∨ i / 4 + 1 = k → fetchR y (l[i]'hi).1 = none) := by
  have he0 : e ≠ 0 := by omega
  have he2 : e < 4294967296 := by simpa using h32
  cases k with
  | zero =>
    have := hA0 rfl
    subst this
    rw [Nat.mul_zero, Nat.zero_add] at hy hb
    rw [upto_zero, Nat.add_zero] at hb
    obtain ⟨r1, r2⟩ := told_head h h16 y P e hl hy he0 he2 hb
    refine ⟨r2, fun i hi => ⟨fun hc => absurd rfl hc.1, fun _ => ?_⟩⟩
    unfold fetchR
    rw [r1]; rfl
  | succ j =>
    have hAj := hA1 j rfl
    have hj : j < (parts l).length := by omega
    have hps : parts l = (parts l).take j ++ ((parts l)[j]'hj) :: (parts l).drop (j + 1) := by rw [← List.drop_eq_getElem_cons hj, List.take_append_drop]
    have hal : ((parts l).take j).length = j := by rw [List.length_take]; omega
    have hus := upto_succ l j hj
    have hh := headW_take l h h16
    generalize hp : (parts l)[j]'hj = p at *
    generalize ha : (parts l).take j = a at *
    generalize hbb : (parts l).drop (j + 1) = b at *
    have hua : (secs a).flatten.length = upto l j := by unfold upto; rw [← ha]; unfold secs; rw [List.map_take]
    have hleaf : leaf l = (headW ((secs (parts l)).map List.length) (firsts (parts l)) ++ (secs a).flatten) ++ sec1 p ++ (secs b).flatten := by
      rw [leaf_is]
      have : (secs (parts l)).flatten = (secs a).flatten ++ sec1 p ++ (secs b).flatten := by
        conv => lhs; rw [hps]
        simp [secs]
      conv => lhs; rhs; rw [this]
      simp only [List.append_assoc]
    have hpre : (headW ((secs (parts l)).map List.length) (firsts (parts l)) ++ (secs a).flatten).length = A := by rw [List.length_append, hh, hua, hAj]
    have hb2 : 2 ^ P * e < 2 ^ (8 * (sec1 p).length) := by
      rw [Nat.pow_add, Nat.mul_assoc, hus, show 8 * (68 + (upto l j + (sec1 p).length)) = 8 * A + 8 * (sec1 p).length by omega, Nat.pow_add] at hb
      exact Nat.lt_of_mul_lt_mul_left hb
    obtain ⟨s', e1, e2, e3⟩ := turn_part _ (sec1 p) (secs b).flatten y (2 ^ P * e) (by rw [hl, hleaf]) (by rw [hy, hpre, hleaf, Nat.pow_add, Nat.mul_assoc]) hb2
    obtain ⟨r1, r2⟩ := told_section h h16 a p b hps s' P e e2 e3 he0 he2 hb2 y (by rw [e1]; simp only [List.append_assoc])
    refine ⟨r1, fun i hi => ?_⟩
    obtain ⟨q1, q2⟩ := r2 (l[i]'hi) (List.getElem_mem hi)
    have hiff := part_iff h a p b hps i hi
    refine ⟨fun hc => q2 fun hx => ?_, fun hc => q1 (hiff.2 ?_)⟩
    · have := hiff.1 hx; omega
    · rcases hc with hc | hc
      · omega
      · omega
theorem flat_small : ∀ (L : List (List UInt8)), (∀ s ∈ L.map List.length, s < 65536) → L.flatten.length ≤ 65536 * L.length
  | [], _ => by simp
  | x :: r, h => by
    rw [List.flatten_cons, List.length_append, List.length_cons]
    have h1 := flat_small r (fun s hs => h s (by rw [List.map_cons]; exact List.mem_cons_of_mem _ hs))
    have h2 := h x.length (by simp)
    omega
theorem leaf_small {l : Its} (h : Fine l) (h16 : l.length ≤ 16) : (leaf l).length ≤ 1000000 := by
  rw [leaf_len68 h h16]
  have h1 := flat_small (secs (parts l)) (secs_small (parts_fine h))
  have h2 : (secs (parts l)).length ≤ 4 := by have := parts_length l; simp [secs]; omega
  omega
end Go.Proofs.Ytolgpnaoaodepaa.Pr
