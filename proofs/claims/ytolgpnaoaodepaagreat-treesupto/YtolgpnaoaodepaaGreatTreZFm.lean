/- Cutting a leaf: what comes of it says the same. -/
import Derived.Test.YtolgpnaoaodepaaGreatTreZBm
namespace Go.Proofs.YtolgpnaoaodepaaGreat.Tr

theorem leafParts_lkey (l : List It) (r : List (List It)) : leafParts (lkey l) (l :: r) = lparts (l :: r) := rfl
theorem mem_pair {l : List It} (h : l ≠ []) : ∃ x, x ∈ l ∧ x.1 = lkey l := by
  cases l with
  | nil => exact absurd rfl h
  | cons x r => exact ⟨x, List.mem_cons_self .., rfl⟩
theorem lkey_le {l : List It} (hr : Rising l) {x : It} (hx : x ∈ l) : ¬ x.1 < lkey l := by
  cases l with
  | nil => cases hx
  | cons y r =>
    show ¬ x.1 < y.1
    rcases List.mem_cons.1 hx with rfl | hx
    · exact lt_ir _
    · exact fun q => lt_ir _ (lt_tr q ((List.pairwise_cons.1 hr).1 x hx))
/-- Leaves that were cut are well, one behind the other. -/
theorem leaf_chain {hi : Option Key} : ∀ (ls : List (List It)) (lo : Key), ls ≠ [] → room lo hi → (∀ l ∈ ls, l ≠ [] ∧ l.length ≤ 16) → Rising ls.flatten → (∀ x ∈ ls.flatten, inR lo hi x.1 ∧ okIt x) → Chain (fun f m t => WF 0 f m t ∧ Top 0 t) (some lo) hi (leafParts lo ls)
  | [], _, h, _, _, _, _ => absurd rfl h
  | [l], lo, _, hr, hl, hR, hI => by
    have e : [l].flatten = l := by simp
    rw [e] at hR hI
    exact ⟨rfl, hi, hr, ⟨⟨hR, hI⟩, (hl l (List.mem_cons_self ..)).2⟩, rfl⟩
  | l :: l2 :: r, lo, _, hr, hl, hR, hI => by
    rw [List.flatten_cons] at hR hI
    have hp := List.pairwise_append.1 hR
    have h2 := hl l2 (List.mem_cons_of_mem _ (List.mem_cons_self ..))
    obtain ⟨y, hy, hyk⟩ := mem_pair h2.1
    have hy' : y ∈ (l2 :: r).flatten := by rw [List.flatten_cons]; exact List.mem_append_left _ hy
    have hlt : ∀ x ∈ l, x.1 < lkey l2 := fun x hx => by rw [← hyk]; exact hp.2.2 x hx y hy'
    obtain ⟨z, hz, hzk⟩ := mem_pair (hl l (List.mem_cons_self ..)).1
    have hroom : room lo (some (lkey l2)) := fun b hb => by
      rw [← Option.some.inj hb]
      exact le_lt (hI z (List.mem_append_left _ hz)).1.1 (hlt z hz)
    have hin2 := (hI y (List.mem_append_right _ hy')).1
    rw [hyk] at hin2
    refine ⟨rfl, some (lkey l2), hroom, ⟨⟨hp.1, fun x hx => ⟨⟨(hI x (List.mem_append_left _ hx)).1.1, fun b hb => by rw [← Option.some.inj hb]; exact hlt x hx⟩, (hI x (List.mem_append_left _ hx)).2⟩⟩, (hl l (List.mem_cons_self ..)).2⟩, ?_⟩
    rw [← leafParts_lkey]
    refine leaf_chain (l2 :: r) (lkey l2) (by simp) hin2.2 (fun q hq => hl q (List.mem_cons_of_mem _ hq)) hp.2.1 (fun x hx => ⟨⟨?_, (hI x (List.mem_append_right _ hx)).1.2⟩, (hI x (List.mem_append_right _ hx)).2⟩)
    have hR2 := hp.2.1
    rw [List.flatten_cons] at hx hR2
    rcases List.mem_append.1 hx with hx | hx
    · exact lkey_le (List.pairwise_append.1 hR2).1 hx
    · exact fun q => lt_ir _ (lt_tr q (by rw [← hyk]; exact (List.pairwise_append.1 hR2).2.2 y hy x hx))
/-- What a chain of leaves says. -/
def its (t : TreeT 0) : List It := t
def flat0 : List (Key × TreeT 0) → List It
  | [] => []
  | p :: r => its p.2 ++ flat0 r
theorem flat0_append : ∀ (A B : List (Key × TreeT 0)), flat0 (A ++ B) = flat0 A ++ flat0 B
  | [], _ => rfl
  | p :: r, B => by rw [List.cons_append, flat0, flat0, flat0_append r B, List.append_assoc]
theorem flat0_lparts : ∀ (ls : List (List It)), flat0 (lparts ls) = ls.flatten
  | [] => rfl
  | l :: r => by
    rw [List.flatten_cons, ← flat0_lparts r]; rfl
theorem flat0_leafParts (f : Key) (ls : List (List It)) : flat0 (leafParts f ls) = ls.flatten := by
  cases ls with
  | nil => rfl
  | cons l r => rw [List.flatten_cons, ← flat0_lparts r]; rfl
theorem flat0_in {lo hi : Option Key} : ∀ {ps : List (Key × TreeT 0)}, Chain (fun f m t => WF 0 f m t ∧ Top 0 t) lo hi ps → ∀ x ∈ flat0 ps, (∀ a, lo = some a → ¬ x.1 < a) ∧ (∀ b, hi = some b → x.1 < b) ∧ lo ≠ none
  | [], _, x, hx => by cases hx
  | (f, t) :: r, ⟨e, m, h1, h2, h3⟩, x, hx => by
    have hx' : x ∈ its t ++ flat0 r := hx
    rcases List.mem_append.1 hx' with hx | hx
    · have hin := (h2.1.2 x hx).1
      refine ⟨fun a ha => ?_, fun b hb => ?_, by rw [e]; simp⟩
      · rw [e] at ha; rw [← Option.some.inj ha]; exact hin.1
      · obtain ⟨a, ha, hab⟩ := chain_lo h3 b hb
        exact lt_le (hin.2 a ha) hab
    · have ih := flat0_in h3 x hx
      refine ⟨fun a ha => ?_, ih.2.1, by rw [e]; simp⟩
      rw [e] at ha
      rw [← Option.some.inj ha]
      cases hm : m with
      | none => exact absurd hm ih.2.2
      | some b => exact le_tr (fun q => lt_ir _ (lt_tr q (h1 b hm))) (ih.1 b hm)
theorem leaf_val {ps : List (Key × TreeT 0)} {lo : Key} {hi : Option Key} (h : Chain (fun f m t => WF 0 f m t ∧ Top 0 t) (some lo) hi ps) {k : Key} (hk : inR lo hi k) : val 1 (ps, []) k = look (flat0 ps) k := by
  obtain ⟨A, f, t, B, m, rfl, e2, e3, e4, e5, e6, e7⟩ := chain_find h hk
  rw [val_at e2, afterAll_nil]
  have hf : flat0 (A ++ (f, t) :: B) = flat0 A ++ (its t ++ flat0 B) := by rw [flat0_append]; rfl
  rw [hf, look_append, look_append, look_none (l := flat0 A), look_none (l := flat0 B)]
  · rw [Option.none_or, Option.or_none]; rfl
  · intro x hx q
    have hb := flat0_in e7 x hx
    cases hm : m with
    | none => exact hb.2.2 hm
    | some b =>
      have h1 := hb.1 b hm
      rw [q] at h1
      exact h1 (e5.2 b hm)
  · intro x hx q
    have hb := (flat0_in e6 x hx).2.1 f rfl
    rw [q] at hb
    exact e5.1 hb
end Go.Proofs.YtolgpnaoaodepaaGreat.Tr
/- Cutting a branch: what comes of it says the same. -/
namespace Go.Proofs.YtolgpnaoaodepaaGreat.Tr

/-- Where a chain's first part begins, if it has one. -/
def nxt {α : Type} (B : List (Key × α)) (hi : Option Key) : Option Key := match B with
  | [] => hi
  | (f, _) :: _ => some f
theorem chain_nxt {α : Type} {R : Key → Option Key → α → Prop} {m hi : Option Key} {B : List (Key × α)} (h : Chain R m hi B) : m = nxt B hi := by
  cases B with
  | nil => exact h
  | cons p r => exact h.1
/-- Each part of a chain, made anew by its number. -/
theorem chain_idx {α β : Type} {S : Key → Option Key → α → Prop} {R : Key → Option Key → β → Prop} {hi : Option Key} (g : Nat → α → β) : ∀ (B : List (Key × α)) (n : Nat) (lo : Option Key), Chain S lo hi B → (∀ (A' : List (Key × α)) f s (B' : List (Key × α)) m, B = A' ++ (f, s) :: B' → room f m → S f m s → m = nxt B' hi → R f m (g (n + A'.length) s)) → Chain R lo hi ((B.mapIdx fun j q => (q.1, g (n + j) q.2)))
  | [], _, _, h, _ => h
  | (f, s) :: r, n, lo, ⟨e, m, h1, h2, h3⟩, hR => by
    rw [List.mapIdx_cons]
    refine ⟨e, m, h1, by have := hR [] f s r m rfl h1 h2 (chain_nxt h3); simpa using this, ?_⟩
    have := chain_idx g r (n + 1) m h3 (fun A' f' s' B' m' e' q1 q2 q3 => by
      have := hR ((f, s) :: A') f' s' B' m' (by rw [e']; rfl) q1 q2 q3
      rw [List.length_cons] at this
      rw [show n + 1 + A'.length = n + (A'.length + 1) by omega]
      exact this)
    have e2 : (fun (j : Nat) (q : Key × α) => (q.1, g (n + 1 + j) q.2)) = fun j q => (q.1, g (n + (j + 1)) q.2) := by
      funext j q; rw [show n + 1 + j = n + (j + 1) by omega]
    rw [e2] at this
    exact this
/-- Shares of a chain are chains, one behind the other. -/
theorem chain_shares {h : Nat} {R : Key → Option Key → TreeT h → Prop} {hi : Option Key} : ∀ (ss : List (List (Key × TreeT h))) (lo : Key), (∀ s ∈ ss, s ≠ []) → ss ≠ [] → room lo hi → Chain R (some lo) hi ss.flatten → Chain (fun f m (s : List (Key × TreeT h)) => Chain R (some f) m s) (some lo) hi (ss.map fun s => (bkey s, s))
  | [], _, _, h, _, _ => absurd rfl h
  | [s], lo, hs, _, hr, hc => by
    rw [show [s].flatten = s by simp] at hc
    have hb : bkey s = lo := by
      cases s with
      | nil => exact absurd rfl (hs [] (List.mem_cons_self ..))
      | cons p r => exact (Option.some.inj hc.1).symm
    refine ⟨by rw [hb], hi, ?_, ?_, rfl⟩
    · rw [hb]; exact hr
    · rw [hb]; exact hc
  | s :: s2 :: r, lo, hs, _, hr, hc => by
    rw [List.flatten_cons] at hc
    obtain ⟨m, c1, c2⟩ := chain_append.1 hc
    have hb : bkey s = lo := by
      cases s with
      | nil => exact absurd rfl (hs [] (List.mem_cons_self ..))
      | cons p q => exact (Option.some.inj c1.1).symm
    have hm : m = some (bkey s2) := by
      have h2 := hs s2 (List.mem_cons_of_mem _ (List.mem_cons_self ..))
      cases s2 with
      | nil => exact absurd rfl h2
      | cons p q => rw [List.flatten_cons] at c2; exact c2.1
    subst hm
    have hlt : lo < bkey s2 := by
      cases s with
      | nil => exact absurd rfl (hs [] (List.mem_cons_self ..))
      | cons p q =>
        obtain ⟨e, m', r1, _, c3⟩ := c1
        obtain ⟨a, ha, hab⟩ := chain_lo c3 (bkey s2) rfl
        have := r1 a ha
        rw [← Option.some.inj e] at this
        exact lt_le this hab
    have hr2 : room (bkey s2) hi := fun b hb' => by
      have h2 := hs s2 (List.mem_cons_of_mem _ (List.mem_cons_self ..))
      cases s2 with
      | nil => exact absurd rfl h2
      | cons p q =>
        rw [List.flatten_cons] at c2
        obtain ⟨e, m', r1, _, c3⟩ := c2
        obtain ⟨a, ha, hab⟩ := chain_lo c3 b hb'
        exact lt_le (r1 a ha) hab
    refine ⟨by rw [hb], some (bkey s2), fun b hb' => ?_, ?_, chain_shares (s2 :: r) (bkey s2) (fun q hq => hs q (List.mem_cons_of_mem _ hq)) (by simp) hr2 c2⟩
    · rw [hb, ← Option.some.inj hb']; exact hlt
    · rw [hb]; exact c1
/-- A branch of parts and changes. -/
def brT {h : Nat} (s : List (Key × TreeT h)) (cs : List Ch) : TreeT (h + 1) := (s, cs)
theorem idx_map {α β γ : Type} (k : α → β) (F : Nat → α → γ) (G : Nat → β → γ) (h : ∀ j a, F j a = G j (k a)) (l : List α) : l.mapIdx F = (l.map k).mapIdx G := by
  refine List.ext_getElem (by simp) fun j h1 h2 => ?_
  simp [h]
theorem bparts_eq {h : Nat} (ss : List (List (Key × TreeT h))) (cs : List Ch) : bparts ss cs = ((ss.map fun s => (bkey s, s)).mapIdx fun j q => (q.1, brT q.2 (cs.filter fun c => decide (ix (ss.map bkey) c.2.1 = 0 + j)))) :=
  idx_map (fun s => (bkey s, s)) _ _ (fun j s => by rw [Nat.zero_add]; rfl) ss
theorem branch_chain {h : Nat} {hi : Option Key} (ss : List (List (Key × TreeT h))) (lo : Key) (cs : List Ch) (hs : ∀ s ∈ ss, s ≠ [] ∧ s.length ≤ 4) (h0 : ss ≠ []) (hr : room lo hi) (hc : Chain (fun f m t => WF h f m t ∧ Top h t) (some lo) hi ss.flatten) (hcs : ∀ c ∈ cs, inR lo hi c.2.1 ∧ okCh c) (h8 : cs.length ≤ 8) : Chain (fun f m t => WF (h + 1) f m t ∧ Top (h + 1) t) (some lo) hi (bparts ss cs) := by
  have hch := chain_shares ss lo (fun s q => (hs s q).1) h0 hr hc
  have hks : (ss.map fun s => (bkey s, s)).map (·.1) = ss.map bkey := by rw [List.map_map]; rfl
  rw [bparts_eq]
  refine chain_idx (fun j s => brT s (cs.filter fun c => decide (ix (ss.map bkey) c.2.1 = j))) (ss.map fun s => (bkey s, s)) 0 (some lo) hch (fun A' f s B' m e hroom hS hm => ?_)
  have hmem : s ∈ ss := by
    have : (f, s) ∈ ss.map fun s => (bkey s, s) := by rw [e]; simp
    obtain ⟨s', hs', q⟩ := List.mem_map.1 this
    have := (Prod.mk.inj q).2
    rw [← this]; exact hs'
  refine ⟨⟨hS, fun c hcm => ?_⟩, (hs s hmem).2, Nat.le_trans (List.length_filter_le _ _) h8⟩
  obtain ⟨hcm1, hcm2⟩ := List.mem_filter.1 hcm
  have hix := of_decide_eq_true hcm2
  refine ⟨?_, (hcs c hcm1).2⟩
  obtain ⟨A, f', s', B, m', e1, e2, e3, e4, e5, e6, e7⟩ := chain_find hch (hcs c hcm1).1
  rw [hks, hix, Nat.zero_add] at e2
  have hAA : A = A' ∧ (f', s') :: B = (f, s) :: B' := List.append_inj (e1.symm.trans e) e2.symm
  have hBB := List.cons.inj hAA.2
  have hm' : m' = nxt B hi := chain_nxt e7
  rw [hBB.2, ← hm] at hm'
  rw [← hm', ← (Prod.mk.inj hBB.1).1]
  exact e5
end Go.Proofs.YtolgpnaoaodepaaGreat.Tr
/- Cutting a branch: what its parts say is what it said. -/
namespace Go.Proofs.YtolgpnaoaodepaaGreat.Tr

/-- The part whose range a key lies in is the part that it belongs to. -/
theorem ix_at {α : Type} {R : Key → Option Key → α → Prop} {hi : Option Key} {f : Key} {t : α} {B : List (Key × α)} {k : Key} (hk : inR f (nxt B hi) k) : ∀ (A : List (Key × α)) (lo : Option Key), Chain R lo hi (A ++ (f, t) :: B) → ix ((A ++ (f, t) :: B).map (·.1)) k = A.length
  | [], _, _ => by
    cases B with
    | nil => rfl
    | cons p r =>
      show ix (f :: p.1 :: r.map (·.1)) k = 0
      rw [ix, if_pos (hk.2 p.1 rfl)]
  | [a], lo, ⟨_, _, _, _, _⟩ => by
    have ih := ix_at hk [] _ (by assumption)
    show ix (a.1 :: f :: B.map (·.1)) k = 1
    rw [ix, if_neg hk.1]
    have ih' : ix (f :: B.map (·.1)) k = 0 := ih
    rw [ih']
  | a :: b :: A, lo, ⟨_, m, _, _, h3⟩ => by
    have ih := ix_at hk (b :: A) m h3
    show ix (a.1 :: b.1 :: (A ++ (f, t) :: B).map (·.1)) k = A.length + 1 + 1
    have hb : ¬ k < b.1 := by
      obtain ⟨m', c1, c2⟩ := chain_append.1 h3
      have hm' : m' = some f := c2.1
      obtain ⟨a', ha', hab⟩ := chain_lo c1 f hm'
      have e1 : m = some b.1 := c1.1
      rw [e1] at ha'
      have e2 : b.1 = a' := Option.some.inj ha'
      rw [e2]
      exact le_tr hab hk.1
    rw [ix, if_neg hb]
    have ih' : ix (b.1 :: (A ++ (f, t) :: B).map (·.1)) k = A.length + 1 := ih
    rw [ih']
theorem nxt_append {α : Type} (B C : List (Key × α)) (hi : Option Key) : nxt (B ++ C) hi = nxt B (nxt C hi) := by
  cases B with
  | nil => rfl
  | cons p r => rfl
theorem map_split {α β : Type} {f : α → β} : ∀ {l : List α} {A B : List β} {y : β}, l.map f = A ++ y :: B → ∃ A' x B', l = A' ++ x :: B' ∧ A'.map f = A ∧ f x = y ∧ B'.map f = B := by
  intro l A B y h
  obtain ⟨l1, l2, rfl, h1, h2⟩ := List.map_eq_append_iff.1 h
  obtain ⟨x, r, rfl, h3, h4⟩ := List.map_eq_cons_iff.1 h2
  exact ⟨l1, x, r, rfl, h1, h3, h4⟩
theorem bparts_keys {h : Nat} (ss : List (List (Key × TreeT h))) (cs : List Ch) : (bparts ss cs).map (·.1) = ss.map bkey := by
  refine List.ext_getElem (by simp [bparts]) fun j h1 h2 => ?_
  simp [bparts]
theorem branch_val {h : Nat} {hi : Option Key} (ss : List (List (Key × TreeT h))) (lo : Key) (cs : List Ch) (hs : ∀ s ∈ ss, s ≠ [] ∧ s.length ≤ 4) (h0 : ss ≠ []) (hr : room lo hi) (hc : Chain (fun f m t => WF h f m t ∧ Top h t) (some lo) hi ss.flatten) {k : Key} (hk : inR lo hi k) : val (h + 2) (bparts ss cs, []) k = val (h + 1) (ss.flatten, cs) k := by
  have hch := chain_shares ss lo (fun s q => (hs s q).1) h0 hr hc
  have hks : (ss.map fun s => (bkey s, s)).map (·.1) = ss.map bkey := by rw [List.map_map]; rfl
  obtain ⟨A, f, s, B, m, e1, e2, e3, e4, e5, e6, e7⟩ := chain_find hch hk
  obtain ⟨ssA, s', ssB, rfl, q1, q2, q3⟩ := map_split e1
  obtain ⟨rfl, rfl⟩ := Prod.mk.inj q2
  have hAl : A.length = ssA.length := by rw [← q1, List.length_map]
  rw [hks, hAl] at e2
  -- the branch that the key belongs to
  have hb1 : val (h + 2) (bparts (ssA ++ s' :: ssB) cs, []) k = val (h + 1) (brT s' (cs.filter fun c => decide (ix ((ssA ++ s' :: ssB).map bkey) c.2.1 = ssA.length))) k := by
    have hkeys : (bparts (ssA ++ s' :: ssB) cs).map (·.1) = (ssA ++ s' :: ssB).map bkey := by
      exact bparts_keys _ cs
    have hget : (bparts (ssA ++ s' :: ssB) cs)[ssA.length]? = some (bkey s', brT s' (cs.filter fun c => decide (ix ((ssA ++ s' :: ssB).map bkey) c.2.1 = ssA.length))) := by
      rw [bparts_eq]
      simp
    rw [val, hkeys, e2, hget, afterAll_nil]
  rw [hb1]
  obtain ⟨A2, f2, t, B2, m2, d1, d2, d3, d4, d5, d6, d7⟩ := chain_find e3 e5
  subst d1
  have hin : val (h + 1) (brT (A2 ++ (f2, t) :: B2) (cs.filter fun c => decide (ix ((ssA ++ (A2 ++ (f2, t) :: B2) :: ssB).map bkey) c.2.1 = ssA.length))) k = afterAll (cs.filter fun c => decide (ix ((ssA ++ (A2 ++ (f2, t) :: B2) :: ssB).map bkey) c.2.1 = ssA.length)) k (val h t k) := val_at d2
  rw [hin, afterAll_filter _ _ _ _ (fun c _ hck => decide_eq_true (by rw [hck]; exact e2))]
  have hfl : (ssA ++ (A2 ++ (f2, t) :: B2) :: ssB).flatten = (ssA.flatten ++ A2) ++ (f2, t) :: (B2 ++ ssB.flatten) := by simp
  rw [hfl] at hc ⊢
  have hix := ix_at (R := fun f m t => WF h f m t ∧ Top h t) (hi := hi) (f := f2) (t := t) (B := B2 ++ ssB.flatten) (k := k) (by
    rw [nxt_append]
    have hm2 : m2 = nxt B2 m := chain_nxt d7
    have hmB : m = nxt ssB.flatten hi := by
      have hm : m = nxt B hi := chain_nxt e7
      rw [hm, ← q3]
      cases ssB with
      | nil => rfl
      | cons s2 r =>
        have hne := (hs s2 (by simp)).1
        cases s2 with
        | nil => exact absurd rfl hne
        | cons p q => rfl
    rw [← hmB, ← hm2]; exact d5) (ssA.flatten ++ A2) (some lo) hc
  exact (val_at hix).symm
end Go.Proofs.YtolgpnaoaodepaaGreat.Tr
/- Cutting a node, of whatever height: what comes of it is well, says the same, and weighs no more. Parts in the middle of a branch. -/
namespace Go.Proofs.YtolgpnaoaodepaaGreat.Tr

theorem shares_fit {α : Type} (l : List α) (most : Nat) (hm : 0 < most) : (∀ s ∈ shares l most, s ≠ [] ∧ s.length ≤ most) ∧ (shares l most).flatten = l ∧ (l ≠ [] → shares l most ≠ []) := by
  obtain ⟨h1, h2, h3⟩ := shares_num l most hm
  refine ⟨fun s hs => ⟨sh_some _ l h2 s hs, sh_most _ l h1 s hs⟩, sh_flat _ l (fun h => ?_), fun hl e => ?_⟩
  · have : l.length = 0 := by rcases Nat.eq_zero_or_pos l.length with q | q; exact q; have := h3 q; omega
    exact List.eq_nil_of_length_eq_zero this
  · have hl' : 0 < l.length := List.length_pos_iff.2 hl
    have := congrArg List.length e
    unfold shares at this
    rw [sh_len, List.length_nil] at this
    have := h3 hl'
    omega
def cutT : (h : Nat) → Key → TreeT h → List (Key × TreeT h)
  | 0, f, l => if 16 < (its l).length then leafParts f (shares (its l) 16) else [(f, l)]
  | _ + 1, f, (ps, cs) => if 4 < ps.length then bparts (shares ps 4) cs else [(f, brT ps cs)]
theorem cut0_big {f : Key} {l : TreeT 0} (h : 16 < (its l).length) : cutT 0 f l = leafParts f (shares (its l) 16) := if_pos h
theorem cut0_small {f : Key} {l : TreeT 0} (h : ¬ 16 < (its l).length) : cutT 0 f l = [(f, l)] := if_neg h
theorem cutS_big {h : Nat} {f : Key} {ps : List (Key × TreeT h)} {cs : List Ch} (hl : 4 < ps.length) : cutT (h + 1) f (brT ps cs) = bparts (shares ps 4) cs := if_pos hl
theorem cutS_small {h : Nat} {f : Key} {ps : List (Key × TreeT h)} {cs : List Ch} (hl : ¬ 4 < ps.length) : cutT (h + 1) f (brT ps cs) = [(f, brT ps cs)] := if_neg hl
theorem cutT_chain : ∀ (h : Nat) {lo : Key} {hi : Option Key} {t : TreeT h}, room lo hi → WF h lo hi t → Small h t → Chain (fun f m t => WF h f m t ∧ Top h t) (some lo) hi (cutT h lo t)
  | 0, lo, hi, l, hr, hw, _ => by
    by_cases hl : 16 < (its l).length
    · rw [cut0_big hl]
      obtain ⟨h1, h2, h3⟩ := shares_fit (its l) 16 (by decide)
      refine leaf_chain _ lo (h3 (by intro e; rw [e] at hl; simp at hl)) hr h1 ?_ ?_
      · rw [h2]; exact hw.1
      · rw [h2]; exact hw.2
    · rw [cut0_small hl]
      exact ⟨rfl, hi, hr, ⟨hw, Nat.le_of_not_lt hl⟩, rfl⟩
  | h + 1, lo, hi, (ps, cs), hr, hw, hs => by
    show Chain (fun f m t => WF (h + 1) f m t ∧ Top (h + 1) t) (some lo) hi (cutT (h + 1) lo (brT ps cs))
    by_cases hl : 4 < ps.length
    · rw [cutS_big hl]
      obtain ⟨h1, h2, h3⟩ := shares_fit ps 4 (by decide)
      exact branch_chain _ lo cs h1 (h3 (by intro e; rw [e] at hl; simp at hl)) hr (by rw [h2]; exact hw.1) hw.2 hs
    · rw [cutS_small hl]
      exact ⟨rfl, hi, hr, ⟨hw, Nat.le_of_not_lt hl, hs⟩, rfl⟩
theorem val_one {h : Nat} (f : Key) (t : TreeT h) (k : Key) : val (h + 1) ([(f, t)], []) k = val h t k := rfl
theorem cutT_val : ∀ (h : Nat) {lo : Key} {hi : Option Key} {t : TreeT h}, room lo hi → WF h lo hi t → Small h t → ∀ k, inR lo hi k → val (h + 1) (cutT h lo t, []) k = val h t k
  | 0, lo, hi, l, hr, hw, hs, k, hk => by
    have hc := cutT_chain 0 hr hw hs
    rw [leaf_val hc hk]
    by_cases hl : 16 < (its l).length
    · rw [cut0_big hl, flat0_leafParts, (shares_fit (its l) 16 (by decide)).2.1]; rfl
    · rw [cut0_small hl]
      show look (its l ++ []) k = look (its l) k
      rw [List.append_nil]
  | h + 1, lo, hi, (ps, cs), hr, hw, hs, k, hk => by
    show val (h + 2) (cutT (h + 1) lo (brT ps cs), []) k = val (h + 1) (brT ps cs) k
    by_cases hl : 4 < ps.length
    · rw [cutS_big hl]
      obtain ⟨h1, h2, h3⟩ := shares_fit ps 4 (by decide)
      rw [branch_val _ lo cs h1 (h3 (by intro e; rw [e] at hl; simp at hl)) hr (by rw [h2]; exact hw.1) hk, h2]; rfl
    · rw [cutS_small hl]; rfl
def wts {h : Nat} (ps : List (Key × TreeT h)) : Nat := (ps.map fun p => wt h p.2).sum
theorem wts_append {h : Nat} (A B : List (Key × TreeT h)) : wts (A ++ B) = wts A + wts B := by simp [wts]
theorem wts_cons {h : Nat} (p : Key × TreeT h) (B : List (Key × TreeT h)) : wts (p :: B) = wt h p.2 + wts B := by simp [wts]
theorem wts_nil {h : Nat} : wts ([] : List (Key × TreeT h)) = 0 := rfl
theorem wt_br {h : Nat} (ps : List (Key × TreeT h)) (cs : List Ch) : wt (h + 1) (brT ps cs) = cs.length + wts ps := rfl
theorem filt_step {α : Type} (g : α → Nat) (n : Nat) : ∀ cs : List α, (cs.filter fun c => decide (g c = n)).length + (cs.filter fun c => decide (g c < n)).length = (cs.filter fun c => decide (g c < n + 1)).length
  | [] => rfl
  | c :: r => by
    have ih := filt_step g n r
    rcases Nat.lt_trichotomy (g c) n with q | q | q
    · rw [List.filter_cons_of_neg (by simp; omega), List.filter_cons_of_pos (by simp; omega), List.filter_cons_of_pos (by simp; omega), List.length_cons, List.length_cons]; omega
    · rw [List.filter_cons_of_pos (by simp; omega), List.filter_cons_of_neg (by simp; omega), List.filter_cons_of_pos (by simp; omega), List.length_cons, List.length_cons]; omega
    · rw [List.filter_cons_of_neg (by simp; omega), List.filter_cons_of_neg (by simp; omega), List.filter_cons_of_neg (by simp; omega)]; omega
theorem bparts_wt {h : Nat} (g : Ch → Nat) (cs : List Ch) : ∀ (ss : List (List (Key × TreeT h))) (n : Nat), wts (ss.mapIdx fun j s => (bkey s, brT s (cs.filter fun c => decide (g c = n + j)))) + (cs.filter fun c => decide (g c < n)).length ≤ cs.length + wts ss.flatten
  | [], n => by
    have := List.length_filter_le (fun c => decide (g c < n)) cs
    show 0 + _ ≤ _ + 0
    omega
  | s :: r, n => by
    have ih := bparts_wt g cs r (n + 1)
    rw [List.mapIdx_cons, wts_cons, List.flatten_cons, wts_append]
    have e2 : (fun (j : Nat) (q : List (Key × TreeT h)) => (bkey q, brT q (cs.filter fun c => decide (g c = n + (j + 1))))) = fun j q => (bkey q, brT q (cs.filter fun c => decide (g c = n + 1 + j))) := by
      funext j q; rw [show n + (j + 1) = n + 1 + j by omega]
    rw [e2, wt_br]
    have := filt_step g n cs
    rw [Nat.add_zero]
    omega
theorem cutT_wt : ∀ (h : Nat) (lo : Key) (t : TreeT h), wts (cutT h lo t) ≤ wt h t
  | 0, lo, l => by
    by_cases hl : 16 < (its l).length
    · rw [cut0_big hl]
      obtain ⟨h1, h2, h3⟩ := shares_fit (its l) 16 (by decide)
      have hn : ∀ (ls : List (List It)), (∀ s ∈ ls, s.length ≤ 16) → wts (lparts ls) = ls.length := by
        intro ls
        induction ls with
        | nil => intro _; rfl
        | cons s r ih =>
          intro q
          show wts (h := 0) ((lkey s, s) :: lparts r) = _
          rw [wts_cons, ih fun x hx => q x (List.mem_cons_of_mem _ hx), List.length_cons]
          have := q s (List.mem_cons_self ..)
          show 1 + (List.length (α := It) s - 16) + r.length = _
          omega
      have e : wts (leafParts lo (shares (its l) 16)) = (shares (its l) 16).length := by
        cases hq : shares (its l) 16 with
        | nil => rfl
        | cons s r =>
          rw [hq] at h1
          have h4 := hn r fun x hx => (h1 x (List.mem_cons_of_mem _ hx)).2
          have := (h1 s (List.mem_cons_self ..)).2
          show wts (h := 0) ((lo, s) :: lparts r) = _
          rw [wts_cons, h4, List.length_cons]
          show 1 + (List.length (α := It) s - 16) + r.length = _
          omega
      rw [e]
      unfold shares
      rw [sh_len]
      show _ ≤ 1 + ((its l).length - 16)
      omega
    · rw [cut0_small hl, wts_cons, wts_nil]; exact Nat.le_refl _
  | h + 1, lo, (ps, cs) => by
    show wts (cutT (h + 1) lo (brT ps cs)) ≤ wt (h + 1) (brT ps cs)
    by_cases hl : 4 < ps.length
    · rw [cutS_big hl]
      have h2 := (shares_fit ps 4 (by decide)).2.1
      have := bparts_wt (fun c => ix ((shares ps 4).map bkey) c.2.1) cs (shares ps 4) 0
      rw [h2] at this
      have e : (fun (j : Nat) (q : List (Key × TreeT h)) => (bkey q, brT q (cs.filter fun c => decide (ix ((shares ps 4).map bkey) c.2.1 = 0 + j)))) = fun j q => (bkey q, brT q (cs.filter fun c => decide (ix ((shares ps 4).map bkey) c.2.1 = j))) := by
        funext j q; rw [Nat.zero_add]
      rw [e] at this
      exact Nat.le_trans (Nat.le_add_right _ _) this
    · rw [cutS_small hl, wts_cons, wts_nil]; exact Nat.le_refl _
/-- What a branch says of a key, if it is among these parts. -/
theorem val_mid {h : Nat} {R : Key → Option Key → TreeT h → Prop} {lo m hi : Option Key} {f : Key} {A X B : List (Key × TreeT h)} (hA : Chain R lo (some f) A) (hX : Chain R (some f) m X) (hB : Chain R m hi B) (cs : List Ch) {k : Key} (hk : inR f m k) : val (h + 1) (A ++ X ++ B, cs) k = afterAll cs k (val (h + 1) (X, []) k) := by
  obtain ⟨A1, f', t', B1, m', e1, e2, e3, e4, e5, e6, e7⟩ := chain_find hX hk
  have hall : Chain R lo hi (A ++ X ++ B) := chain_append.2 ⟨m, chain_append.2 ⟨some f, hA, hX⟩, hB⟩
  subst e1
  have hfl : A ++ (A1 ++ (f', t') :: B1) ++ B = (A ++ A1) ++ (f', t') :: (B1 ++ B) := by simp
  rw [hfl] at hall ⊢
  have hm : m = nxt B hi := chain_nxt hB
  have hm' : m' = nxt B1 m := chain_nxt e7
  have hix := ix_at (R := R) (hi := hi) (f := f') (t := t') (B := B1 ++ B) (k := k) (by rw [nxt_append, ← hm, ← hm']; exact e5) (A ++ A1) lo hall
  rw [val_at hix, val_at e2, afterAll_nil]
theorem tri3 {lo : Key} {hi m : Option Key} {f k : Key} (hk : inR lo hi k) : inR lo (some f) k ∨ inR f m k ∨ ∃ b, m = some b ∧ inR b hi k := by
  by_cases h1 : k < f
  · exact .inl ⟨hk.1, fun b hb => by rw [← Option.some.inj hb]; exact h1⟩
  · cases m with
    | none => exact .inr (.inl ⟨h1, fun b hb => by cases hb⟩)
    | some b =>
      by_cases h2 : k < b
      · exact .inr (.inl ⟨h1, fun c hc => by rw [← Option.some.inj hc]; exact h2⟩)
      · exact .inr (.inr ⟨b, rfl, h2, hk.2⟩)
/-- Parts in the middle are put for others that say the same. -/
theorem splice_val {h : Nat} {R R' : Key → Option Key → TreeT h → Prop} {lo : Key} {m hi : Option Key} {f : Key} {A X Y B : List (Key × TreeT h)} (hA : Chain R (some lo) (some f) A) (hX : Chain R (some f) m X) (hB : Chain R m hi B) (hA' : Chain R' (some lo) (some f) A) (hY : Chain R' (some f) m Y) (hB' : Chain R' m hi B) (cs : List Ch) (he : ∀ k, inR f m k → val (h + 1) (Y, []) k = val (h + 1) (X, []) k) {k : Key} (hk : inR lo hi k) : val (h + 1) (A ++ Y ++ B, cs) k = val (h + 1) (A ++ X ++ B, cs) k := by
  rcases tri3 (f := f) (m := m) hk with q | q | ⟨b, rfl, q⟩
  · have h1 := val_mid (R := R) (lo := some lo) (A := []) (X := A) (B := X ++ B) (f := lo) rfl hA (chain_append.2 ⟨m, hX, hB⟩) cs q
    have h2 := val_mid (R := R') (lo := some lo) (A := []) (X := A) (B := Y ++ B) (f := lo) rfl hA' (chain_append.2 ⟨m, hY, hB'⟩) cs q
    simp only [List.nil_append] at h1 h2
    rw [List.append_assoc, List.append_assoc, h1, h2]
  · rw [val_mid hA hX hB cs q, val_mid hA' hY hB' cs q, he k q]
  · have h1 := val_mid (R := R) (lo := some lo) (A := A ++ X) (X := B) (B := []) (f := b) (chain_append.2 ⟨_, hA, hX⟩) hB rfl cs q
    have h2 := val_mid (R := R') (lo := some lo) (A := A ++ Y) (X := B) (B := []) (f := b) (chain_append.2 ⟨_, hA', hY⟩) hB' rfl cs q
    simp only [List.append_nil] at h1 h2
    rw [h1, h2]
end Go.Proofs.YtolgpnaoaodepaaGreat.Tr
