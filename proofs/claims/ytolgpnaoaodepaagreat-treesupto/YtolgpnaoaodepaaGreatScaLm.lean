/- heap's Push. -/
import Derived.Test.YtolgpnaoaodepaaGreatScaHm
import Derived.Test.YtolgpnaoaodepaaGreatScaMm
import Derived.Test.YtolgpnaoaodepaaGreatSilAm
import Derived.Test.YtolgpnaoaodepaaGreatScaOm
import Derived.Test.YtolgpnaoaodepaaGreatTreZMm
namespace Go.Proofs.YtolgpnaoaodepaaGreat
open Go.RowKit

theorem PlB.ne {w : World} {b sb : Nat} {key : ByteArray} {lv : Nat} {un : Option Addr} {ch : Value} {fr ub : ByteArray} {v : Value} (h : PlB w b key lv un ch) (hs : ScB w sb fr ub v) : b ≠ sb := fun e => by
  subst e
  unfold PlB at h
  unfold ScB at hs
  rw [h] at hs
  simp at hs
theorem nth_app (bs : List Nat) (b : Nat) {k : Nat} (hk : k < bs.length) : Hp.nth 0 (bs ++ [b]) k = Hp.nth 0 bs k := by
  unfold Hp.nth; rw [List.getElem?_append_left hk]

set_option maxHeartbeats 400000 in
set_option maxRecDepth 4000 in
theorem hPush_any (sb : Nat) (fr ub : ByteArray) (v : Value) (K : Nat → ByteArray × Nat) (bs : List Nat) (b : Nat) (w : World) (h : HpQ sb fr ub v K bs w) (hb : ∃ un ch, PlB w b (K b).1 (K b).2 un ch) (hl : bs.length ≤ 1000000) (O : Hp.Ord (ltK K)) :
    Calls Tryz.prog 186 #[.iface 193 (.pointer (some ⟨sb, 2, none⟩)), .iface 137 (.pointer (some ⟨b, 0, none⟩))] w fun r w' => r = .returned (.tuple #[]) ∧ ∃ bs' v', bs'.Perm (b :: bs) ∧ HpQ sb fr ub v' K bs' w' ∧ (v'.ownBlock = v.ownBlock ∨ ∃ k, w.heap.size ≤ k ∧ v'.ownBlock = some k) ∧ Mod (fun g => g = sb ∨ v.ownBlock = some g) w w' := by
  have HP := hid (pPush_any sb fr ub v bs b w h.sc h.row (by omega))
  have H := hid h
  have HB := hid hb
  have HO := hid O
  have hm0 := fun w' => mPush ⟨sb, 2, none⟩ w'
  clear h hb O
  go_enter Tryz.func186, Tryz.ntmps186
  go_wp2_with fail
  refine HP.out.mono ?_
  rintro r w1 ⟨rfl, v1, hs1, ho1, hv1, m1⟩
  have hkeep : ∀ c key lv un ch, PlB w c key lv un ch → PlB w1 c key lv un ch := fun c key lv un ch q => (m1.block c q.lt (fun e => by
    rcases e with e | e
    · exact q.ne H.out.sc e
    · exact blk_type q H.out.row (by decide) e)).trans q
  have hpl : PlK w1 K (bs ++ [b]) := fun c hc => by
    rcases List.mem_append.1 hc with q | q
    · obtain ⟨u, c', z⟩ := H.out.pl c q; exact ⟨u, c', hkeep _ _ _ _ _ z⟩
    · rw [List.mem_singleton.1 q]; obtain ⟨u, c', z⟩ := HB.out; exact ⟨u, c', hkeep _ _ _ _ _ z⟩
  have hh : Hp.Heap (ltK K) (Hp.nth 0 (bs ++ [b])) bs.length := H.out.heap.congr fun k hk => nth_app bs b hk
  have HU := hid (hUp_any sb fr ub v1 K (bs ++ [b]) bs.length w1 hs1 ho1 hpl (by simp) (by simp; omega) hh HO.out)
  obtain ⟨a1, c1, rfl⟩ := rowShape ho1
  have hl1 : (bs ++ [b]).length = bs.length + 1 := by simp
  rw [hl1] at hs1 HU
  have hm1 := mLen ⟨sb, 2, none⟩ w1 _ hs1.cells.2.2.1
  have HL := hid (pLen_any a1 (bs.length + 1) c1 w1)
  have HM1 := hid m1
  have HV1 := hid hv1
  have xw : IntKind.i64.wrap (((bs.length + 1 : Nat) : Int) - 1) = (bs.length : Int) := by rw [IntKind.wrap_i64]; omega
  have xw' : IntKind.i64.wrap ((bs.length : Int) + 1 - 1) = (bs.length : Int) := by rw [IntKind.wrap_i64]; omega
  clear hs1 ho1 hv1 m1 hkeep hpl hh HP
  go_wp2_with fail
  refine HL.out.mono ?_
  rintro r w1 ⟨rfl, rfl⟩
  go_wp2_with fail
  refine HU.out.mono ?_
  rintro r w2 ⟨rfl, bs', hS, hH⟩
  have HF : Hid (bs'.Perm (b :: bs) ∧ HpQ sb fr ub (.slice a1 (bs.length + 1) c1) K bs' w2 ∧ ((Value.slice a1 (bs.length + 1) c1).ownBlock = v.ownBlock ∨ ∃ k, w.heap.size ≤ k ∧ (Value.slice a1 (bs.length + 1) c1).ownBlock = some k) ∧ Mod (fun g => g = sb ∨ v.ownBlock = some g) w w2) := by
    have hp : bs'.Perm (b :: bs) := hS.perm.trans List.perm_append_comm
    have hv := HV1.out
    rw [hl1] at hv
    refine ⟨hp, ⟨hS.sc, hS.row, hS.pl, ?_⟩, hv, HM1.out.trans (Mod.of_grown hS.gr) (fun _ _ q => q) (fun g hg q => ?_)⟩
    · rw [hp.length_eq]; exact hH
    · rcases hv with z | ⟨k, hk, z⟩
      · rw [z] at q; exact .inr q
      · rw [z] at q; have := Option.some.inj q; omega
  clear hS hH HU HL HM1 HV1
  go_wp2_with fail
  go_end0
  exact ⟨rfl, _, _, HF.out⟩
end Go.Proofs.YtolgpnaoaodepaaGreat
/- A scan, as a whole: what it tells. -/
namespace Go.Proofs.YtolgpnaoaodepaaGreat.Tr

/-- How many changes there are left. -/
def cntT : (h : Nat) → TreeT h → Nat
  | 0, l => (its l).length
  | h + 1, (ps, cs) => cs.length + (ps.map fun p => cntT h p.2).sum
def Plc.cnt : Plc → Nat
  | .inl ⟨_,_,h,_,t⟩ => cntT h t
  | .inr ⟨_,_,_,_,cs⟩ => cs.length + 1
def cnt (P : List Plc) : Nat := (P.map Plc.cnt).sum
theorem cnt_cons (p : Plc) (P : List Plc) : cnt (p :: P) = p.cnt + cnt P := by simp [cnt]
theorem cnt_append (P Q : List Plc) : cnt (P ++ Q) = cnt P + cnt Q := by simp [cnt]
theorem cnt_lay (L : Nat) (f : Key) (m : Option Key) (cs : List Ch) : cnt (lay L f m cs) = cs.length := by cases cs <;> simp [lay, cnt, Plc.cnt]
theorem cnt_nodes {L h : Nat} {hi : Option Key} : ∀ (ps : List (Key × TreeT h)), cnt (nodes L ps hi) = (ps.map fun p => cntT h p.2).sum
  | [] => rfl
  | (f, t) :: r => by rw [nodes, cnt_cons, cnt_nodes r]; rfl
theorem cnt_perm {P Q : List Plc} (h : P.Perm Q) : cnt P = cnt Q := (h.map Plc.cnt).sum_nat
theorem cnt_open {fr : Key} {L h : Nat} {f : Key} {m : Option Key} {t : TreeT h} {R : List Plc} {cs : List Ch} (hs : Scd fr (nodeCh h t) cs) : cnt (kidsFrom fr L m h t ++ (lay L f m cs ++ R)) ≤ cnt (.nd f L h m t :: R) := by
  rw [cnt_append, cnt_append, cnt_cons, cnt_lay]
  have hl := hs.len
  show _ ≤ cntT h t + _
  cases h with
  | zero =>
    show 0 + _ ≤ (its t).length + _
    have : (nodeCh 0 t).length = (its t).length := List.length_map ..
    omega
  | succ h =>
    obtain ⟨ps, cs0⟩ := t
    rw [kidsFrom, cnt_nodes]
    have h3 := sum_drop (ps.map fun p => cntT h p.2) (ix (ps.map (·.1)) fr)
    rw [← List.map_drop] at h3
    have h4 : (nodeCh (h + 1) (ps, cs0)).length = cs0.length := rfl
    show _ ≤ cs0.length + (ps.map fun p => cntT h p.2).sum + _
    omega
theorem wgD {h:Nat} (H:∀ {lo : Key} {hi : Option Key} {t : TreeT h}, WF h lo hi t → Top h t → cntT h t ≤ 16 * wt h t):∀ (ps : List (Key × TreeT h)) {lo hi : Option Key}, Chain (fun f m t => WF h f m t ∧ Top h t) lo hi ps → (ps.map fun p => cntT h p.2).sum ≤ 16 * (ps.map fun p => wt h p.2).sum
  | [], _, _, _ => by simp
  | (f, t) :: r, lo, hi, ⟨_, m, _, h2, h3⟩ => by
    have a := H h2.1 h2.2
    have b := wgD H r h3
    simp only [List.map_cons, List.sum_cons]
    omega
theorem cntT_le : ∀ (h : Nat) {lo : Key} {hi : Option Key} {t : TreeT h}, WF h lo hi t → Top h t → cntT h t ≤ 16 * wt h t
  | 0, lo, hi, l, _, ht => by
    have h1 : (its l).length ≤ 16 := ht
    show (its l).length ≤ 16 * (1 + ((its l).length - 16))
    omega
  | h + 1, lo, hi, (ps, cs), hw, _ => by
    have h1 := wgD (fun a b=>cntT_le h a b) ps hw.1
    show cs.length + (ps.map fun p => cntT h p.2).sum ≤ 16 * (cs.length + (ps.map fun p => wt h p.2).sum)
    omega
def inTo (ub k : Key) : Prop := ub = [] ∨ k < ub
/-- The next change of a scan. -/
structure NextS (fr ub : Key) (D : Nat) (P : List Plc) (c : Ch) (P' : List Plc) : Prop where
  inv : SInv fr D P'
  size : size P' < size P
  cn : cnt P' < cnt P
  okc : okCh c
  ge : ¬ c.2.1 < fr
  ub' : inTo ub c.2.1
  here : left D P c.2.1 = c :: left D P' c.2.1
  same : ∀ k, k ≠ c.2.1 → ¬ k < fr → left D P k = left D P' k
  ahead : ∀ k, k < c.2.1 → ¬ k < fr → left D P k = []
def NextN (fr ub : Key) (D : Nat) (P : List Plc) : Prop := ∀ k, ¬ k < fr → inTo ub k → left D P k = []
def addIt (I : List It) (key : Key) (s : Option Key) : List It := I ++ (s.map fun v => (key, v)).toList
/-- A scan under way. -/
structure ScI (V : Key → Option Key) (fr ub : Key) (D : Nat) (I : List It) (key : Key) (s : Option Key) (P : List Plc) : Prop where
  inv : SInv fr D P
  rise : Rising I
  mem : ∀ x ∈ I, x.1 < key ∧ ¬ x.1 < fr ∧ inTo ub x.1
  past : ∀ k, ¬ k < fr → k < key → left D P k = [] ∧ look I k = V k
  here : ¬ key < fr → V key = afterAll (left D P key) key s
  rest : ∀ k, ¬ k < fr → key < k → V k = afterAll (left D P k) k none
  st : s = none ∨ ¬ key < fr ∧ inTo ub key
  len : ∀ v, s = some v → v.length ≤ 16
theorem addIt_none (I : List It) (key : Key) : addIt I key none = I := by simp [addIt]
theorem addIt_some (I : List It) (key v : Key) : addIt I key (some v) = I ++ [(key, v)] := rfl
theorem addIt_rise {I : List It} {key : Key} (h : Rising I) (hm : ∀ x ∈ I, x.1 < key) (s : Option Key) : Rising (addIt I key s) := by
  cases s with
  | none => rw [addIt_none]; exact h
  | some v =>
    rw [addIt_some]
    exact List.pairwise_append.2 ⟨h, List.pairwise_singleton .., fun x hx y hy => by rw [List.mem_singleton.1 hy]; exact hm x hx⟩
theorem addIt_look {I : List It} {key : Key} (hm : ∀ x ∈ I, x.1 < key) (s : Option Key) (k : Key) : look (addIt I key s) k = if k = key then s else look I k := by
  have hn : look I key = none := look_none fun x hx e => by have := hm x hx; rw [e] at this; exact lt_ir _ this
  cases s with
  | none =>
    rw [addIt_none]
    by_cases e : k = key
    · rw [if_pos e, e, hn]
    · rw [if_neg e]
  | some v =>
    rw [addIt_some, look_append]
    by_cases e : k = key
    · rw [if_pos e, e, hn]; simp [look]
    · rw [if_neg e]
      have : look [(key, v)] k = none := by rw [look, if_neg fun z => e z.symm]; rfl
      rw [this]; simp
theorem ScI.start {V : Key → Option Key} {fr ub : Key} {D : Nat} {P : List Plc} (hi : SInv fr D P) (hV : ∀ k, ¬ k < fr → V k = afterAll (left D P k) k none) : ScI V fr ub D [] [] none P :=
  ⟨hi, List.Pairwise.nil, fun x hx => absurd hx (by simp), fun k _ hk => absurd hk (by simp), fun h => hV _ h, fun k hk _ => hV k hk, .inl rfl, fun v hv => by cases hv⟩
theorem one_self (s : Option Key) (c : Ch) : one c.2.1 s c = after s c := if_pos rfl
theorem ScI.stay {V : Key → Option Key} {fr ub : Key} {D : Nat} {I : List It} {key : Key} {s : Option Key} {P P' : List Plc} {c : Ch} (h : ScI V fr ub D I key s P) (hn : NextS fr ub D P c P') (he : c.2.1 = key) : ScI V fr ub D I key (after s c) P' := by
  refine ⟨hn.inv, h.rise, h.mem, fun k hk hlt => ?_, fun hk => ?_, fun k hk hlt => ?_, .inr ⟨by rw [← he]; exact hn.ge, by rw [← he]; exact hn.ub'⟩, fun v hv => after_some (okCh_key hn.okc).2 hv⟩
  · have h1 := h.past k hk hlt
    rw [← hn.same k (fun e => by rw [e, he] at hlt; exact lt_ir _ hlt) hk]; exact h1
  · rw [h.here hk, ← he, hn.here, afterAll_cons, one_self]
  · rw [h.rest k hk hlt, hn.same k (fun e => by rw [e, he] at hlt; exact lt_ir _ hlt) hk]
theorem ScI.turn {V : Key → Option Key} {fr ub : Key} {D : Nat} {I : List It} {key : Key} {s : Option Key} {P P' : List Plc} {c : Ch} (h : ScI V fr ub D I key s P) (hn : NextS fr ub D P c P') (he : c.2.1 ≠ key) : ScI V fr ub D (addIt I key s) c.2.1 (after none c) P' := by
  have hkc : key < c.2.1 := by
    refine Classical.byContradiction fun q => ?_
    have hlt : c.2.1 < key := Classical.byContradiction fun z => he (tri _ _ z q)
    have := (h.past _ hn.ge hlt).1
    rw [hn.here] at this; cases this
  have hm : ∀ x ∈ I, x.1 < key := fun x hx => (h.mem x hx).1
  refine ⟨hn.inv, addIt_rise h.rise hm s, fun x hx => ?_, fun k hk hlt => ?_, fun hk => ?_, fun k hk hlt => ?_, .inr ⟨hn.ge, hn.ub'⟩, fun v hv => after_some (okCh_key hn.okc).2 hv⟩
  · rcases List.mem_append.1 hx with q | q
    · have := h.mem x q; exact ⟨lt_tr this.1 hkc, this.2⟩
    · cases hs : s with
      | none => rw [hs] at q; simp at q
      | some v =>
        rw [hs] at q; simp at q
        rcases h.st with z | z
        · rw [z] at hs; cases hs
        · rw [q]; exact ⟨hkc, z.1, z.2⟩
  · have hne : k ≠ c.2.1 := fun e => by rw [e] at hlt; exact lt_ir _ hlt
    have h1 := hn.ahead k hlt hk
    rw [← hn.same k hne hk]
    refine ⟨h1, ?_⟩
    rw [addIt_look hm]
    by_cases e : k = key
    · subst e
      rw [if_pos rfl, h.here hk, h1]; rfl
    · rw [if_neg e]
      by_cases q : k < key
      · exact (h.past k hk q).2
      · have q2 : key < k := Classical.byContradiction fun z => e (tri _ _ q z)
        rw [h.rest k hk q2, h1]
        exact look_none fun x hx e => by have := hm x hx; rw [e] at this; exact q this
  · rw [h.rest _ hn.ge hkc, hn.here, afterAll_cons, one_self]
  · rw [h.rest k hk (lt_tr hkc hlt), hn.same k (fun e => by rw [e] at hlt; exact lt_ir _ hlt) hk]
open Classical in
theorem ScI.told {V : Key → Option Key} {fr ub : Key} {D : Nat} {I : List It} {key : Key} {s : Option Key} {P : List Plc} (h : ScI V fr ub D I key s P) (hn : NextN fr ub D P) : Rising (addIt I key s) ∧ ∀ k, (¬ k < fr ∧ inTo ub k → look (addIt I key s) k = V k) ∧ (¬ (¬ k < fr ∧ inTo ub k) → look (addIt I key s) k = none) := by
  have hm : ∀ x ∈ I, x.1 < key := fun x hx => (h.mem x hx).1
  refine ⟨addIt_rise h.rise hm s, fun k => ⟨fun hk => ?_, fun hk => ?_⟩⟩
  · rw [addIt_look hm]
    have hl := hn k hk.1 hk.2
    by_cases e : k = key
    · subst e; rw [if_pos rfl, h.here hk.1, hl]; rfl
    · rw [if_neg e]
      by_cases q : k < key
      · exact (h.past k hk.1 q).2
      · have q2 : key < k := Classical.byContradiction fun z => e (tri _ _ q z)
        rw [h.rest k hk.1 q2, hl]
        exact look_none fun x hx e => by have := hm x hx; rw [e] at this; exact q this
  · rw [addIt_look hm]
    by_cases e : k = key
    · rw [if_pos e]
      rcases h.st with z | z
      · exact z
      · rw [← e] at z; exact absurd z hk
    · rw [if_neg e]
      exact look_none fun x hx e => by have := h.mem x hx; rw [e] at this; exact hk this.2
end Go.Proofs.YtolgpnaoaodepaaGreat.Tr
/- The next change of a scan, by what a heap gives. -/
namespace Go.Proofs.YtolgpnaoaodepaaGreat.Tr

/-- Nodes have been opened since, no more. -/
structure Opened (fr : Key) (D : Nat) (P P1 : List Plc) : Prop where
  inv : SInv fr D P1
  fits : size P1 ≤ size P
  cn : cnt P1 ≤ cnt P
  same : ∀ k, ¬ k < fr → left D P k = left D P1 k
theorem Opened.start {fr : Key} {D : Nat} {P : List Plc} (h : SInv fr D P) : Opened fr D P P := ⟨h, Nat.le_refl _, Nat.le_refl _, fun _ _ => rfl⟩
theorem size_perm {P Q : List Plc} (h : P.Perm Q) : size P = size Q := (h.map Plc.size).sum_nat
theorem Opened.perm {fr : Key} {D : Nat} {P P1 P2 : List Plc} (h : Opened fr D P P1) (hp : P1.Perm P2) : Opened fr D P P2 :=
  ⟨h.inv.perm hp, by rw [← size_perm hp]; exact h.fits, by rw [← cnt_perm hp]; exact h.cn, fun k hk => (h.same k hk).trans (left_perm hp h.inv k)⟩
theorem Opened.open' {fr : Key} {D L h : Nat} {f : Key} {m : Option Key} {t : TreeT h} {P R : List Plc} {cs : List Ch} (ho : Opened fr D P (.nd f L h m t :: R)) (hs : Scd fr (nodeCh h t) cs) : Opened fr D P (kidsFrom fr L m h t ++ (lay L f m cs ++ R)) ∧ size (kidsFrom fr L m h t ++ (lay L f m cs ++ R)) < size (.nd f L h m t :: R) := by
  obtain ⟨h1, h2, h3⟩ := step_nd ho.inv hs
  exact ⟨⟨h1, by have := ho.fits; omega, Nat.le_trans (cnt_open hs) ho.cn, fun k hk => (ho.same k hk).trans (h2 k hk)⟩, h3⟩
theorem Opened.take {fr ub : Key} {D L : Nat} {f : Key} {m : Option Key} {c : Ch} {cs : List Ch} {P R P' : List Plc} (ho : Opened fr D P (.ch L f m c cs :: R)) (hmin : ∀ q ∈ R, ¬ q.less (.ch L f m c cs)) (hto : inTo ub c.2.1) (hp : P'.Perm (lay L f m cs ++ R)) : NextS fr ub D P c P' := by
  obtain ⟨h1, h2, h3, h4⟩ := step_ch ho.inv hmin
  have hok := ho.inv.ok _ (List.mem_cons_self ..)
  have hc := hok.2.2 c (List.mem_cons_self ..)
  have hsz : size (lay L f m cs ++ R) < size (.ch L f m c cs :: R) := by
    rw [size_append, size_lay, size_cons]
    show _ < cs.length + 1 + _
    omega
  have hcz : cnt (lay L f m cs ++ R) < cnt (.ch L f m c cs :: R) := by
    rw [cnt_append, cnt_lay, cnt_cons]
    show _ < cs.length + 1 + _
    omega
  refine ⟨h1.perm hp.symm, by rw [size_perm hp]; have := ho.fits; omega, by rw [cnt_perm hp]; have := ho.cn; omega, hc.2.2, hc.1, hto, ?_, fun k hk hf => ?_, fun k hk hf => ?_⟩
  · rw [ho.same _ hc.1, h2, left_perm hp.symm h1]
  · rw [ho.same k hf, h3 k hk, left_perm hp.symm h1]
  · rw [ho.same k hf, h4 k hk]
theorem Opened.stop {fr ub : Key} {D : Nat} {p : Plc} {P R : List Plc} (ho : Opened fr D P (p :: R)) (hmin : ∀ q ∈ R, ¬ q.less p) (hto : ¬ inTo ub p.key) : NextN fr ub D P := fun k hk hkt => by
  rw [ho.same k hk]
  refine left_ahead ho.inv hmin ?_
  rcases hkt with q | q
  · exact absurd (.inl q) hto
  · exact lt_le q (fun z => hto (.inr z))
theorem Opened.none {fr ub : Key} {D : Nat} {P : List Plc} (ho : Opened fr D P []) : NextN fr ub D P := fun k hk _ => by
  rw [ho.same k hk]
  exact down_nil fun _ _ => rfl
end Go.Proofs.YtolgpnaoaodepaaGreat.Tr
/- A scan in memory: its places, what they say. -/
namespace Go.Proofs.YtolgpnaoaodepaaGreat.Tr

/-- How many places there may be. -/
def Plc.wt : Plc → Nat
  | .inl ⟨_,_,h,_,t⟩ => Tr.wt h t
  | .inr ⟨_,_,_,_,_⟩ => 1
def wtP (P : List Plc) : Nat := (P.map Plc.wt).sum
theorem wtP_cons (p : Plc) (P : List Plc) : wtP (p :: P) = p.wt + wtP P := by simp [wtP]
theorem wtP_append (P Q : List Plc) : wtP (P ++ Q) = wtP P + wtP Q := by simp [wtP]
theorem wtP_perm {P Q : List Plc} (h : P.Perm Q) : wtP P = wtP Q := (h.map Plc.wt).sum_nat
theorem wtP_lay (L : Nat) (f : Key) (m : Option Key) (cs : List Ch) : wtP (lay L f m cs) ≤ cs.length ∧ wtP (lay L f m cs) ≤ 1 := by cases cs <;> simp [lay, wtP, Plc.wt]
theorem wtP_nodes {L h : Nat} {hi : Option Key} : ∀ (ps : List (Key × TreeT h)), wtP (nodes L ps hi) = wts ps
  | [] => rfl
  | (f, t) :: r => by rw [nodes, wtP_cons, wtP_nodes r, wts_cons]; rfl
theorem wtP_len {fr : Key} {D : Nat} : ∀ {P : List Plc}, (∀ p ∈ P, p.ok fr D) → P.length ≤ wtP P
  | [], _ => Nat.zero_le _
  | p :: P, h => by
    have h1 := wtP_len fun q hq => h q (List.mem_cons_of_mem _ hq)
    have h2 : 1 ≤ p.wt := by
      have := h p (List.mem_cons_self ..)
      cases p using Tr.Plc.twoP with
      | nd f L h' m t => exact wt_pos this.2.2.1 this.1
      | ch L f m c cs => exact Nat.le_refl _
    rw [wtP_cons, List.length_cons]; omega
theorem wtP_open {fr : Key} {D L h : Nat} {f : Key} {m : Option Key} {t : TreeT h} {R : List Plc} {cs : List Ch} (hok : (Plc.nd f L h m t).ok fr D) (hs : Scd fr (nodeCh h t) cs) : wtP (kidsFrom fr L m h t ++ (lay L f m cs ++ R)) ≤ wtP (.nd f L h m t :: R) := by
  rw [wtP_append, wtP_append, wtP_cons]
  have h1 := wtP_lay L f m cs
  have hl := hs.len
  show _ ≤ Tr.wt h t + _
  cases h with
  | zero =>
    have := wt_pos hok.2.2.1 hok.1
    show 0 + _ ≤ _
    omega
  | succ h =>
    obtain ⟨ps, cs0⟩ := t
    rw [kidsFrom, wtP_nodes]
    have h3 : wts (ps.drop (ix (ps.map (·.1)) fr)) ≤ wts ps := by
      have := List.take_append_drop (ix (ps.map (·.1)) fr) ps
      have h4 := congrArg wts this
      rw [wts_append] at h4
      omega
    have h4 : (nodeCh (h + 1) (ps, cs0)).length = cs0.length := rfl
    show _ ≤ cs0.length + wts ps + _
    omega
theorem perm_map {α β : Type} (f : α → β) {M N : List β} (h : M.Perm N) : ∀ L : List α, L.map f = M → ∃ L', L.Perm L' ∧ L'.map f = N := by
  induction h with
  | nil => intro L hL; exact ⟨L, List.Perm.refl _, hL⟩
  | cons x _ ih =>
    intro L hL
    cases L with
    | nil => cases hL
    | cons y r =>
      simp only [List.map_cons, List.cons.injEq] at hL
      obtain ⟨L', h1, h2⟩ := ih r hL.2
      exact ⟨y :: L', h1.cons y, by rw [List.map_cons, h2, hL.1]⟩
  | swap x y r =>
    intro L hL
    match L, hL with
    | a :: b :: r', hL =>
      simp only [List.map_cons, List.cons.injEq] at hL
      exact ⟨b :: a :: r', List.Perm.swap _ _ _, by rw [List.map_cons, List.map_cons, hL.1, hL.2.1, hL.2.2]⟩
  | trans _ _ ih1 ih2 =>
    intro L hL
    obtain ⟨L1, h1, h2⟩ := ih1 L hL
    obtain ⟨L2, h3, h4⟩ := ih2 L1 h2
    exact ⟨L2, h1.trans h3, h4⟩
end Go.Proofs.YtolgpnaoaodepaaGreat.Tr
namespace Go.Proofs.YtolgpnaoaodepaaGreat
open Go.RowKit

theorem ltK_ord (K : Nat → ByteArray × Nat) : Hp.Ord (ltK K) := by
  have hl : ∀ a b, ltK K a b ↔ ((K a).1.data.toList < (K b).1.data.toList ∨ (K a).1.data.toList = (K b).1.data.toList ∧ (K b).2 < (K a).2) := fun a b => by
    unfold ltK lessB
    by_cases e : (K a).1.data.toList = (K b).1.data.toList
    · rw [if_pos e, decide_eq_true_eq]
      exact ⟨fun q => .inr ⟨e, q⟩, fun q => q.elim (fun z => by rw [e] at z; exact absurd z (Tr.lt_ir _)) (·.2)⟩
    · rw [if_neg e, decide_eq_true_eq]
      exact ⟨.inl, fun q => q.elim id (fun z => absurd z.1 e)⟩
  constructor
  · intro a b h g
    rw [hl] at h g
    rcases h with h | ⟨h, h'⟩ <;> rcases g with g | ⟨g, g'⟩
    · exact Tr.lt_ir _ (Tr.lt_tr h g)
    · rw [g] at h; exact Tr.lt_ir _ h
    · rw [h] at g; exact Tr.lt_ir _ g
    · omega
  · intro a b c h g q
    rw [hl] at h g q
    have h1 : ¬ (K b).1.data.toList < (K a).1.data.toList := fun z => h (.inl z)
    have g1 : ¬ (K c).1.data.toList < (K b).1.data.toList := fun z => g (.inl z)
    rcases q with q | ⟨q, q'⟩
    · exact Tr.le_tr h1 g1 q
    · have e : (K b).1.data.toList = (K a).1.data.toList := Tr.tri _ _ h1 (by rw [← q]; exact g1)
      exact h (.inr ⟨e, Classical.byContradiction fun z => g (.inr ⟨by rw [q, e], by omega⟩)⟩)
theorem HpQ.congr {sb : Nat} {fr ub : ByteArray} {v : Value} {K K' : Nat → ByteArray × Nat} {bs : List Nat} {w : World} (h : HpQ sb fr ub v K bs w) (hK : ∀ b ∈ bs, K' b = K b) : HpQ sb fr ub v K' bs w := by
  refine ⟨h.sc, h.row, fun b hb => by rw [hK b hb]; exact h.pl b hb, fun k h0 hk => ?_⟩
  have m1 : Hp.nth 0 bs k ∈ bs := by rw [Hp.nth_get 0 bs hk]; exact List.getElem_mem hk
  have hk2 : (k - 1) / 2 < bs.length := by omega
  have m2 : Hp.nth 0 bs ((k - 1) / 2) ∈ bs := by rw [Hp.nth_get 0 bs hk2]; exact List.getElem_mem hk2
  unfold ltK
  rw [hK _ m1, hK _ m2]
  exact h.heap k h0 hk
variable {A : List Nat}
/-- A place in memory. -/
def PlM (w0 : World) (A : List Nat) (W : World) (b : Nat) (kv : ByteArray × Nat) : Tr.Plc → Prop
  | .inl ⟨f,L,h,_,t⟩ => kv.1.data.toList = f ∧ kv.2 = L ∧ ∃ p F, PlB W b kv.1 L (some ⟨p, 0, none⟩) (.slice none 0 0) ∧ Rep h w0 p t F
  | .inr ⟨L,_,_,c,cs⟩ => kv.1.data.toList = c.2.1 ∧ kv.2 = L ∧ ∃ g o cap ml cur, PlB W b kv.1 L none (.slice (some ⟨g, o, none⟩) ml.length cap) ∧ plainCh ml = c :: cs ∧ W.heap[g]? = some (.cells cur 34 (0, 0)) ∧ (∀ j u, (ccells ml)[j]? = some u → W.cell? ⟨g, o + j, none⟩ = some u) ∧ ml.length ≤ cap ∧ g ∉ A ∧ ml.length ≤ 1000
theorem PlM.plb {w0 W : World} {b : Nat} {kv : ByteArray × Nat} {p : Tr.Plc} (h : PlM w0 A W b kv p) : (∃ un ch, PlB W b kv.1 kv.2 un ch) ∧ kv.1.data.toList = p.key ∧ kv.2 = p.lv := by
  cases p using Tr.Plc.twoP with
  | nd f L h' m t => obtain ⟨h1, h2, p, F, h3, h4⟩ := h; exact ⟨⟨_, _, by rw [h2]; exact h3⟩, h1, h2⟩
  | ch L f m c cs => obtain ⟨h1, h2, g, o, cap, ml, cur, h3, h4⟩ := h; exact ⟨⟨_, _, by rw [h2]; exact h3⟩, h1, h2⟩
theorem PlM.keep {w0 W W' : World} {b sb : Nat} {kv : ByteArray × Nat} {p : Tr.Plc} {fr ub : ByteArray} {v : Value} {bs : List Nat} (h : PlM w0 A W b kv p) (hs : ScB W sb fr ub v) (ho : OwnsPt 0 W v bs) (hk : ∀ g, g < W.heap.size → g ≠ sb → v.ownBlock ≠ some g → W'.heap[g]? = W.heap[g]?) : PlM w0 A W' b kv p := by
  have hkb : ∀ cs T, W.heap[b]? = some (.cells cs T (0, 0)) → T = 139 → W'.heap[b]? = W.heap[b]? := fun cs T hb hT => by
    subst hT
    refine hk b (Array.getElem?_eq_some_iff.1 hb).1 (fun e => ?_) (blk_type hb ho (by decide))
    subst e; unfold ScB at hs; rw [hb] at hs; simp at hs
  cases p using Tr.Plc.twoP with
  | nd f L h' m t =>
    obtain ⟨h1, h2, p, F, h3, h4⟩ := h
    exact ⟨h1, h2, p, F, (hkb _ _ h3 rfl).trans h3, h4⟩
  | ch L f m c cs =>
    obtain ⟨h1, h2, g, o, cap, ml, cur, h3, h4, h5, h6, h7⟩ := h
    have hkg : W'.heap[g]? = W.heap[g]? := by
      refine hk g (Array.getElem?_eq_some_iff.1 h5).1 (fun e => ?_) (blk_type h5 ho (by decide))
      subst e; unfold ScB at hs; rw [h5] at hs; simp at hs
    exact ⟨h1, h2, g, o, cap, ml, cur, (hkb _ _ h3 rfl).trans h3, h4, hkg.trans h5, fun j u hj => (World.cell?_of_block (w := W) (a := ⟨g, o + j, none⟩) hkg).trans (h6 j u hj), h7⟩
theorem lt_less {w0 W : World} {K : Nat → ByteArray × Nat} {a b : Nat} {p q : Tr.Plc} (hp : PlM w0 A W a (K a) p) (hq : PlM w0 A W b (K b) q) : p.less q ↔ ltK K a b := by
  obtain ⟨-, k1, l1⟩ := hp.plb
  obtain ⟨-, k2, l2⟩ := hq.plb
  unfold Tr.Plc.less ltK lessB
  rw [← k1, ← k2, ← l1, ← l2]
  by_cases e : (K a).1.data.toList = (K b).1.data.toList
  · rw [if_pos e, decide_eq_true_eq]
    exact ⟨fun q => q.elim (fun z => by rw [e] at z; exact absurd z (Tr.lt_ir _)) (·.2), fun q => .inr ⟨e, q⟩⟩
  · rw [if_neg e, decide_eq_true_eq]
    exact ⟨fun q => q.elim id (fun z => absurd z.1 e), .inl⟩
/-- A scan in memory. -/
structure ScW (w0 : World) (A : List Nat) (sb : Nat) (fr ub : ByteArray) (P : List Tr.Plc) (v : Value) (K : Nat → ByteArray × Nat) (L : List (Nat × Tr.Plc)) (W : World) : Prop where
  hp : HpQ sb fr ub v K (L.map (·.1)) W
  pm : (L.map (·.2)).Perm P
  pl : ∀ x ∈ L, PlM w0 A W x.1 (K x.1) x.2
  bel : Below w0.heap.size w0 W
  sbn : w0.heap.size ≤ sb
  vn : ∀ g, v.ownBlock = some g → w0.heap.size ≤ g
def ScM (w0 : World) (A : List Nat) (sb : Nat) (fr ub : ByteArray) (P : List Tr.Plc) (W : World) : Prop := ∃ v K L, ScW w0 A sb fr ub P v K L W
theorem ScW.below {w0 : World} {sb : Nat} {fr ub : ByteArray} {P : List Tr.Plc} {v : Value} {K : Nat → ByteArray × Nat} {L : List (Nat × Tr.Plc)} {W W' : World} (h : ScW w0 A sb fr ub P v K L W) (hb : Below W.heap.size W W') : ScW w0 A sb fr ub P v K L W' := by
  refine ⟨⟨(hb.block sb h.hp.sc.lt).trans h.hp.sc, row_below h.hp.row hb (Nat.le_refl _), fun b hb' => by obtain ⟨u, c, q⟩ := h.hp.pl b hb'; exact ⟨u, c, (hb.block b q.lt).trans q⟩, h.hp.heap⟩, h.pm, fun x hx => (h.pl x hx).keep h.hp.sc h.hp.row fun g hg _ _ => hb.block g hg, h.bel.trans (hb.mono h.bel.size), h.sbn, h.vn⟩
end Go.Proofs.YtolgpnaoaodepaaGreat
