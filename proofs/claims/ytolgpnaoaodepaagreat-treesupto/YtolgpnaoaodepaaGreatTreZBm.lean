/- slices.Replace of a part, wherever; areSmall. -/
import Derived.Test.YtolgpnaoaodepaaGreatTreXm
import Derived.BigQuiet
namespace Go.Proofs.YtolgpnaoaodepaaGreat
open Go.RowKit

theorem replaceP_any (v vv : Value) (pl xl : List (ByteArray × Nat)) (i : Nat) (w : World) (hi : i < pl.length) (h : OwnsP 0 w v pl) (hx : OwnsP 0 w vv xl) (hx1 : 0 < xl.length) (hl : pl.length ≤ 1000000) (hl2 : xl.length ≤ 1000000) (hne : ∀ g, v.ownBlock = some g → vv.ownBlock ≠ some g) :
    Calls Tryz.prog 175 #[v, .int .i64 (i : Nat), .int .i64 ((i : Nat) + 1), vv] w fun r w' => ∃ v', r = .returned v' ∧ RepQ v (repP pl i xl) w v' w' := by
  obtain ⟨g, cap, rfl, hc, -, -, -, -⟩ := h.at i hi
  obtain ⟨gv, cv, rfl, hcv, -, -, -, -⟩ := hx.at 0 hx1
  have hgn : g ≠ gv := fun e => hne g rfl (by rw [e]; rfl)
  by_cases he : i + 1 = pl.length
  · exact replaceEnd_any g cap gv cv pl xl i w he h hx hx1 hl hl2
  · by_cases hroom : pl.length - 1 + xl.length ≤ cap
    · by_cases h1 : xl.length = 1
      · obtain ⟨x, rfl⟩ : ∃ x, xl = [x] := by
          match xl, h1 with
          | [x], _ => exact ⟨x, rfl⟩
        exact replaceOne_any g cap gv cv pl x i w (by omega) h hx hl
      · exact replaceIn_any g cap gv cv pl xl i w (by omega) hroom h hx (by omega) hl hl2 hgn
    · exact replaceGrow_any g cap gv cv pl xl i w (by omega) (by omega) h hx hx1 hl hl2

set_option maxHeartbeats 400000 in
theorem areSmall_any (a b : Nat) (ai ap ac bi bp bc : Value) (a1 a2 b1 b2 : Option Addr) (n1 n2 m1 m2 c1 c2 d1 d2 : Nat) (w : World) (ha : NodT w a ai ap ac) (hb : NodT w b bi bp bc) (e1 : ai = .slice a1 n1 c1) (e2 : ap = .slice a2 n2 c2) (e3 : bi = .slice b1 m1 d1) (e4 : bp = .slice b2 m2 d2) (h1 : n1 ≤ 1000000) (h2 : n2 ≤ 1000000) (h3 : m1 ≤ 1000000) (h4 : m2 ≤ 1000000) :
    Calls Tryz.prog 224 #[.pointer (some ⟨a, 0, none⟩), .pointer (some ⟨b, 0, none⟩)] w fun r w' => r = .returned (.bool (decide (n1 + m1 ≤ 12) && decide (n2 + m2 ≤ 3))) ∧ Below w.heap.size w w' := by
  subst e1 e2 e3 e4
  obtain ⟨x0, x1, x2, -⟩ := ha.cells
  obtain ⟨y0, y1, y2, -⟩ := hb.cells
  by_cases q : n1 + m1 ≤ 12
  · have hq : decide ((n1 : Int) + (m1 : Int) ≤ 12) = true := decide_eq_true (by omega)
    have hq' : (n1 : Int) + (m1 : Int) ≤ 12 := by omega
    have hq2 : decide ((n2 : Int) + (m2 : Int) ≤ 3) = decide (n2 + m2 ≤ 3) := by by_cases z : n2 + m2 ≤ 3 <;> simp [z] <;> omega
    go_enter Tryz.func224, Tryz.ntmps224
    go_upto_region 1 with fail
    go_quiet (fail)
    go_wp2_with fail
    go_ret
    exact ⟨by simp [q], below_drewN (Below.refl _ _) _⟩
  · have hq : decide ((n1 : Int) + (m1 : Int) ≤ 12) = false := decide_eq_false (by omega)
    go_enter Tryz.func224, Tryz.ntmps224
    go_upto_region 1 with fail
    go_quiet (fail)
    go_wp2_with fail
    go_ret
    exact ⟨by simp [q], below_drewN (Below.refl _ _) _⟩
end Go.Proofs.YtolgpnaoaodepaaGreat
/- The walk of cut. -/
namespace Go.Proofs.YtolgpnaoaodepaaGreat
open Go.RowKit

set_option maxHeartbeats 400000 in
set_option maxRecDepth 20000 in
theorem cutSmall_any (fb : ByteArray) (pb : Nat) (a1 a2 : Option Addr) (n1 n2 c1 c2 : Nat) (vc : Value) (w : World) (hn : NodT w pb (.slice a1 n1 c1) (.slice a2 n2 c2) vc) (h1 : n1 ≤ 16) (h2 : n2 ≤ 4) :
    Calls Tryz.prog 64 #[.agg #[.string fb, .pointer (some ⟨pb, 0, none⟩)]] w fun r w' => ∃ v, r = .returned v ∧ OwnsP w.heap.size w' v [(fb, pb)] ∧ Below w.heap.size w w' := by
  have HB0 := (Below.refl w.heap.size w).alloc (Nat.le_refl _) (.cells #[.string fb, .pointer (some ⟨pb, 0, none⟩)] 132)
  have HB1 : Hid (Below w.heap.size w ((w.alloc (.cells #[.string fb, .pointer (some ⟨pb, 0, none⟩)] 132)).alloc (.cells #[.string fb, .pointer (some ⟨pb, 0, none⟩)] 132))) := HB0.alloc (by simp) _
  have hn0 : NodT (w.alloc (.cells #[.string fb, .pointer (some ⟨pb, 0, none⟩)] 132)) pb (.slice a1 n1 c1) (.slice a2 n2 c2) vc := (HB0.block pb hn.lt).trans hn
  obtain ⟨x0, x1, x2, -⟩ := hn0.cells
  have hpl := hn.lt
  have q1 : decide ((16 : Int) < (n1 : Int)) = false := decide_eq_false (by omega)
  have q2 : decide ((4 : Int) < (n2 : Int)) = false := decide_eq_false (by omega)
  have HR : Hid (OwnsP w.heap.size ((w.alloc (.cells #[.string fb, .pointer (some ⟨pb, 0, none⟩)] 132)).alloc (.cells #[.string fb, .pointer (some ⟨pb, 0, none⟩)] 132)) (.slice (some ⟨w.heap.size + 1, 0, none⟩) 1 1) [(fb, pb)]) := by
    have hs : (w.alloc (.cells #[.string fb, .pointer (some ⟨pb, 0, none⟩)] 132)).heap.size = w.heap.size + 1 := by simp
    refine ⟨rfl, .inr ⟨w.heap.size + 1, 1, #[.string fb, .pointer (some ⟨pb, 0, none⟩)], rfl, by omega, ?_, Nat.le_refl _, by unfold maxLen; omega, rfl, rfl⟩⟩
    rw [← hs]; exact heap_alloc_new _ _
  clear HB0 hn0 hn
  go_enter Tryz.func64, Tryz.ntmps64
  go_wp2_with fail
  go_ret
  exact ⟨_, rfl, HR.out, HB1.out⟩
set_option maxHeartbeats 400000 in
set_option maxRecDepth 20000 in
theorem cutL_any (fb : ByteArray) (pb : Nat) (vi : Value) (il : List (ByteArray × ByteArray)) (w : World) (hn : NodT w pb vi (.slice none 0 0) (.slice none 0 0)) (hv : OwnsI 0 w vi il) (hl : 16 < il.length) (hl2 : il.length ≤ 100000) :
    Calls Tryz.prog 64 #[.agg #[.string fb, .pointer (some ⟨pb, 0, none⟩)]] w fun r w' => ∃ v pl G, r = .returned v ∧ CtQ 0 w (Tr.leafParts fb.data.toList (Tr.shares (plain il) 16)) v pl G w' ∧ (∀ g ∈ G, w.heap.size ≤ g) ∧ Below w.heap.size w w' := by
  have HB0 := hid ((Below.refl w.heap.size w).alloc (Nat.le_refl _) (.cells #[.string fb, .pointer (some ⟨pb, 0, none⟩)] 132))
  have hn0 : NodT (w.alloc (.cells #[.string fb, .pointer (some ⟨pb, 0, none⟩)] 132)) pb vi (.slice none 0 0) (.slice none 0 0) := (HB0.out.block pb hn.lt).trans hn
  obtain ⟨va, vc, rfl⟩ := rowShape hv
  obtain ⟨x0, x1, x2, -⟩ := hn0.cells
  have hpl := hn.lt
  have HC := hid (cutLeaf_any fb pb _ il _ hn0 (row_below hv HB0.out (Nat.le_refl _)) hl hl2)
  have q1 : decide ((16 : Int) < (il.length : Int)) = true := decide_eq_true (by omega)
  clear hn0 hn hv
  go_enter Tryz.func64, Tryz.ntmps64
  go_wp2_with fail
  refine HC.out.mono ?_
  rintro r w1 ⟨v, pl, G, rfl, hq, hG, hb⟩
  have HF : Hid (CtQ 0 w (Tr.leafParts fb.data.toList (Tr.shares (plain il) 16)) v pl G w1 ∧ (∀ g ∈ G, w.heap.size ≤ g) ∧ Below w.heap.size w w1) := by
    have hs := HB0.out.size
    exact ⟨⟨row_shrink hq.row hs, hq.kids, hq.nd⟩, fun g hg => Nat.le_trans hs (hG g hg), HB0.out.trans (hb.mono hs)⟩
  clear hq hG hb HC
  go_wp2_with fail
  go_ret
  exact ⟨_, _, G, rfl, HF.out⟩
set_option maxHeartbeats 400000 in
set_option maxRecDepth 20000 in
theorem cutB_any (fb : ByteArray) (pb : Nat) (vp vc : Value) (pl0 : List (ByteArray × Nat)) (ml : List (Int × ByteArray × ByteArray)) (w : World) (hn : NodT w pb (.slice none 0 0) vp vc) (hv : OwnsP 0 w vp pl0) (hcs : OwnsC 0 w vc ml) (hl : 4 < pl0.length) (hl2 : pl0.length ≤ 100000) (hml : ml.length ≤ 100000) :
    Calls Tryz.prog 64 #[.agg #[.string fb, .pointer (some ⟨pb, 0, none⟩)]] w fun r w' => ∃ v pl vs vcs C, r = .returned v ∧ CbQ w pl vs (Tr.shares pl0 4) vcs ml v C w' := by
  have HB0 := hid ((Below.refl w.heap.size w).alloc (Nat.le_refl _) (.cells #[.string fb, .pointer (some ⟨pb, 0, none⟩)] 132))
  have hn0 : NodT (w.alloc (.cells #[.string fb, .pointer (some ⟨pb, 0, none⟩)] 132)) pb (.slice none 0 0) vp vc := (HB0.out.block pb hn.lt).trans hn
  obtain ⟨va, vca, rfl⟩ := rowShape hv
  obtain ⟨x0, x1, x2, -⟩ := hn0.cells
  have hpl := hn.lt
  have HC := hid (cutBranch_any fb pb _ _ pl0 ml _ hn0 (row_below hv HB0.out (Nat.le_refl _)) (row_below hcs HB0.out (Nat.le_refl _)) hl hl2 hml)
  have q1 : decide ((4 : Int) < (pl0.length : Int)) = true := decide_eq_true (by omega)
  clear hn0 hn hv hcs
  go_enter Tryz.func64, Tryz.ntmps64
  go_wp2_with fail
  refine HC.out.mono ?_
  rintro r w1 ⟨v, pl, vs, vcs, C, rfl, hq⟩
  have HF : Hid (CbQ w pl vs (Tr.shares pl0 4) vcs ml v C w1) := by
    have hs := HB0.out.size
    exact ⟨hq.len, row_shrink hq.row hs, ⟨hq.many.n, fun i hi hi' => row_shrink (hq.many.o i hi hi') hs, hq.many.a⟩, hq.brm, hq.brc, hq.old, hq.pv, Nat.le_trans hs hq.hC, HB0.out.trans (hq.bel.mono hs)⟩
  clear hq HC
  go_wp2_with fail
  go_ret
  exact ⟨_, _, _, _, C, rfl, HF.out⟩
end Go.Proofs.YtolgpnaoaodepaaGreat
/- A branch that was cut: the trees that come of it. -/
namespace Go.Proofs.YtolgpnaoaodepaaGreat.Tr
def bkey {h : Nat} (s : List (Key × TreeT h)) : Key := (s.head?.map (·.1)).getD []
/-- The branches that come of one: each with its share of the parts, and the changes that belong to it. -/
def bparts {h : Nat} (ss : List (List (Key × TreeT h))) (cs : List Ch) : List (Key × TreeT (h + 1)) := ss.mapIdx fun j s => (bkey s, ((s, cs.filter fun c => decide (ix (ss.map bkey) c.2.1 = j)) : TreeT (h + 1)))
end Go.Proofs.YtolgpnaoaodepaaGreat.Tr
namespace Go.Proofs.YtolgpnaoaodepaaGreat
open Go.RowKit

theorem Kids.cutAt {α : Type} {R : Nat → α → List Nat → Prop} {pl : List (ByteArray × Nat)} {ps : List (Tr.Key × α)} {G : List Nat} (h : Kids R pl ps G) (q : Nat) : ∃ G1 G2, Kids R (pl.take q) (ps.take q) G1 ∧ Kids R (pl.drop q) (ps.drop q) G2 ∧ G = G1 ++ G2 := by
  have hl := h.len
  rw [← List.take_append_drop q ps] at h
  obtain ⟨A, B, G1, G2, rfl, hA, h1, h2, rfl⟩ := h.split
  have hA' : A.length = min q ps.length := by rw [hA, List.length_take]
  rw [List.length_append] at hl
  by_cases hq : q ≤ ps.length
  · have e1 : (A ++ B).take q = A := by rw [show q = A.length by omega, List.take_left]
    have e2 : (A ++ B).drop q = B := by rw [show q = A.length by omega, List.drop_left]
    rw [e1, e2]
    exact ⟨G1, G2, h1, h2, rfl⟩
  · have hB : B = [] := List.eq_nil_of_length_eq_zero (by omega)
    subst hB
    have e1 : (A ++ []).take q = A := by rw [List.append_nil]; exact List.take_of_length_le (by omega)
    have e2 : (A ++ []).drop q = [] := by rw [List.append_nil]; exact List.drop_of_length_le (by omega)
    rw [e1, e2]
    exact ⟨G1, G2, h1, h2, rfl⟩
/-- Shares of parts, in memory and what they say. -/
theorem kids_sh {α : Type} {R : Nat → α → List Nat → Prop} : ∀ (k : Nat) {pl : List (ByteArray × Nat)} {ps : List (Tr.Key × α)} {G : List Nat}, Kids R pl ps G → (k = 0 → pl = []) → ∃ Gs : List (List Nat), Gs.length = k ∧ Gs.flatten = G ∧ ∀ j (h1 : j < (Tr.sh k pl).length) (h2 : j < (Tr.sh k ps).length) (h3 : j < Gs.length), Kids R ((Tr.sh k pl)[j]'h1) ((Tr.sh k ps)[j]'h2) (Gs[j]'h3)
  | 0, pl, ps, G, h, h0 => by
    have hp := h0 rfl
    subst hp
    have hl := h.len
    have hps : ps = [] := List.eq_nil_of_length_eq_zero (by simpa using hl.symm)
    subst hps
    have hG : G = [] := h
    exact ⟨[], rfl, by rw [hG]; rfl, fun j h1 => by simp [Tr.sh] at h1⟩
  | k + 1, pl, ps, G, h, _ => by
    have hl := h.len
    obtain ⟨G1, G2, h1, h2, rfl⟩ := h.cutAt ((pl.length + k) / (k + 1))
    obtain ⟨Gs, e1, e2, e3⟩ := kids_sh k h2 (fun hk => by subst hk; rw [Nat.zero_add, Nat.add_zero, Nat.div_one, List.drop_length])
    refine ⟨G1 :: Gs, by rw [List.length_cons, e1], by rw [List.flatten_cons, e2], fun j q1 q2 q3 => ?_⟩
    match j, q1, q2, q3 with
    | 0, _, _, _ =>
      show Kids R (pl.take ((pl.length + k) / (k + 1))) (ps.take ((ps.length + k) / (k + 1))) G1
      rw [← hl]; exact h1
    | j + 1, q1, q2, q3 =>
      have := e3 j (by simpa [Tr.sh] using q1) (by rw [Tr.sh_len]; rw [Tr.sh_len] at q2; omega) (by simpa using q3)
      simp only [Tr.sh, List.getElem_cons_succ]
      have e : ps.drop ((ps.length + k) / (k + 1)) = ps.drop ((pl.length + k) / (k + 1)) := by rw [hl]
      simpa [e] using this
/-- Parts, made one by one. -/
theorem kids_of {α : Type} {R : Nat → α → List Nat → Prop} : ∀ {pl : List (ByteArray × Nat)} {ps : List (Tr.Key × α)} {Gs : List (List Nat)}, pl.length = ps.length → pl.length = Gs.length → (∀ j (h1 : j < pl.length) (h2 : j < ps.length) (h3 : j < Gs.length), (pl[j]'h1).1.data.toList = (ps[j]'h2).1 ∧ R (pl[j]'h1).2 (ps[j]'h2).2 (Gs[j]'h3)) → Kids R pl ps Gs.flatten
  | [], [], [], _, _, _ => rfl
  | x :: pl, y :: ps, G :: Gs, h1, h2, h => ⟨(h 0 (by simp) (by simp) (by simp)).1, G, Gs.flatten, (h 0 (by simp) (by simp) (by simp)).2, kids_of (by simpa using h1) (by simpa using h2) (fun j q1 q2 q3 => h (j + 1) (by simpa using q1) (by simpa using q2) (by simpa using q3)), by simp⟩
  | [], _ :: _, _, h1, _, _ => by simp at h1
  | _ :: _, [], _, h1, _, _ => by simp at h1
  | [], [], _ :: _, _, h2, _ => by simp at h2
  | _ :: _, _ :: _, [], _, h2, _ => by simp at h2
theorem Kids.head {α : Type} {R : Nat → α → List Nat → Prop} {pl : List (ByteArray × Nat)} {ps : List (Tr.Key × α)} {G : List Nat} (h : Kids R pl ps G) : pkey0 pl = (ps.head?.map (·.1)).getD [] := by
  have := h.keys
  unfold pkeys at this
  unfold pkey0
  cases pl with
  | nil => cases ps with
    | nil => rfl
    | cons y r => simp at this
  | cons x r => cases ps with
    | nil => simp at this
    | cons y s => simp at this; simp [this.1]
theorem plainCh_filter (ml : List (Int × ByteArray × ByteArray)) (p : Tr.Ch → Bool) : plainCh (ml.filter fun c => p (c.1, c.2.1.data.toList, c.2.2.data.toList)) = (plainCh ml).filter p := by
  unfold plainCh
  rw [List.filter_map]
  rfl
end Go.Proofs.YtolgpnaoaodepaaGreat
/- A branch that was cut: the trees that come of it lie there. -/
namespace Go.Proofs.YtolgpnaoaodepaaGreat
open Go.RowKit

/-- The blocks of the j-th branch that was made. -/
def cbF (pl : List (ByteArray × Nat)) (vs : List Value) (vcs : Nat → Value) (Gs : List (List Nat)) (j : Nat) : List Nat := (pl.getD j (⟨#[]⟩, 0)).2 :: (blk (vs.getD j (.slice none 0 0)) ++ (blk (vcs j) ++ Gs.getD j []))
theorem cb_kids {h : Nat} {w w' : World} {pl0 pl : List (ByteArray × Nat)} {ps : List (Tr.Key × Tr.TreeT h)} {G0 : List Nat} {ml : List (Int × ByteArray × ByteArray)} {vs : List Value} {vcs : Nat → Value} {v : Value} {C : Nat} (hk : Kids (Rep h w) pl0 ps G0) (hnd : G0.Nodup) (hlt : ∀ g ∈ G0, g < w.heap.size) (h0 : 0 < pl0.length) (hq : CbQ w pl vs (Tr.shares pl0 4) vcs ml v C w') : ∃ G, Kids (Rep (h + 1) w') pl (Tr.bparts (Tr.shares ps 4) (plainCh ml)) G ∧ (blk v ++ G).Nodup ∧ ∀ g ∈ G, g ∈ G0 ∨ w.heap.size ≤ g := by
  have hkl := hk.len
  have hk' : Kids (Rep h w') pl0 ps G0 := hk.imp fun p t F hF hr => hr.keep fun g hg => hq.bel.block g (hlt g (hF g hg))
  have hnum := Tr.shares_num pl0 4 (by decide)
  obtain ⟨Gs, g1, g2, g3⟩ := kids_sh ((pl0.length + 4 - 1) / 4) hk' (fun q => by have := hnum.2.2 h0; omega)
  have hss : Tr.shares ps 4 = Tr.sh ((pl0.length + 4 - 1) / 4) ps := by unfold Tr.shares; rw [hkl]
  have hsl : Tr.shares pl0 4 = Tr.sh ((pl0.length + 4 - 1) / 4) pl0 := rfl
  rw [← hss, ← hsl] at g3
  have hsn : (Tr.shares ps 4).length = Gs.length := by rw [hss, Tr.sh_len, g1]
  have hln : (Tr.shares pl0 4).length = Gs.length := by rw [hsl, Tr.sh_len, g1]
  have hvn : vs.length = Gs.length := by rw [hq.many.n, hln]
  have hpn : pl.length = Gs.length := by rw [hq.len, hvn]
  have hkeys : pkeys pl = (Tr.shares ps 4).map Tr.bkey := by
    refine List.ext_getElem (by simp [pkeys]; omega) fun j q1 q2 => ?_
    have j1 : j < pl.length := by simpa [pkeys] using q1
    have j2 : j < Gs.length := by omega
    have e := hq.brm.key j j1 (by omega)
    rw [(g3 j (by omega) (by omega) j2).head] at e
    simp only [pkeys, List.getElem_map]
    rw [e]; rfl
  have hgd : ∀ j (q1 : j < pl.length) (q2 : j < vs.length) (q3 : j < Gs.length), cbF pl vs vcs Gs j = (pl[j]'q1).2 :: (blk (vs[j]'q2) ++ (blk (vcs j) ++ Gs[j]'q3)) := fun j q1 q2 q3 => by
    unfold cbF
    simp [List.getD_eq_getElem?_getD, List.getElem?_eq_getElem q1, List.getElem?_eq_getElem q2, List.getElem?_eq_getElem q3]
  have hfl : ∀ j (q : j < Gs.length), ∀ x ∈ Gs[j]'q, x ∈ G0 := fun j q x hx => by rw [← g2]; exact List.mem_flatten.2 ⟨_, List.getElem_mem q, hx⟩
  have hG2 : Gs.flatten.Nodup := by rw [g2]; exact hnd
  have hpf := List.pairwise_flatten.1 hG2
  -- what a block of the j-th is
  have hcl : ∀ j (q : j < Gs.length) x, x ∈ cbF pl vs vcs Gs j → (∃ q1 : j < pl.length, x = (pl[j]'q1).2 ∧ C ≤ x) ∨ (∃ q2 : j < vs.length, (vs[j]'q2).ownBlock = some x ∧ w.heap.size ≤ x ∧ x < C) ∨ ((vcs j).ownBlock = some x ∧ C ≤ x) ∨ (x ∈ Gs[j]'q ∧ x < w.heap.size) := fun j q x hx => by
    rw [hgd j (by omega) (by omega) q] at hx
    rcases List.mem_cons.1 hx with rfl | hx
    · exact .inl ⟨by omega, rfl, hq.brm.low _ (List.getElem_mem _)⟩
    · rcases List.mem_append.1 hx with hx | hx
      · have hb := mem_blk.1 hx
        exact .inr (.inl ⟨by omega, hb, (hq.many.lt (List.getElem_mem _) x hb).1, hq.old _ (List.getElem_mem _) x hb⟩)
      · rcases List.mem_append.1 hx with hx | hx
        · have hb := mem_blk.1 hx
          exact .inr (.inr (.inl ⟨hb, (World.ownsRow.lt (hq.brc.o j (by omega)) x hb).1⟩))
        · exact .inr (.inr (.inr ⟨hx, hlt x (hfl j q x hx)⟩))
  have hno : ∀ i j (q1 : i < pl.length) (_ : j < pl.length) x, x = (pl[i]'q1).2 → (vcs j).ownBlock ≠ some x := fun i j q1 q2 x e => by
    rw [e]
    exact nod_row (hq.brm.nod i q1 (by omega)) (hq.brc.o j q2) (by decide)
  have hC := hq.hC
  refine ⟨((List.range pl.length).map (cbF pl vs vcs Gs)).flatten, kids_of (by simp [Tr.bparts]; omega) (by simp) (fun j q1 q2 q3 => ?_), ?_, fun g hg => ?_⟩
  · have j2 : j < Gs.length := by omega
    have hkj := g3 j (by omega) (by omega) j2
    simp only [Tr.bparts, List.getElem_mapIdx, List.getElem_map, List.getElem_range]
    refine ⟨?_, vs[j]'(by omega), vcs j, (Tr.shares pl0 4)[j]'(by omega), ml.filter (atP pl j), Gs[j]'j2, hq.brm.nod j q1 (by omega), row_zero (hq.many.o j (by omega) (by omega)), row_zero (hq.brc.o j q1), ?_, hkj, hgd j q1 (by omega) j2⟩
    · rw [hq.brm.key j q1 (by omega), hkj.head]; rfl
    · rw [← hkeys, ← plainCh_filter]; rfl
  · refine List.nodup_append.2 ⟨blk_nodup v, ?_, fun a ha b hb e => ?_⟩
    · refine List.pairwise_flatten.2 ⟨fun l hl => ?_, ?_⟩
      · obtain ⟨j, hj, rfl⟩ := List.mem_map.1 hl
        have hj' : j < pl.length := List.mem_range.1 hj
        have j2 : j < Gs.length := by omega
        rw [hgd j hj' (by omega) j2]
        have hlow := hq.brm.low _ (List.getElem_mem hj')
        refine List.nodup_cons.2 ⟨fun q => ?_, List.nodup_append.2 ⟨blk_nodup _, List.nodup_append.2 ⟨blk_nodup _, hpf.1 _ (List.getElem_mem j2), fun a ha b hb e => ?_⟩, fun a ha b hb e => ?_⟩⟩
        · rcases List.mem_append.1 q with q | q
          · have := hq.old _ (List.getElem_mem _) _ (mem_blk.1 q); omega
          · rcases List.mem_append.1 q with q | q
            · exact hno j j hj' hj' _ rfl (mem_blk.1 q)
            · have := hlt _ (hfl j j2 _ q); omega
        · have h1 := (World.ownsRow.lt (hq.brc.o j hj') a (mem_blk.1 ha)).1
          have h2 := hlt b (hfl j j2 b hb)
          omega
        · have h1 := hq.old _ (List.getElem_mem _) a (mem_blk.1 ha)
          have h1' := (hq.many.lt (List.getElem_mem _) a (mem_blk.1 ha)).1
          rcases List.mem_append.1 hb with hb | hb
          · have := (World.ownsRow.lt (hq.brc.o j hj') b (mem_blk.1 hb)).1; omega
          · have := hlt b (hfl j j2 b hb); omega
      · refine List.pairwise_iff_getElem.2 fun i j qi qj hij x hx y hy e => ?_
        have qi' : i < pl.length := by simpa using qi
        have qj' : j < pl.length := by simpa using qj
        simp only [List.getElem_map, List.getElem_range] at hx hy
        subst e
        rcases hcl i (by omega) x hx with ⟨a1, a2, a3⟩ | ⟨a1, a2, a3, a4⟩ | ⟨a2, a3⟩ | ⟨a2, a3⟩
        · rcases hcl j (by omega) x hy with ⟨b1, b2, b3⟩ | ⟨b1, b2, b3, b4⟩ | ⟨b2, b3⟩ | ⟨b2, b3⟩
          · have := List.pairwise_iff_getElem.1 hq.brm.inc i j (by simpa using qi') (by simpa using qj') hij
            simp only [List.getElem_map] at this
            omega
          · omega
          · exact hno i j qi' qj' x a2 b2
          · omega
        · rcases hcl j (by omega) x hy with ⟨b1, b2, b3⟩ | ⟨b1, b2, b3, b4⟩ | ⟨b2, b3⟩ | ⟨b2, b3⟩
          · omega
          · exact (List.pairwise_iff_getElem.1 hq.many.a i j a1 b1 hij) x a2 b2
          · omega
          · omega
        · rcases hcl j (by omega) x hy with ⟨b1, b2, b3⟩ | ⟨b1, b2, b3, b4⟩ | ⟨b2, b3⟩ | ⟨b2, b3⟩
          · exact hno j i qj' qi' x b2 a2
          · omega
          · exact hq.brc.a i j qi' qj' (by omega) x a2 b2
          · omega
        · rcases hcl j (by omega) x hy with ⟨b1, b2, b3⟩ | ⟨b1, b2, b3, b4⟩ | ⟨b2, b3⟩ | ⟨b2, b3⟩
          · omega
          · omega
          · omega
          · exact (List.pairwise_iff_getElem.1 hpf.2 i j (by omega) (by omega) hij) x a2 x b2 rfl
    · subst e
      have hv := mem_blk.1 ha
      have hvC := hq.pv a hv
      obtain ⟨l, hl, hal⟩ := List.mem_flatten.1 hb
      obtain ⟨j, hj, rfl⟩ := List.mem_map.1 hl
      have hj' : j < pl.length := List.mem_range.1 hj
      rcases hcl j (by omega) a hal with ⟨a1, a2, a3⟩ | ⟨a1, a2, a3, a4⟩ | ⟨a2, a3⟩ | ⟨a2, a3⟩
      · exact nod_row (hq.brm.nod j a1 (by omega)) hq.row (by decide) (by rw [← a2]; exact hv)
      · omega
      · exact rowsE_apart hq.row (hq.brc.o j hj') (by decide) a hv a2
      · omega
  · obtain ⟨l, hl, hal⟩ := List.mem_flatten.1 hg
    obtain ⟨j, hj, rfl⟩ := List.mem_map.1 hl
    have hj' : j < pl.length := List.mem_range.1 hj
    rcases hcl j (by omega) g hal with ⟨a1, a2, a3⟩ | ⟨a1, a2, a3, a4⟩ | ⟨a2, a3⟩ | ⟨a2, a3⟩
    · exact .inr (by omega)
    · exact .inr a3
    · exact .inr (by omega)
    · exact .inl (hfl j (by omega) g a2)
end Go.Proofs.YtolgpnaoaodepaaGreat
