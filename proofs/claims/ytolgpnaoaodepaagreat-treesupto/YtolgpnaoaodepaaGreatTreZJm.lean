/- cut, of a tree of whatever height. -/
import Derived.Test.YtolgpnaoaodepaaGreatTreZFm
import Derived.Test.YtolgpnaoaodepaaGreatAidm
namespace Go.Proofs.YtolgpnaoaodepaaGreat
open Go.RowKit

theorem blk_new {w : World} {B : Nat} {e : TypeId} {s n : Nat} {v : Value} {xs : List Value} (h : w.ownsRow B e s v n xs) : ∀ g ∈ blk v, B ≤ g := fun g hg => (World.ownsRow.lt h g (mem_blk.1 hg)).1
theorem plain_len (l : List (ByteArray × ByteArray)) : (plain l).length = l.length := by simp [plain]
theorem plainCh_len (l : List (Int × ByteArray × ByteArray)) : (plainCh l).length = l.length := by simp [plainCh]
theorem cut_any : ∀ (h : Nat) (fb : ByteArray) (p : Nat) (t : Tr.TreeT h) (F : List Nat) (w : World), Rep h w p t F → F.Nodup → ∀ lo hi, Tr.WF h lo hi t → Tr.wt h t ≤ 90000 → 
    Calls Tryz.prog 64 #[.agg #[.string fb, .pointer (some ⟨p, 0, none⟩)]] w fun r w' => ∃ v pl G, r = .returned v ∧ CtQ h w (Tr.cutT h fb.data.toList t) v pl G w' ∧ (∀ g ∈ G, g ∈ F ∨ w.heap.size ≤ g) ∧ Below w.heap.size w w'
  | 0, fb, p, t, F, w, hr, hnd, lo, hi, _, hwt => by
    have hr0 := hr
    obtain ⟨vi, il, hn, ho, rfl, rfl⟩ := hr
    have hwl : 1 + (il.length - 16) ≤ 90000 := by rw [← plain_len il]; exact hwt
    by_cases hl : 16 < il.length
    · have e : Tr.cutT 0 fb.data.toList (plain il) = Tr.leafParts fb.data.toList (Tr.shares (plain il) 16) := Tr.cut0_big (l := plain il) (by show 16 < (plain il).length; rw [plain_len]; exact hl)
      rw [e]
      exact (cutL_any fb p vi il w hn ho hl (by omega)).mono fun r w' ⟨v, pl, G, h1, h2, h3, h4⟩ => ⟨v, pl, G, h1, h2, fun g hg => .inr (h3 g hg), h4⟩
    · have e : Tr.cutT 0 fb.data.toList (plain il) = [(fb.data.toList, plain il)] := Tr.cut0_small (l := plain il) (by show ¬ 16 < (plain il).length; rw [plain_len]; exact hl)
      rw [e]
      obtain ⟨a, c, rfl⟩ := rowShape ho
      refine (cutSmall_any fb p a none il.length 0 c 0 _ w hn (by omega) (by omega)).mono fun r w' ⟨v, h1, h2, h3⟩ => ⟨v, _, _, h1, ⟨h2, ⟨rfl, _, [], hr0.keep fun g hg => h3.block g (hr0.lt g hg), rfl, (List.append_nil _).symm⟩, ?_⟩, fun g hg => .inl hg, h3⟩
      refine List.nodup_append.2 ⟨blk_nodup v, hnd, fun a ha b hb q => ?_⟩
      have := blk_new h2 a ha
      have := hr0.lt b hb
      omega
  | h + 1, fb, p, (ps, cs), F, w, hr, hnd, lo, hi, hw, hwt => by
    have hr0 := hr
    obtain ⟨vp, vc, pl0, ml, G0, hn, hop, hoc, rfl, hk, rfl⟩ := hr
    have hwt' : (plainCh ml).length + Tr.wts ps ≤ 90000 := hwt
    rw [plainCh_len] at hwt'
    have hpw : ps.length ≤ Tr.wts ps := Tr.wt_parts hw.1
    have hpl := hk.len
    by_cases hl : 4 < ps.length
    · have e : Tr.cutT (h + 1) fb.data.toList (ps, plainCh ml) = Tr.bparts (Tr.shares ps 4) (plainCh ml) := Tr.cutS_big hl
      rw [e]
      have hn2 := List.nodup_append.1 (List.nodup_append.1 (List.nodup_cons.1 hnd).2).2.1
      refine (cutB_any fb p vp vc pl0 ml w hn hop hoc (by omega) (by omega) (by omega)).mono fun r w' ⟨v, pl, vs, vcs, C, h1, hq⟩ => ?_
      obtain ⟨G, k1, k2, k3⟩ := cb_kids hk hn2.2.1 (fun g hg => hr0.lt g (by simp [hg])) (by omega) hq
      exact ⟨v, pl, G, h1, ⟨hq.row, k1, k2⟩, fun g hg => (k3 g hg).imp (fun q => by simp [q]) id, hq.bel⟩
    · have e : Tr.cutT (h + 1) fb.data.toList (ps, plainCh ml) = [(fb.data.toList, Tr.brT ps (plainCh ml))] := Tr.cutS_small hl
      rw [e]
      obtain ⟨a, c, rfl⟩ := rowShape hop
      refine (cutSmall_any fb p none a 0 pl0.length 0 c _ w hn (by omega) (by omega)).mono fun r w' ⟨v, h1, h2, h3⟩ => ⟨v, _, _, h1, ⟨h2, ⟨rfl, _, [], hr0.keep fun g hg => h3.block g (hr0.lt g hg), rfl, (List.append_nil _).symm⟩, ?_⟩, fun g hg => .inl hg, h3⟩
      refine List.nodup_append.2 ⟨blk_nodup v, hnd, fun a ha b hb q => ?_⟩
      have := blk_new h2 a ha
      have := hr0.lt b hb
      omega
end Go.Proofs.YtolgpnaoaodepaaGreat
/- append of a whole row. -/
namespace Go.Proofs.YtolgpnaoaodepaaGreat
open Go.RowKit

/-- append(v, u...), two rows. -/
theorem run_rows (w : World) (t ty e : TypeId) (ht : Tryz.prog.underlying t = some (.slice e)) (z : Value) (size bytes : Nat) (hinfo : (Tryz.prog.info? e).map (fun i => (i.zero, i.size, i.bytes)) = some (some z, size, bytes)) (hzs : z.cells.size = size) (hsp : 0 < size) (hby : bytes ≤ 1000)
    (v u : Value) (n m : Nat) (xs ys : List Value) (hv : w.ownsRow 0 e size v n xs) (hu : w.ownsRow 0 e size u m ys) (h1 : ∀ x ∈ ys, x.oneCell' = true) (hb : n + m ≤ 1000000000) :
    ∃ v' w', (Builtin.append_ #[t, t] ty #[v, u]).run Tryz.prog w = .ok v' w' ∧ w'.ownsRow 0 e size v' (n + m) (xs ++ ys) ∧ w.grownBy w' v.ownBlock ∧ (v'.ownBlock = v.ownBlock ∨ v'.ownBlock = some w.heap.size) := by
  obtain ⟨i, hi, hz0, hz1, hz2⟩ := info_parts hinfo
  rcases hu.2 with ⟨rfl, rfl⟩ | ⟨g, cap, cur, rfl, hb', hg, hc, hm, hcs, htk⟩
  · have hy : ys = [] := List.eq_nil_of_length_eq_zero (by rw [hu.1, Nat.zero_mul])
    subst hy
    refine ⟨v, w, run_append_owned_none w 0 t ty e i size ht hi v n xs hv, ?_, ⟨rfl, rfl, rfl, Nat.le_refl _, fun _ _ _ => rfl⟩, .inl rfl⟩
    rw [Nat.add_zero, List.append_nil]; exact hv
  · obtain ⟨v', w', q1, q2, q3, _, q5⟩ := run_append_own_at w 0 t ty e i z size bytes ht hi hz0 hz1 hz2 hzs hsp v n xs hv ⟨g, 0, none⟩ m cap ys hu.1 (hu.cells rfl) h1 (by unfold maxLen; omega) (by have : (n + m) * bytes ≤ 1000000000 * 1000 := Nat.mul_le_mul hb hby; omega) (Nat.zero_le _)
    exact ⟨v', w', q1, q2, q3, q5⟩

end Go.Proofs.YtolgpnaoaodepaaGreat
/- join: where there is nothing to join; two leaves. -/
namespace Go.Proofs.YtolgpnaoaodepaaGreat
open Go.RowKit

set_option maxHeartbeats 400000 in
set_option maxRecDepth 20000 in
theorem joinNeg_any (p : Nat) (w : World) :
    Calls Tryz.prog 174 #[.pointer (some ⟨p, 0, none⟩), .int .i64 (-1)] w fun r w' => r = .returned (.bool false) ∧ Below w.heap.size w w' := by
  go_enter Tryz.func174, Tryz.ntmps174
  go_wp2_with fail
  go_ret
  exact ⟨rfl, Below.refl _ _⟩
set_option maxHeartbeats 400000 in
set_option maxRecDepth 20000 in
theorem joinEnd_any (p : Nat) (vi vc : Value) (a : Option Addr) (n c i : Nat) (w : World) (hn : NodT w p vi (.slice a n c) vc) (hi : n ≤ i + 1) (hb : i ≤ 1000000) :
    Calls Tryz.prog 174 #[.pointer (some ⟨p, 0, none⟩), .int .i64 (i : Nat)] w fun r w' => r = .returned (.bool false) ∧ Below w.heap.size w w' := by
  obtain ⟨n0, n1, n2, -⟩ := hn.cells
  have q1 : decide ((i : Int) < 0) = false := decide_eq_false (by omega)
  have q2 : decide ((n : Int) ≤ (i : Int) + 1) = true := decide_eq_true (by omega)
  clear hn
  go_enter Tryz.func174, Tryz.ntmps174
  go_wp2_with fail
  go_ret
  exact ⟨rfl, Below.refl _ _⟩
set_option maxHeartbeats 400000 in
set_option maxRecDepth 20000 in
theorem joinBig_any (p : Nat) (vi vp vc : Value) (pl : List (ByteArray × Nat)) (i : Nat) (ai ap ac bi bp bc : Value) (a1 a2 b1 b2 : Option Addr) (n1 n2 m1 m2 c1 c2 d1 d2 : Nat) (w : World) (hn : NodT w p vi vp vc) (hp : OwnsP 0 w vp pl) (hi : i + 1 < pl.length) (hl : pl.length ≤ 1000000)
    (ha : NodT w (pl[i]'(by omega)).2 ai ap ac) (hb : NodT w (pl[i + 1]'hi).2 bi bp bc) (e1 : ai = .slice a1 n1 c1) (e2 : ap = .slice a2 n2 c2) (e3 : bi = .slice b1 m1 d1) (e4 : bp = .slice b2 m2 d2) (h1 : n1 ≤ 1000000) (h2 : n2 ≤ 1000000) (h3 : m1 ≤ 1000000) (h4 : m2 ≤ 1000000) (hs : ¬ (n1 + m1 ≤ 12 ∧ n2 + m2 ≤ 3)) :
    Calls Tryz.prog 174 #[.pointer (some ⟨p, 0, none⟩), .int .i64 (i : Nat)] w fun r w' => r = .returned (.bool false) ∧ Below w.heap.size w w' := by
  obtain ⟨n0, n1', n2', -⟩ := hn.cells
  obtain ⟨g, cap, rfl, hc, -, hg, x0, x1⟩ := hp.at i (by omega)
  obtain ⟨g', cap', e, -, -, -, y0, y1⟩ := hp.at (i + 1) hi
  simp only [Value.slice.injEq, Option.some.injEq, Addr.mk.injEq, and_true, true_and] at e
  obtain ⟨rfl, rfl⟩ := e
  have HS := hid (fun W (hW : W.heap = w.heap) => areSmall_any _ _ ai ap ac bi bp bc a1 a2 b1 b2 n1 n2 m1 m2 c1 c2 d1 d2 W (show NodT W _ ai ap ac by unfold NodT; rw [hW]; exact ha) (show NodT W _ bi bp bc by unfold NodT; rw [hW]; exact hb) e1 e2 e3 e4 h1 h2 h3 h4)
  have HNS : Hid ((decide (n1 + m1 ≤ 12) && decide (n2 + m2 ≤ 3)) = false) := by
    show _ = _
    by_cases q : n1 + m1 ≤ 12
    · have : ¬ n2 + m2 ≤ 3 := fun q' => hs ⟨q, q'⟩
      simp [this]
    · simp [q]
  generalize (pl[i]'(by omega)).2 = pa at *
  generalize (pl[i + 1]'hi).2 = pb at *
  have q1 : decide ((i : Int) < 0) = false := decide_eq_false (by omega)
  have q2 : decide ((pl.length : Int) ≤ (i : Int) + 1) = false := decide_eq_false (by omega)
  have q3 : ¬ ((pl.length : Int) ≤ (i : Int) + 1) := by omega
  have q4 : i < pl.length := by omega
  have q5 : (i : Int) + 1 < (pl.length : Int) := by omega
  clear hn hp ha hb e1 e2 e3 e4 h1 h2 h3 h4 hs
  go_enter Tryz.func174, Tryz.ntmps174
  go_upto_region 3 with fail
  go_quiet (fail)
  go_wp2_with fail
  refine (HS.out (w.drewN nq) rfl).mono ?_
  rintro r w1 ⟨rfl, hb1⟩
  rw [HNS.out]
  go_wp2_with fail
  go_ret
  exact ⟨rfl, (below_drewN (Below.refl _ w) nq).trans hb1⟩

set_option maxHeartbeats 1000000 in
set_option maxRecDepth 20000 in
theorem joinL_any (p : Nat) (vi vp vc : Value) (pl : List (ByteArray × Nat)) (i : Nat) (ai bi : Value) (il1 il2 : List (ByteArray × ByteArray)) (w : World) (hn : NodT w p vi vp vc) (hp : OwnsP 0 w vp pl) (hi : i + 1 < pl.length) (hl : pl.length ≤ 1000000)
    (ha : NodT w (pl[i]'(by omega)).2 ai (.slice none 0 0) (.slice none 0 0)) (hb : NodT w (pl[i + 1]'hi).2 bi (.slice none 0 0) (.slice none 0 0)) (hai : OwnsI 0 w ai il1) (hbi : OwnsI 0 w bi il2) (hs : il1.length + il2.length ≤ 12) (hne : (pl[i]'(by omega)).2 ≠ p) :
    Calls Tryz.prog 174 #[.pointer (some ⟨p, 0, none⟩), .int .i64 (i : Nat)] w fun r w' => r = .returned (.bool true) ∧ ∃ ai' vp', NodT w' p vi vp' vc ∧ OwnsP 0 w' vp' (pl.take (i + 1) ++ pl.drop (i + 2)) ∧ vp'.ownBlock = vp.ownBlock ∧ NodT w' (pl[i]'(by omega)).2 ai' (.slice none 0 0) (.slice none 0 0) ∧ OwnsI 0 w' ai' (il1 ++ il2) ∧ Mod (fun g => g = p ∨ vp.ownBlock = some g ∨ g = (pl[i]'(by omega)).2 ∨ ai.ownBlock = some g) w w' ∧ (ai'.ownBlock = ai.ownBlock ∨ ∃ k, w.heap.size ≤ k ∧ ai'.ownBlock = some k) := by
  obtain ⟨n0, n1', n2', -⟩ := hn.cells
  obtain ⟨g, cap, rfl, hc, -, hg, x0, x1⟩ := hp.at i (by omega)
  obtain ⟨g', cap', e, -, -, -, y0, y1⟩ := hp.at (i + 1) hi
  simp only [Value.slice.injEq, Option.some.injEq, Addr.mk.injEq, and_true, true_and] at e
  obtain ⟨rfl, rfl⟩ := e
  obtain ⟨aa, ac, rfl⟩ := rowShape hai
  obtain ⟨ba, bc, rfl⟩ := rowShape hbi
  have HS := hid (fun W (hW : W.heap = w.heap) => areSmall_any _ _ _ _ _ _ _ _ aa none ba none il1.length 0 il2.length 0 ac 0 bc 0 W (show NodT W _ _ _ _ by unfold NodT; rw [hW]; exact ha) (show NodT W _ _ _ _ by unfold NodT; rw [hW]; exact hb) rfl rfl rfl rfl (by omega) (by omega) (by omega) (by omega))
  have HNS : Hid ((decide (il1.length + il2.length ≤ 12) && decide (0 + 0 ≤ 3)) = true) := by show _ = _; simp [hs]
  have HN := hid hn
  have HP := hid hp
  have HA := hid ha
  have HBB := hid hb
  have HAI := hid hai
  have HBI := hid hbi
  have HNE := hid hne
  generalize (pl[i]'(by omega)).2 = pa at *
  generalize (pl[i + 1]'hi).2 = pb at *
  have q1 : decide ((i : Int) < 0) = false := decide_eq_false (by omega)
  have q2 : decide ((pl.length : Int) ≤ (i : Int) + 1) = false := decide_eq_false (by omega)
  have q3 : ¬ ((pl.length : Int) ≤ (i : Int) + 1) := by omega
  have q4 : i < pl.length := by omega
  have q5 : (i : Int) + 1 < (pl.length : Int) := by omega
  clear hn hp ha hb hai hbi hne
  go_enter Tryz.func174, Tryz.ntmps174
  go_upto_region 3 with fail
  go_quiet (fail)
  go_wp2_with fail
  refine (HS.out (w.drewN nq) rfl).mono ?_
  rintro r w1 ⟨rfl, hb1⟩
  rw [HNS.out]
  have HB1 : Hid (Below w.heap.size w w1) := (below_drewN (Below.refl _ w) nq).trans hb1
  have hpb : NodT w1 pb (.slice ba il2.length bc) (.slice none 0 0) (.slice none 0 0) := (HB1.out.block pb HBB.out.lt).trans HBB.out
  have hpa : NodT w1 pa (.slice aa il1.length ac) (.slice none 0 0) (.slice none 0 0) := (HB1.out.block pa HA.out.lt).trans HA.out
  have HN1 : Hid (NodT w1 p vi (.slice (some ⟨g, 0, none⟩) pl.length cap) vc) := (HB1.out.block p HN.out.lt).trans HN.out
  have HP1 : Hid (OwnsP 0 w1 (.slice (some ⟨g, 0, none⟩) pl.length cap) pl) := row_below HP.out HB1.out (Nat.le_refl _)
  obtain ⟨a0, a1, a2, f0, f1, f2⟩ := hpa.cells
  obtain ⟨b0, b1, b2, -⟩ := hpb.cells
  have HLF := hid (tIsLeaf_any pb _ _ _ _ _ w1 hpb)
  have HPA := hid hpa
  clear hb1 HS hpa hpb n0 n1' n2' x0 x1 y0 y1
  have hai1 : OwnsI 0 w1 (.slice aa il1.length ac) il1 := row_below HAI.out HB1.out (Nat.le_refl _)
  have hbi1 : OwnsI 0 w1 (.slice ba il2.length bc) il2 := row_below HBI.out HB1.out (Nat.le_refl _)
  obtain ⟨v2, w2, e2, o2, g2, k2⟩ := run_rows w1.drew 30 30 51 Tryz.underlying30 _ 2 32 info_item rfl (by decide) (by decide) (.slice aa il1.length ac) (.slice ba il2.length bc) il1.length il2.length (icells il1) (icells il2) hai1 hbi1 (one_icells il2) (by omega)
  have HE2 := hid e2
  have HNB : Hid ((Value.slice aa il1.length ac).ownBlock ≠ some p) := nod_row HN1.out hai1 (by decide)
  have HNA : Hid ((Value.slice aa il1.length ac).ownBlock ≠ some pa) := nod_row HPA.out hai1 (by decide)
  have hm2 : Mod (fun k => (Value.slice aa il1.length ac).ownBlock = some k) w1.drew w2 := Mod.of_grown g2
  have hna2 : NodT w2 pa (.slice aa il1.length ac) (.slice none 0 0) (.slice none 0 0) := hm2.nod (w := w1.drew) HPA.out HNA.out
  have hn2 : NodT w2 p vi (.slice (some ⟨g, 0, none⟩) pl.length cap) vc := hm2.nod (w := w1.drew) HN1.out HNB.out
  have hap : (Value.slice aa il1.length ac).ownBlock ≠ some g := fun q => rowsE_apart hai1 HP1.out (by decide) g q rfl
  have ho2 : OwnsP 0 w2 (.slice (some ⟨g, 0, none⟩) pl.length cap) pl := hm2.row (w := w1.drew) HP1.out (fun g' hg' q => by
    have : g = g' := by simpa [Value.ownBlock] using hg'
    exact hap (by rw [this]; exact q))
  obtain ⟨va, vn, vcap, rfl⟩ := shape3 o2
  obtain ⟨d0, d1, d2, e0, -⟩ := hna2.cells
  have m3 := Mod.setCell w2 pa 0 (.slice va vn vcap)
  have hgpa : g ≠ pa := fun q => nod_row HPA.out HP1.out (by decide) (by rw [← q]; rfl)
  have hgp : g ≠ p := fun q => nod_row HN1.out HP1.out (by decide) (by rw [← q]; rfl)
  have HN3 : Hid (NodT (w2.setCell ⟨pa, 0, none⟩ (.slice va vn vcap)) p vi (.slice (some ⟨g, 0, none⟩) pl.length cap) vc) := m3.nod hn2 (fun q => HNE.out q.symm)
  have HP3 : Hid (OwnsP 0 (w2.setCell ⟨pa, 0, none⟩ (.slice va vn vcap)) (.slice (some ⟨g, 0, none⟩) pl.length cap) pl) := m3.row ho2 (fun g' hg' q => by
    have : g = g' := by simpa [Value.ownBlock] using hg'
    exact hgpa (by rw [this]; exact q))
  have HA3 : Hid (NodT (w2.setCell ⟨pa, 0, none⟩ (.slice va vn vcap)) pa (.slice va vn vcap) (.slice none 0 0) (.slice none 0 0)) := hna2.seti _
  have hvn : (Value.slice va vn vcap).ownBlock ≠ some pa ∧ (Value.slice va vn vcap).ownBlock ≠ some p ∧ (Value.slice va vn vcap).ownBlock ≠ some g := by
    have hs1 : w1.drew.heap.size = w1.heap.size := rfl
    have z1 := HPA.out.lt
    have z2 := HN1.out.lt
    have z3 : g < w1.heap.size := (World.ownsRow.lt HP1.out g rfl).2
    rcases k2 with k2 | k2
    · rw [k2]; exact ⟨HNA.out, HNB.out, hap⟩
    · rw [k2]
      refine ⟨fun q => ?_, fun q => ?_, fun q => ?_⟩ <;> (have := Option.some.inj q; omega)
  have HI3 : Hid (OwnsI 0 (w2.setCell ⟨pa, 0, none⟩ (.slice va vn vcap)) (.slice va vn vcap) (il1 ++ il2)) := by
    refine m3.row ?_ (fun g' hg' q => hvn.1 (by rw [← q]; exact hg'))
    rw [List.length_append, icells_append]
    exact o2
  have HM3 : Hid (Mod (fun k => k = p ∨ (Value.slice (some ⟨g, 0, none⟩) pl.length cap).ownBlock = some k ∨ k = pa ∨ (Value.slice aa il1.length ac).ownBlock = some k) w (w2.setCell ⟨pa, 0, none⟩ (.slice va vn vcap))) := by
    have a1 : Mod (fun _ => False) w w1.drew := ⟨HB1.out.os, HB1.out.tape, HB1.out.output, HB1.out.size, fun k hk _ => HB1.out.block k hk⟩
    exact (a1.trans hm2 (H := fun k => k = p ∨ (Value.slice (some ⟨g, 0, none⟩) pl.length cap).ownBlock = some k ∨ k = pa ∨ (Value.slice aa il1.length ac).ownBlock = some k) (fun _ _ q => q.elim) (fun _ _ q => .inr (.inr (.inr q)))).trans m3 (fun _ _ q => q) (fun _ _ q => .inr (.inr (.inl q)))
  have HK : Hid ((Value.slice va vn vcap).ownBlock = (Value.slice aa il1.length ac).ownBlock ∨ ∃ k, w.heap.size ≤ k ∧ (Value.slice va vn vcap).ownBlock = some k) := by
    refine k2.imp id fun q => ⟨_, ?_, q⟩
    exact HB1.out.size
  have HVN := hid hvn
  obtain ⟨c0, c1', c2, f0', f1', f2'⟩ := HN3.out.cells
  have HGP := hid hgp
  have HGPA := hid hgpa
  clear e2 o2 g2 k2 hm2 hna2 hn2 hap ho2 m3 hgpa hvn hai1 hbi1 HBI HP HA HBB HAI hgp
  have HD := hid (deleteP_any _ pl (i + 1) _ hi HP3.out (by omega))
  have w1e : IntKind.i64.wrap ((i : Int) + 1) = (i : Int) + 1 := by rw [IntKind.wrap_i64]; omega
  have w2e : IntKind.i64.wrap ((i : Int) + 2) = (i : Int) + 2 := by rw [IntKind.wrap_i64]; omega
  go_wp2_with fail
  refine HLF.out.mono ?_
  rintro r w1 ⟨rfl, rfl⟩
  go_upto_region 7 with fail
  go_region_law (refine stepAp _ (by rfl) (.tmp 46) (.tmp 50) _ _ (by rfl) _ _ (by rfl) (by simp [Act.eval]) _ _ HE2.out ?_)
  all_goals
    go_wp2_with fail
    refine HD.out.mono ?_
    rintro r w5 ⟨vp', rfl, ho5, hg5, hbk⟩
    have m5 := Mod.of_grown hg5
    have hn5 := m5.nod HN3.out (fun q => HGP.out (Option.some.inj q))
    have ha5 := m5.nod HA3.out (fun q => HGPA.out (Option.some.inj q))
    have hi5 : OwnsI 0 w5 (.slice va vn vcap) (il1 ++ il2) := m5.row HI3.out (fun g' hg' q => HVN.out.2.2 (by rw [show g = g' from Option.some.inj q]; exact hg'))
    have m6 := Mod.setCell w5 p 1 vp'
    have HF : Hid (NodT (w5.setCell ⟨p, 1, none⟩ vp') p vi vp' vc ∧ OwnsP 0 (w5.setCell ⟨p, 1, none⟩ vp') vp' (pl.take (i + 1) ++ pl.drop (i + 2)) ∧ vp'.ownBlock = (Value.slice (some ⟨g, 0, none⟩) pl.length cap).ownBlock ∧ NodT (w5.setCell ⟨p, 1, none⟩ vp') pa (.slice va vn vcap) (.slice none 0 0) (.slice none 0 0) ∧ OwnsI 0 (w5.setCell ⟨p, 1, none⟩ vp') (.slice va vn vcap) (il1 ++ il2) ∧ Mod (fun k => k = p ∨ (Value.slice (some ⟨g, 0, none⟩) pl.length cap).ownBlock = some k ∨ k = pa ∨ (Value.slice aa il1.length ac).ownBlock = some k) w (w5.setCell ⟨p, 1, none⟩ vp')) := by
      refine ⟨hn5.setp vp', m6.row ho5 (fun g' hg' q => ?_), hbk, m6.nod ha5 HNE.out, m6.row hi5 (fun g' hg' q => HVN.out.2.1 (by rw [← q]; exact hg')), (HM3.out.trans m5 (fun _ _ q => q) (fun k _ q => .inr (.inl q))).trans m6 (fun _ _ q => q) (fun k _ q => .inl q)⟩
      rw [hbk] at hg'
      exact HGP.out ((show g = g' from Option.some.inj hg').trans q)
    obtain ⟨c0', c1'', c2', k0', k1', k2'⟩ := hn5.cells
    obtain ⟨ua, un, ucap, hu⟩ := shape3 ho5
    clear m5 hn5 ha5 hi5 m6 ho5 hg5 hbk
    subst hu
    go_wp2_with fail
    go_ret
    exact ⟨rfl, _, _, HF.out.1, HF.out.2.1, HF.out.2.2.1, HF.out.2.2.2.1, HF.out.2.2.2.2.1, HF.out.2.2.2.2.2, HK.out⟩
end Go.Proofs.YtolgpnaoaodepaaGreat
/- join of two branches, by what take does. -/
namespace Go.Proofs.YtolgpnaoaodepaaGreat
open Go.RowKit

/-- The node that takes the other's parts, ahead of its taking the changes. -/
structure JnM (w : World) (pa : Nat) (ap ac : Value) (l : List (ByteArray × Nat)) (ap' : Value) (w3 : World) : Prop where
  nod : NodT w3 pa (.slice none 0 0) ap' ac
  row : OwnsP 0 w3 ap' l
  mod : Mod (fun k => k = pa ∨ ap.ownBlock = some k) w w3
  blk : ap'.ownBlock = ap.ownBlock ∨ ∃ k, w.heap.size ≤ k ∧ ap'.ownBlock = some k

set_option maxHeartbeats 1000000 in
set_option maxRecDepth 20000 in
theorem joinB_any (p : Nat) (vi vp vc : Value) (pl : List (ByteArray × Nat)) (i : Nat) (ap ac bp bc : Value) (pl1 pl2 : List (ByteArray × Nat)) (w : World) (hn : NodT w p vi vp vc) (hp : OwnsP 0 w vp pl) (hi : i + 1 < pl.length) (hl : pl.length ≤ 1000000)
    (ha : NodT w (pl[i]'(by omega)).2 (.slice none 0 0) ap ac) (hb : NodT w (pl[i + 1]'hi).2 (.slice none 0 0) bp bc) (hap : OwnsP 0 w ap pl1) (hbp : OwnsP 0 w bp pl2) (hs : pl1.length + pl2.length ≤ 3) (hpos : 0 < pl2.length) (hbc : ∃ x y z, bc = .slice x y z) (hne : (pl[i]'(by omega)).2 ≠ p) (hne2 : (pl[i + 1]'hi).2 ≠ (pl[i]'(by omega)).2) (hne3 : ∀ k, vp.ownBlock = some k → ap.ownBlock ≠ some k)
    (T : Value → World → World → Prop) (S : Value → Nat → Prop) (hS : ∀ u, (u.ownBlock = ap.ownBlock ∨ ∃ k, w.heap.size ≤ k ∧ u.ownBlock = some k) → ¬ S u p ∧ ∀ k, vp.ownBlock = some k → ¬ S u k)
    (hT : ∀ ap' w3, JnM w (pl[i]'(by omega)).2 ap ac (pl1 ++ pl2) ap' w3 → Calls Tryz.prog 63 #[.pointer (some ⟨(pl[i]'(by omega)).2, 0, none⟩), bc] w3 fun r w4 => r = .returned (.tuple #[]) ∧ T ap' w3 w4 ∧ Mod (S ap') w3 w4) :
    Calls Tryz.prog 174 #[.pointer (some ⟨p, 0, none⟩), .int .i64 (i : Nat)] w fun r w' => r = .returned (.bool true) ∧ ∃ ap' w3 w4 vp', JnM w (pl[i]'(by omega)).2 ap ac (pl1 ++ pl2) ap' w3 ∧ T ap' w3 w4 ∧ Mod (S ap') w3 w4 ∧ NodT w' p vi vp' vc ∧ OwnsP 0 w' vp' (pl.take (i + 1) ++ pl.drop (i + 2)) ∧ vp'.ownBlock = vp.ownBlock ∧ Mod (fun k => k = p ∨ vp.ownBlock = some k) w4 w' := by
  obtain ⟨n0, n1', n2', -⟩ := hn.cells
  obtain ⟨g, cap, rfl, hc, -, hg, x0, x1⟩ := hp.at i (by omega)
  obtain ⟨g', cap', e, -, -, -, y0, y1⟩ := hp.at (i + 1) hi
  simp only [Value.slice.injEq, Option.some.injEq, Addr.mk.injEq, and_true, true_and] at e
  obtain ⟨rfl, rfl⟩ := e
  obtain ⟨aa, acp, rfl⟩ := rowShape hap
  obtain ⟨ba, bcp, rfl⟩ := rowShape hbp
  obtain ⟨ca, cn, ccp, rfl⟩ := hbc
  have HS := hid (fun W (hW : W.heap = w.heap) => areSmall_any _ _ _ _ _ _ _ _ none aa none ba 0 pl1.length 0 pl2.length 0 acp 0 bcp W (show NodT W _ _ _ _ by unfold NodT; rw [hW]; exact ha) (show NodT W _ _ _ _ by unfold NodT; rw [hW]; exact hb) rfl rfl rfl rfl (by omega) (by omega) (by omega) (by omega))
  have HNS : Hid ((decide (0 + 0 ≤ 12) && decide (pl1.length + pl2.length ≤ 3)) = true) := by show _ = _; simp [hs]
  have HN := hid hn
  have HP := hid hp
  have HA := hid ha
  have HBB := hid hb
  have HAP := hid hap
  have HBP := hid hbp
  have HNE := hid hne
  have HNE2 := hid hne2
  have HT := hid hT
  have HSS := hid hS
  generalize (pl[i]'(by omega)).2 = pa at *
  generalize (pl[i + 1]'hi).2 = pb at *
  have q1 : decide ((i : Int) < 0) = false := decide_eq_false (by omega)
  have q2 : decide ((pl.length : Int) ≤ (i : Int) + 1) = false := decide_eq_false (by omega)
  have q3 : ¬ ((pl.length : Int) ≤ (i : Int) + 1) := by omega
  have q4 : i < pl.length := by omega
  have q5 : (i : Int) + 1 < (pl.length : Int) := by omega
  have q6 : decide (pl2.length = 0) = false := decide_eq_false (by omega)
  have HNE3 : Hid ((Value.slice aa pl1.length acp).ownBlock ≠ some g) := hne3 g rfl
  clear hn hp ha hb hap hbp hne hne2 hne3 hT hS
  go_enter Tryz.func174, Tryz.ntmps174
  go_upto_region 3 with fail
  go_quiet (fail)
  go_wp2_with fail
  refine (HS.out (w.drewN nq) rfl).mono ?_
  rintro r w1 ⟨rfl, hb1⟩
  rw [HNS.out]
  have HB1 : Hid (Below w.heap.size w w1) := (below_drewN (Below.refl _ w) nq).trans hb1
  have hpb : NodT w1 pb (.slice none 0 0) (.slice ba pl2.length bcp) (.slice ca cn ccp) := (HB1.out.block pb HBB.out.lt).trans HBB.out
  have hpa : NodT w1 pa (.slice none 0 0) (.slice aa pl1.length acp) ac := (HB1.out.block pa HA.out.lt).trans HA.out
  have HN1 : Hid (NodT w1 p vi (.slice (some ⟨g, 0, none⟩) pl.length cap) vc) := (HB1.out.block p HN.out.lt).trans HN.out
  have HP1 : Hid (OwnsP 0 w1 (.slice (some ⟨g, 0, none⟩) pl.length cap) pl) := row_below HP.out HB1.out (Nat.le_refl _)
  obtain ⟨a0, a1, a2, f0, f1, f2⟩ := hpa.cells
  obtain ⟨b0, b1, b2, -⟩ := hpb.cells
  have HLF := hid (tIsLeaf_any pb _ _ _ _ _ w1 hpb)
  have HPA := hid hpa
  have HPB := hid hpb
  clear hb1 HS hpa hpb n0 n1' n2' x0 x1 y0 y1
  have hap1 : OwnsP 0 w1 (.slice aa pl1.length acp) pl1 := row_below HAP.out HB1.out (Nat.le_refl _)
  have hbp1 : OwnsP 0 w1 (.slice ba pl2.length bcp) pl2 := row_below HBP.out HB1.out (Nat.le_refl _)
  obtain ⟨v2, w2, e2, o2, g2, k2⟩ := run_rows w1.drew 121 121 132 Tryz.underlying121 _ 2 24 info_part rfl (by decide) (by decide) (.slice aa pl1.length acp) (.slice ba pl2.length bcp) pl1.length pl2.length (pcells pl1) (pcells pl2) hap1 hbp1 (one_pcells pl2) (by omega)
  have HE2 := hid e2
  have HNB : Hid ((Value.slice aa pl1.length acp).ownBlock ≠ some p) := nod_row HN1.out hap1 (by decide)
  have HNA : Hid ((Value.slice aa pl1.length acp).ownBlock ≠ some pa) := nod_row HPA.out hap1 (by decide)
  have HNBB : Hid ((Value.slice aa pl1.length acp).ownBlock ≠ some pb) := nod_row HPB.out hap1 (by decide)
  have hm2 : Mod (fun k => (Value.slice aa pl1.length acp).ownBlock = some k) w1.drew w2 := Mod.of_grown g2
  have hna2 : NodT w2 pa (.slice none 0 0) (.slice aa pl1.length acp) ac := hm2.nod (w := w1.drew) HPA.out HNA.out
  have hnb2 : NodT w2 pb (.slice none 0 0) (.slice ba pl2.length bcp) (.slice ca cn ccp) := hm2.nod (w := w1.drew) HPB.out HNBB.out
  have hn2 : NodT w2 p vi (.slice (some ⟨g, 0, none⟩) pl.length cap) vc := hm2.nod (w := w1.drew) HN1.out HNB.out
  have ho2 : OwnsP 0 w2 (.slice (some ⟨g, 0, none⟩) pl.length cap) pl := hm2.row (w := w1.drew) HP1.out (fun g' hg' q => by
    have : g = g' := by simpa [Value.ownBlock] using hg'
    exact HNE3.out (by rw [this]; exact q))
  obtain ⟨va, vn, vcap, rfl⟩ := shape3 o2
  obtain ⟨d0, d1, d2, e0, e1, -⟩ := hna2.cells
  have m3 := Mod.setCell w2 pa 1 (.slice va vn vcap)
  have hgpa : g ≠ pa := fun q => nod_row HPA.out HP1.out (by decide) (by rw [← q]; rfl)
  have hgp : g ≠ p := fun q => nod_row HN1.out HP1.out (by decide) (by rw [← q]; rfl)
  have HN3 : Hid (NodT (w2.setCell ⟨pa, 1, none⟩ (.slice va vn vcap)) p vi (.slice (some ⟨g, 0, none⟩) pl.length cap) vc) := m3.nod hn2 (fun q => HNE.out q.symm)
  have HNB3 : Hid (NodT (w2.setCell ⟨pa, 1, none⟩ (.slice va vn vcap)) pb (.slice none 0 0) (.slice ba pl2.length bcp) (.slice ca cn ccp)) := m3.nod hnb2 HNE2.out
  have HP3 : Hid (OwnsP 0 (w2.setCell ⟨pa, 1, none⟩ (.slice va vn vcap)) (.slice (some ⟨g, 0, none⟩) pl.length cap) pl) := m3.row ho2 (fun g' hg' q => by
    have : g = g' := by simpa [Value.ownBlock] using hg'
    exact hgpa (by rw [this]; exact q))
  have hvn : (Value.slice va vn vcap).ownBlock ≠ some pa := by
    have hs1 : w1.drew.heap.size = w1.heap.size := rfl
    have z1 := HPA.out.lt
    rcases k2 with k2 | k2
    · rw [k2]; exact HNA.out
    · rw [k2]
      intro q
      have := Option.some.inj q
      omega
  have HJ : Hid (JnM w pa (.slice aa pl1.length acp) ac (pl1 ++ pl2) (.slice va vn vcap) (w2.setCell ⟨pa, 1, none⟩ (.slice va vn vcap))) := by
    refine ⟨hna2.setp _, m3.row ?_ (fun g' hg' q => hvn (by rw [← q]; exact hg')), ?_, k2.imp id fun q => ⟨_, HB1.out.size, q⟩⟩
    · rw [List.length_append, pcells_append]
      exact o2
    · have a1 : Mod (fun _ => False) w w1.drew := ⟨HB1.out.os, HB1.out.tape, HB1.out.output, HB1.out.size, fun k hk _ => HB1.out.block k hk⟩
      exact (a1.trans hm2 (H := fun k => k = pa ∨ (Value.slice aa pl1.length acp).ownBlock = some k) (fun _ _ q => q.elim) (fun _ _ q => .inr q)).trans m3 (fun _ _ q => q) (fun _ _ q => .inl q)
  have HTK := hid (HT.out _ _ HJ.out)
  have HSX := hid (HSS.out _ HJ.out.blk)
  have HGP := hid hgp
  obtain ⟨c0, c1', c2, f0', f1', f2'⟩ := HN3.out.cells
  obtain ⟨u0, u1, u2, -⟩ := HNB3.out.cells
  clear e2 o2 g2 k2 hm2 hna2 hnb2 hn2 ho2 m3 hgpa hvn hap1 hbp1 HBP HP HA HBB HAP hgp HT HSS
  have w1e : IntKind.i64.wrap ((i : Int) + 1) = (i : Int) + 1 := by rw [IntKind.wrap_i64]; omega
  have w2e : IntKind.i64.wrap ((i : Int) + 2) = (i : Int) + 2 := by rw [IntKind.wrap_i64]; omega
  go_wp2_with fail
  refine HLF.out.mono ?_
  rintro r w1 ⟨rfl, rfl⟩
  rw [q6]
  go_upto_region 8 with fail
  go_region_law (refine stepAp _ (by rfl) (.tmp 58) (.tmp 62) _ _ (by rfl) _ _ (by rfl) (by simp [Act.eval]) _ _ HE2.out ?_)
  all_goals
    go_wp2_with fail
    refine HTK.out.mono ?_
    rintro r w4 ⟨rfl, ht4, hm4⟩
    have HT4 := hid ht4
    have HM4 := hid hm4
    have hn4 := hm4.nod HN3.out HSX.out.1
    have HP4 : Hid (OwnsP 0 w4 (.slice (some ⟨g, 0, none⟩) pl.length cap) pl) := hm4.row HP3.out (fun g' hg' => HSX.out.2 g' hg')
    have HN4 := hid hn4
    obtain ⟨r0, r1, r2, -⟩ := hn4.cells
    have HD := hid (deleteP_any _ pl (i + 1) _ hi HP4.out (by omega))
    clear ht4 hm4 hn4 HTK HN3 HP3 HNB3 HSX
    go_wp2_with fail
    refine HD.out.mono ?_
    rintro r w5 ⟨vp', rfl, ho5, hg5, hbk⟩
    have m5 := Mod.of_grown hg5
    have hn5 := m5.nod HN4.out (fun q => HGP.out (Option.some.inj q))
    have m6 := Mod.setCell w5 p 1 vp'
    have HF : Hid (NodT (w5.setCell ⟨p, 1, none⟩ vp') p vi vp' vc ∧ OwnsP 0 (w5.setCell ⟨p, 1, none⟩ vp') vp' (pl.take (i + 1) ++ pl.drop (i + 2)) ∧ vp'.ownBlock = (Value.slice (some ⟨g, 0, none⟩) pl.length cap).ownBlock ∧ Mod (fun k => k = p ∨ (Value.slice (some ⟨g, 0, none⟩) pl.length cap).ownBlock = some k) w4 (w5.setCell ⟨p, 1, none⟩ vp')) := by
      refine ⟨hn5.setp vp', m6.row ho5 (fun g' hg' q => ?_), hbk, m5.trans m6 (fun k _ q => .inr q) (fun k _ q => .inl q)⟩
      rw [hbk] at hg'
      exact HGP.out ((show g = g' from Option.some.inj hg').trans q)
    obtain ⟨c0', c1'', c2', k0', k1', k2'⟩ := hn5.cells
    obtain ⟨ua, un, ucap, hu⟩ := shape3 ho5
    clear m5 hn5 m6 ho5 hg5 hbk
    subst hu
    go_wp2_with fail
    go_ret
    exact ⟨rfl, _, _, _, _, HJ.out, HT4.out, HM4.out, HF.out⟩
end Go.Proofs.YtolgpnaoaodepaaGreat
