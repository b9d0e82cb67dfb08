/- take, of a branch; take, of whatever. -/
import Derived.Test.YtolgpnaoaodepaaGreatTreZQm
import Derived.Test.YtolgpnaoaodepaaGreatWalkMm
namespace Go.Proofs.YtolgpnaoaodepaaGreat
open Go.RowKit

def lenAt (p : Nat) (w : World) : Nat := match w.cell? ⟨p, 2, none⟩ with
  | some (.slice _ n _) => n
  | _ => 0
theorem lenAt_nod {w : World} {p : Nat} {vi vp : Value} {a : Option Addr} {n c : Nat} (h : NodT w p vi vp (.slice a n c)) : lenAt p w = n := by
  unfold lenAt; rw [h.cells.2.2.1]
theorem Rep.nodc {h : Nat} {w : World} {p : Nat} {ps : List (Tr.Key × Tr.TreeT h)} {cs : List Tr.Ch} {F : List Nat} (hr : Rep (h + 1) w p (Tr.brT ps cs) F) : ∃ vp a c, NodT w p (.slice none 0 0) vp (.slice a cs.length c) := by
  obtain ⟨vp, vc, pl, ml, G, hn, hop, hoc, rfl, hk, rfl⟩ := hr
  obtain ⟨a, c, rfl⟩ := rowShape hoc
  rw [← plainCh_len ml] at hn
  exact ⟨vp, a, c, hn⟩
theorem SameB.trans {h : Nat} {lo : Tr.Key} {hi : Option Tr.Key} {p : Nat} {F : List Nat} {w : World} {ps : List (Tr.Key × Tr.TreeT h)} {cs : List Tr.Ch} {w1 : World} {ps1 : List (Tr.Key × Tr.TreeT h)} {cs1 : List Tr.Ch} {F1 : List Nat} {w2 : World} {ps2 : List (Tr.Key × Tr.TreeT h)} {cs2 : List Tr.Ch} {F2 : List Nat} (h1 : SameB h lo hi p F w ps cs w1 ps1 cs1 F1) (h2 : SameB h lo hi p F1 w1 ps1 cs1 w2 ps2 cs2 F2) : SameB h lo hi p F w ps cs w2 ps2 cs2 F2 :=
  ⟨h2.rep, h2.nd, h2.wf, Nat.le_trans h2.wt h1.wt, h1.gone.trans h2.gone, fun k hk => (h2.val k hk).trans (h1.val k hk)⟩
theorem ccells_app (a b : List (Int × ByteArray × ByteArray)) : ccells (a ++ b) = ccells a ++ ccells b := by unfold ccells; simp
theorem plainCh_app (a b : List (Int × ByteArray × ByteArray)) : plainCh (a ++ b) = plainCh a ++ plainCh b := by unfold plainCh; simp

set_option maxHeartbeats 1000000 in
set_option maxRecDepth 20000 in
theorem take_branch (h : Nat) (HT : TakeP h) : TakeP (h + 1) := by
  intro p t F w vc ml lo hi hr hnd hwf htop hroom hoc hne hcc hwt
  obtain ⟨ps, cs⟩ := t
  have hlt := hr.lt
  obtain ⟨vp, vb, pl, bl, G, hn, hop, hob, rfl, hk, rfl⟩ := hr
  have hpos : 0 < ps.length := chain_some hroom hwf.1
  have hpl := hk.len
  have hwt' : (plainCh bl).length + Tr.wts ps + ml.length ≤ 90000 := hwt
  rw [plainCh_len] at hwt'
  obtain ⟨pa, pc, rfl⟩ := rowShape hop
  obtain ⟨ba, bc, rfl⟩ := rowShape hob
  obtain ⟨ca, cc, rfl⟩ := rowShape hoc
  obtain ⟨n0, n1, n2, f0, f1, f2⟩ := hn.cells
  have HIL := hid (tIsLeaf_any p _ _ _ _ _ w hn)
  obtain ⟨v2, w2, e2, o2, g2, k2⟩ := run_rows w 77 77 34 Tryz.underlying77 _ 3 40 info_change rfl (by decide) (by decide) (.slice ba bl.length bc) (.slice ca ml.length cc) bl.length ml.length (ccells bl) (ccells ml) hob hoc (one_ccells ml) (by omega)
  obtain ⟨va, vn, vcap, rfl⟩ := shape3 o2
  have HE2 := hid e2
  have hbp : (Value.slice ba bl.length bc).ownBlock ≠ some p := nod_row hn hob (by decide)
  have m2 : Mod (fun k => (Value.slice ba bl.length bc).ownBlock = some k) w w2 := Mod.of_grown g2
  have hn2 : NodT w2 p (.slice none 0 0) (.slice pa pl.length pc) (.slice ba bl.length bc) := m2.nod hn hbp
  have m3 := Mod.setCell w2 p 2 (.slice va vn vcap)
  have hvp : (Value.slice va vn vcap).ownBlock ≠ some p := by
    rcases k2 with q | q
    · rw [q]; exact hbp
    · rw [q]; intro z; have := Option.some.inj z; have := hn.lt; omega
  have HS0 : Hid (SameB h lo hi p (p :: (blk (.slice pa pl.length pc) ++ (blk (.slice ba bl.length bc) ++ G))) w ps (plainCh (bl ++ ml)) (w2.setCell ⟨p, 2, none⟩ (.slice va vn vcap)) ps (plainCh (bl ++ ml)) (p :: (blk (.slice pa pl.length pc) ++ (blk (.slice va vn vcap) ++ G)))) := by
    have hb1 : ((p :: blk (.slice pa pl.length pc)) ++ (blk (.slice ba bl.length bc) ++ G)).Nodup := by simpa using hnd
    have hdis := (List.nodup_append.1 hb1).2.2
    have hin := (List.nodup_append.1 (List.nodup_append.1 hb1).2.1).2.2
    have hkeep : ∀ g, g < w.heap.size → (Value.slice ba bl.length bc).ownBlock ≠ some g → g ≠ p → (w2.setCell ⟨p, 2, none⟩ (.slice va vn vcap)).heap[g]? = w.heap[g]? := fun g h1 h2 h3 =>
      (m3.block g (by have := m2.size; omega) h3).trans (m2.block g h1 h2)
    have hkp : ∀ g ∈ blk (.slice pa pl.length pc) ++ G, (w2.setCell ⟨p, 2, none⟩ (.slice va vn vcap)).heap[g]? = w.heap[g]? := fun g hg => by
      refine hkeep g (hlt g (by simp at hg ⊢; rcases hg with q | q <;> simp [q])) (fun q => ?_) (fun q => ?_)
      · rcases List.mem_append.1 hg with z | z
        · exact hdis g (by simp [z]) g (by simp [mem_blk.2 q]) rfl
        · exact hin g (mem_blk.2 q) g z rfl
      · have := (List.nodup_cons.1 hnd).1
        rw [← q] at this
        exact this (by rcases List.mem_append.1 hg with z | z <;> simp [z])
    refine ⟨⟨.slice pa pl.length pc, .slice va vn vcap, pl, bl ++ ml, G, hn2.setc _, row_same hop fun g hg _ => hkp g (by simp [mem_blk.2 hg]), ?_, rfl, hk.keep fun g hg => hkp g (by simp [hg]), rfl⟩, ?_, ⟨hwf.1, fun c hc => ?_⟩, Nat.le_refl _, ⟨?_, fun g hg => ?_⟩, fun _ _ => rfl⟩
    · refine m3.row ?_ (fun g hg q => hvp (by rw [← q]; exact hg))
      rw [List.length_append, ccells_app]
      exact o2
    · have := nodup_swap (N := w.heap.size) (M' := blk (.slice va vn vcap)) hb1 (blk_nodup _) (fun g hg => by
        rcases k2 with q | q
        · exact .inl (by rw [blk_eq q] at hg; exact hg)
        · exact .inr (by have := mem_blk.1 hg; rw [q] at this; have := Option.some.inj this; omega)) (fun g hg => hlt g (by simp at hg ⊢; rcases hg with q | q <;> simp [q])) (fun g hg => hlt g (by simp [hg]))
      simpa using this
    · rw [plainCh_app] at hc
      rcases List.mem_append.1 hc with q | q
      · exact hwf.2 c q
      · exact hcc c q
    · refine (m2.trans m3 (H := fun g => g ∈ p :: (blk (.slice pa pl.length pc) ++ (blk (.slice ba bl.length bc) ++ G))) (fun g _ q => ?_) (fun g _ q => ?_))
      · simp [mem_blk.2 q]
      · simp [q]
    · rcases List.mem_cons.1 hg with q | q
      · exact .inl (by simp [q])
      · rcases List.mem_append.1 q with q | q
        · exact .inl (by simp [q])
        · rcases List.mem_append.1 q with q | q
          · rcases k2 with z | z
            · rw [blk_eq z] at q; exact .inl (by simp [q])
            · exact .inr (by have := mem_blk.1 q; rw [z] at this; have := Option.some.inj this; omega)
          · exact .inl (by simp [q])
  have HW0 : Hid (Tr.wt (h + 1) (Tr.brT ps (plainCh (bl ++ ml))) ≤ Tr.wt (h + 1) (Tr.brT ps (plainCh bl)) + ml.length) := by
    show _ ≤ _
    rw [Tr.wt_br, Tr.wt_br, plainCh_app, List.length_append, plainCh_len, plainCh_len]; omega
  have HW1 : Hid (Tr.wt (h + 1) (Tr.brT ps (plainCh (bl ++ ml))) ≤ 90000) := by
    show _ ≤ _
    have := HW0.out
    have h2 : Tr.wt (h + 1) (Tr.brT ps (plainCh bl)) + ml.length ≤ 90000 := hwt
    omega
  have HV0 : Hid (∀ k, Tr.val (h + 1) (Tr.brT ps (plainCh (bl ++ ml))) k = Tr.afterAll (plainCh ml) k (Tr.val (h + 1) (Tr.brT ps (plainCh bl)) k)) := fun k => by
    rw [plainCh_app]; exact Tr.afterAll_append ..
  obtain ⟨y0, y1, y2, z0, z1, z2⟩ := hn2.cells
  have HTT := hid HT
  have HRM := hid hroom
  have hp0 : decide (pl.length = 0) = false := decide_eq_false (by omega)
  clear hn hop hob hoc hk hnd hlt hwf htop hroom hne hcc hwt e2 o2 g2 k2 m2 m3 hbp hvp hn2 HT
  generalize hFF : p :: (blk (.slice pa pl.length pc) ++ (blk (.slice ba bl.length bc) ++ G)) = FF at *
  generalize hF2 : p :: (blk (.slice pa pl.length pc) ++ (blk (.slice va vn vcap) ++ G)) = F2 at *
  go_enter Tryz.func63, Tryz.ntmps63
  go_wp2_with fail
  refine HIL.out.mono ?_
  rintro r w ⟨rfl, rfl⟩
  rw [hp0]
  go_wp2_with (at_builtin; refine Lib.wpList_append_run w rfl (.tmp 22) (.tmp 23) 77 77 rfl _ _ rfl rfl _ _ HE2.out ?_)
  go_loopw [27] (fun _ wr => ∃ ps' cs' F', SameB h lo hi p FF w ps (plainCh (bl ++ ml)) wr ps' cs' F') (fun _ wr => lenAt p wr)
  case atStart => exact ⟨_, _, _, HS0.out⟩
  case round =>
    obtain ⟨ps', cs', F', hs⟩ := hrel
    have HS := hid hs
    obtain ⟨vp', a', c', hn'⟩ := hs.rep.nodc
    obtain ⟨x0, x1, x2, -⟩ := hn'.cells
    have HLA := hid (lenAt_nod hn')
    have hw90 : Tr.wt (h + 1) (Tr.brT ps' cs') ≤ 90000 := Nat.le_trans hs.wt HW1.out
    have hcl : cs'.length ≤ 90000 := by rw [Tr.wt_br] at hw90; omega
    clear hs hn'
    by_cases h8 : 8 < cs'.length
    · have hq8 : decide ((8 : Int) < (cs'.length : Int)) = true := decide_eq_true (by omega)
      have HSI := hid (sink_any HTT.out p ps' cs' F' wr lo hi HS.out.rep HS.out.nd HS.out.wf HRM.out (by omega) hw90)
      go_wp2_with fail
      refine HSI.out.mono ?_
      rintro r w4 ⟨rfl, ps4, cs4, F4, hs4, hlt4⟩
      have HS4 := hid (HS.out.trans hs4)
      obtain ⟨vp4, a4, c4, hn4⟩ := hs4.rep.nodc
      have HL4 := hid (lenAt_nod hn4)
      clear hs4 hn4 x0 x1 x2
      go_wp2_with fail
      exact ⟨⟨_, _, _, HS4.out⟩, by rw [HLA.out, HL4.out]; exact hlt4⟩
    · have hq8 : decide ((8 : Int) < (cs'.length : Int)) = false := decide_eq_false (by omega)
      have hq9 : ¬ ((8 : Int) < (cs'.length : Int)) := by omega
      go_wp2_with fail
      go_end0
      have hs := HS.out
      exact ⟨rfl, Tr.brT ps' cs', ⟨F', ⟨hs.rep, hs.nd, hs.wf, Nat.le_of_not_lt h8, hs.gone.1, hs.gone.2⟩⟩, Nat.le_trans hs.wt HW0.out, fun k hk => (hs.val k hk).trans (HV0.out k)⟩
theorem takeT_any : ∀ h, TakeP h
  | 0 => take_leaf
  | h + 1 => take_branch h (takeT_any h)
end Go.Proofs.YtolgpnaoaodepaaGreat
/- The levels of a tree grow, and fall. -/
namespace Go.Proofs.YtolgpnaoaodepaaGreat.Tr

theorem inR_all (k : Key) : inR [] none k := ⟨by simp, fun b hb => by cases hb⟩
theorem room_all : room [] none := fun b hb => by cases hb
/-- Parts that are to become a tree. -/
structure Lvl (V : Key → Option Key) (N : Nat) (h : Nat) (ps : List (Key × TreeT h)) : Prop where
  chain : Chain (fun f m t => WF h f m t ∧ Top h t) (some []) none ps
  val : ∀ k, val (h + 1) (brT ps []) k = V k
  wt : wts ps ≤ N
theorem Lvl.start {h : Nat} {t : TreeT h} (hw : WF h [] none t) (hs : Small h t) {V : Key → Option Key} (hv : ∀ k, Tr.val h t k = V k) {N : Nat} (hN : Tr.wt h t ≤ N) : Lvl V N h (cutT h [] t) :=
  ⟨cutT_chain h room_all hw hs, fun k => (cutT_val h room_all hw hs k (inR_all k)).trans (hv k), Nat.le_trans (cutT_wt h [] t) hN⟩
theorem Lvl.wf {V : Key → Option Key} {N h : Nat} {ps : List (Key × TreeT h)} (hl : Lvl V N h ps) : WF (h + 1) [] none (brT ps []) ∧ Small (h + 1) (brT ps []) := ⟨⟨hl.chain, fun c hc => by cases hc⟩, Nat.zero_le _⟩
theorem Lvl.wtb {V : Key → Option Key} {N h : Nat} {ps : List (Key × TreeT h)} (hl : Lvl V N h ps) : Tr.wt (h + 1) (brT ps []) ≤ N := by
  rw [wt_br]; have := hl.wt; simpa using this
theorem Lvl.up {V : Key → Option Key} {N h : Nat} {ps : List (Key × TreeT h)} (hl : Lvl V N h ps) : Lvl V N (h + 1) (cutT (h + 1) [] (brT ps [])) := Lvl.start hl.wf.1 hl.wf.2 hl.val hl.wtb
theorem shares_len {α : Type} (l : List α) : (shares l 4).length = (l.length + 3) / 4 := by unfold shares; rw [sh_len]; omega
theorem bparts_len {h : Nat} (ss : List (List (Key × TreeT h))) (cs : List Ch) : (bparts ss cs).length = ss.length := by simp [bparts]
theorem up_len {h : Nat} {ps : List (Key × TreeT h)} (h1 : 1 < ps.length) : (cutT (h + 1) [] (brT ps [])).length < ps.length := by
  by_cases h4 : 4 < ps.length
  · rw [cutS_big h4, bparts_len, shares_len]; omega
  · rw [cutS_small h4]; exact h1
theorem Lvl.pos {V : Key → Option Key} {N h : Nat} {ps : List (Key × TreeT h)} (hl : Lvl V N h ps) : 0 < ps.length := by
  cases ps with
  | nil => exact absurd (show some [] = none from hl.chain) (by simp)
  | cons x r => simp
theorem Lvl.len {V : Key → Option Key} {N h : Nat} {ps : List (Key × TreeT h)} (hl : Lvl V N h ps) : ps.length ≤ N := Nat.le_trans (wt_parts hl.chain) hl.wt
/-- A tree of these values. -/
structure Root (V : Key → Option Key) (N : Nat) (h : Nat) (t : TreeT h) : Prop where
  wf : WF h [] none t
  top : Top h t
  val : ∀ k, Tr.val h t k = V k
  wt : Tr.wt h t ≤ N
theorem Lvl.root {V : Key → Option Key} {N h : Nat} {f : Key} {t : TreeT h} (hl : Lvl V N h [(f, t)]) : Root V N h t := by
  obtain ⟨e, m, h1, h2, h3⟩ := hl.chain
  obtain rfl : [] = f := Option.some.inj e
  obtain rfl : m = none := h3
  refine ⟨h2.1, h2.2, fun k => hl.val k, ?_⟩
  have := hl.wt
  rw [wts_cons, wts_nil] at this
  exact this
theorem Root.idle {V : Key → Option Key} {N h : Nat} {f : Key} {t : TreeT h} (hr : Root V N (h + 1) (brT [(f, t)] [])) : Root V N h t := by
  obtain ⟨e, m, h1, h2, h3⟩ := hr.wf.1
  obtain rfl : [] = f := Option.some.inj e
  obtain rfl : m = none := h3
  refine ⟨h2.1, h2.2, fun k => hr.val k, ?_⟩
  have := hr.wt
  rw [wt_br, wts_cons, wts_nil] at this
  simpa using this
end Go.Proofs.YtolgpnaoaodepaaGreat.Tr
/- The walk of pages' writeLeaf. -/
namespace Go.Proofs.YtolgpnaoaodepaaGreat
open Go.RowKit
namespace Pg
end Pg

end Go.Proofs.YtolgpnaoaodepaaGreat
/- The walks of package rules: IsKey, IsValue, AreItems, AreKeys. -/
namespace Go.Proofs.YtolgpnaoaodepaaGreat
open Go.RowKit

theorem ret_bool {a b : Bool} (h : a = b) : Ending.returned (.bool a) = .returned (.bool b) := by rw [h]
set_option maxHeartbeats 400000 in
theorem isKey_any (s : ByteArray) (w : World) : Calls Tryz.prog 60 #[.string s] w fun r w' => r = .returned (.bool (Pg.isKey s.size)) ∧ w' = w := by
  go_enter Tryz.func60, Tryz.ntmps60
  by_cases h1 : 1 ≤ s.size
  · have h2 : decide ((1 : Int) ≤ (s.size : Int)) = true := by simp; omega
    go_wp2_with fail
    go_ret
    exact ⟨ret_bool (by unfold Pg.isKey; rw [decide_eq_true h1]; simp; omega), rfl⟩
  · have h2 : decide ((1 : Int) ≤ (s.size : Int)) = false := by simp; omega
    go_wp2_with fail
    go_ret
    exact ⟨ret_bool (by unfold Pg.isKey; rw [decide_eq_false h1]; rfl), rfl⟩
set_option maxHeartbeats 400000 in
theorem isValue_any (s : ByteArray) (w : World) : Calls Tryz.prog 61 #[.string s] w fun r w' => r = .returned (.bool (decide (s.size ≤ 16))) ∧ w' = w := by
  go_enter Tryz.func61, Tryz.ntmps61
  go_wp2_with fail
  go_ret
  exact ⟨ret_bool (by simp; omega), rfl⟩

end Go.Proofs.YtolgpnaoaodepaaGreat
