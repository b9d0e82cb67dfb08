/- Get: down the tree, and what lies on the way. -/
import Derived.Test.YtolgpnaoaodepaaGreatWalkUm
import Derived.RangeFuncNested
import Derived.RangeFuncBound
import Derived.RangeFuncCalls
import Derived.RangeFuncLeaves
import Derived.RangeFuncBox
import Derived.Shelf.Abstract
import Derived.Shelf.RegionOpen
import Derived.WalkKit
import Derived.OwnWalkIn
import Derived.TacticsInMore
import Derived.LoopNIn
import Derived.LoopIn
import Derived.Test.YtolgpnaoaodepaaGreatTreCm
import Derived.BigQuiet
import Derived.Test.YtolgpnaoaodepaaGreatScaYm
namespace Go.Proofs.YtolgpnaoaodepaaGreat
open Go.RowKit

/-- A branch on the way: its block, its changes. -/
abbrev Wn := Nat × List (Int × ByteArray × ByteArray)
def WnOk (w : World) (x : Wn) : Prop := ∃ vi vp vc, NodT w x.1 vi vp vc ∧ OwnsC 0 w vc x.2 ∧ x.2.length ≤ 8 ∧ ∀ c ∈ x.2, c.2.2.size ≤ 16
/-- What is known behind the branches of a way, the last first. -/
def wayV (key : Tr.Key) (s : Option Tr.Key) (wl : List Wn) : Option Tr.Key := wl.foldr (fun x s => Tr.afterAll (plainCh x.2) key s) s
theorem wayV_snoc (key : Tr.Key) (s : Option Tr.Key) (wl : List Wn) (x : Wn) : wayV key s (wl ++ [x]) = wayV key (Tr.afterAll (plainCh x.2) key s) wl := by
  unfold wayV; rw [List.foldr_append]; rfl
theorem chs_small {cs : List Tr.Ch} {ml : List (Int × ByteArray × ByteArray)} (e : plainCh ml = cs) (h : ∀ c ∈ cs, Tr.okCh c) : ∀ c ∈ ml, c.2.2.size ≤ 16 := fun c hc => by
  have h1 : (c.1, c.2.1.data.toList, c.2.2.data.toList) ∈ cs := by rw [← e]; exact List.mem_map.2 ⟨c, hc, rfl⟩
  have h2 := (Tr.okCh_key (h _ h1)).2
  rw [← len_size]; exact h2
/-- One step down. -/
theorem treeDown {h : Nat} {w : World} {p : Nat} {ps : List (Tr.Key × Tr.TreeT h)} {cs : List Tr.Ch} {F : List Nat} {lo : Tr.Key} {hi : Option Tr.Key} {key : Tr.Key} (hr : Rep (h + 1) w p (ps, cs) F) (hw : Tr.WF (h + 1) lo hi (ps, cs)) (ht : Tr.Top (h + 1) (ps, cs)) (hk : Tr.inR lo hi key) :
    ∃ vp vc pl ml, NodT w p (.slice none 0 0) vp vc ∧ OwnsP 0 w vp pl ∧ pl.length ≤ 4 ∧ OwnsC 0 w vc ml ∧ WnOk w (p, ml) ∧ ∃ (hix : Tr.ix (pkeys pl) key < pl.length), ∃ t' F' lo' hi', Rep h w (pl[Tr.ix (pkeys pl) key]'hix).2 t' F' ∧ Tr.WF h lo' hi' t' ∧ Tr.Top h t' ∧ Tr.inR lo' hi' key ∧ Tr.room lo' hi' ∧ Tr.val (h + 1) (ps, cs) key = Tr.afterAll (plainCh ml) key (Tr.val h t' key) := by
  obtain ⟨vp, vc, pl, ml, G, hn, hop, hoc, e, hkd, rfl⟩ := hr
  obtain ⟨hch, hcs⟩ := hw
  obtain ⟨A, f, t, B, m, e1, e2, e3, e4, e5, e6, e7⟩ := Tr.chain_find hch hk
  have hkeys := hkd.keys
  have hlen := hkd.len
  subst e1
  obtain ⟨A', B', G1, G2, rfl, hl, hk1, hk2, rfl⟩ := Kids.split hkd
  match B', hk2 with
  | x :: B'', ⟨ex, H1, H2, r1, hk3, _⟩ =>
    have hix : Tr.ix (pkeys (A' ++ x :: B'')) key = A'.length := by rw [hkeys, e2, hl]
    have hlt : Tr.ix (pkeys (A' ++ x :: B'')) key < (A' ++ x :: B'').length := by rw [hix]; simp
    have hat : ((A' ++ x :: B'')[Tr.ix (pkeys (A' ++ x :: B'')) key]'hlt) = x := by
      have : ∀ i (hi : i < (A' ++ x :: B'').length), i = A'.length → (A' ++ x :: B'')[i]'hi = x := by
        rintro i hi rfl; simp
      exact this _ _ hix
    refine ⟨vp, vc, _, ml, hn, hop, by rw [hlen]; exact ht.1, hoc, ⟨_, _, _, hn, hoc, ?_, chs_small e fun c hc => (hcs c hc).2⟩, hlt, t, H1, f, m, by rw [hat]; exact r1, e3.1, e3.2, e5, e4, ?_⟩
    · show ml.length ≤ 8
      have h1 := plainCh_len ml
      have h2 : cs.length ≤ 8 := ht.2
      rw [e] at h1; omega
    · rw [e]; exact Tr.val_at e2
end Go.Proofs.YtolgpnaoaodepaaGreat
/- slices.Backward over a list of nodes: its contract. -/
namespace Go.Proofs.YtolgpnaoaodepaaGreat
open Go.RowKit Go.Shelf

attribute [local go_sem] Oper.semAt_some

/-- What a round keeps: what lay below, and the list's box. -/
def BackK (n₀ Bs : Nat) (A B : World) : Prop := Below n₀ A B ∧ B.heap[Bs]? = A.heap[Bs]?
def back (n : Nat) : List (Fin n) := (List.finRange n).reverse
theorem back_len (n : Nat) : (back n).length = n := by simp [back]
theorem back_at (n k : Nat) (h : k < n) : (back n).take (k + 1) = (back n).take k ++ [⟨n - 1 - k, by omega⟩] := by
  unfold back
  have hk : k < (List.finRange n).reverse.length := by simpa using h
  rw [List.take_add_one, List.getElem?_eq_getElem hk, List.getElem_reverse]
  simp
theorem back_fold {α β : Type} (wl : List α) (g : α → β → β) (s : β) : (back wl.length).foldl (fun s i => g (wl[i.1]'i.2) s) s = wl.foldr g s := by
  unfold back
  rw [List.foldl_reverse]
  have e : wl = (List.finRange wl.length).map fun i => wl[i.1]'i.2 := by
    apply List.ext_getElem
    · simp
    · intro i h1 h2; simp
  conv => rhs; rw [e]
  rw [List.foldr_map]

theorem back_fold2 {α β : Type} (wl : List α) (n : Nat) (hn : n = wl.length) (g : α → β → β) (s : β) : (back n).foldl (fun s i => g (wl[i.1]'(by have := i.2; omega)) s) s = wl.foldr g s := by
  subst hn; exact back_fold wl g s

set_option maxRecDepth 100000 in
set_option maxHeartbeats 2000000 in
theorem back1_in (F : Fence) (n : Nat) (hfn : F.fn 139) (hro : F.round = none) (hn : 1 ≤ n) (l Bs n₀ g cap : Nat) (bl : List Nat) (hreach : bl.length ≤ 10000000000) (hb : g < n₀) (J Jx : List (Fin bl.length) → World → Prop)
    (hY : ∀ pre x W, J pre W → pre.length < bl.length → YieldAt F (n - 1) Tryz.prog l #[.int .i64 (x.1 : Int), .pointer (some ⟨bl[x.1]'x.2, 0, none⟩)] W fun e W' =>
      (e = .returned (.bool true) ∧ J (pre ++ [x]) W' ∧ BackK n₀ Bs W W') ∨ (e = .returned (.bool false) ∧ Jx (pre ++ [x]) W'))
    (W : World) (hBs : W.heap[Bs]? = some (.cells #[.slice (some ⟨g, 0, none⟩) bl.length cap] 133 (0, 0))) (hc : ∀ j (h : j < bl.length), W.cell? ⟨g, j, none⟩ = some (.pointer (some ⟨bl[j]'h, 0, none⟩))) (h0 : J [] W) :
    CallsIn F n Tryz.prog 139 #[.func (.yield l) #[] #[], .pointer (some ⟨Bs, 0, none⟩)] W fun e W' => (∃ v, e = .returned v) ∧
      ((∃ ys, ys = back bl.length ∧ J ys W') ∨ (∃ pre, True ∧ Jx pre W')) := by
  have hcB : ∀ W' : World, W'.heap[Bs]? = W.heap[Bs]? → W'.cell? ⟨Bs, 0, none⟩ = some (.slice (some ⟨g, 0, none⟩) bl.length cap) := fun W' hW' => by
    have := hW'.trans hBs
    simp [World.cell?, this]
  have hcW := hcB W rfl
  refine callsIn_of_wp Tryz.func139 rfl hfn ?_ hro
  simp only [Tryz.ntmps139, List.size_toArray, List.length_cons, List.length_nil, Nat.reduceAdd, Nat.reduceSub, Array.replicate_succ, Array.replicate_zero, List.push_toArray, List.append_toArray, List.nil_append, List.cons_append]
  have hw1 : IntKind.i64.wrap ((bl.length : Int) - 1) = (bl.length : Int) - 1 := IntWalk.i64_in _ ⟨by omega, by omega⟩
  gi_wp2
  gi_loopw [3] (fun i wr => ∃ k : Nat, k ≤ bl.length ∧ i = .int .i64 ((bl.length : Int) - 1 - k) ∧ J ((back bl.length).take k) wr ∧ BackK n₀ Bs W wr)
    (fun i _ => (intOf i + 1).toNat)
  case atStart => exact ⟨0, Nat.zero_le _, by simp, h0, Below.refl _ _, rfl⟩
  case round =>
    obtain ⟨k, hk, rfl, hJs, hnx, hbx⟩ := hrel
    have hcK := hcB wr hbx
    by_cases hlt : k < bl.length
    · have hpre : ((back bl.length).take k).length < bl.length := by rw [List.length_take, back_len]; omega
      obtain ⟨m, hmk, hml⟩ : ∃ m, m = bl.length - 1 - k ∧ m < bl.length := ⟨_, rfl, by omega⟩
      have HBK : Hid ((back bl.length).take (k + 1) = (back bl.length).take k ++ [⟨m, hml⟩]) := by
        show _ = _
        rw [back_at _ _ hlt]
        congr 2
        exact Fin.ext hmk.symm
      obtain ⟨fn, tmps, assign, body, hy, hR⟩ := hY _ ⟨m, hml⟩ wr hJs hpre
      dsimp only at hy
      have hcx : wr.cell? ⟨g, m, none⟩ = some (.pointer (some ⟨bl[m]'hml, 0, none⟩)) := (hnx.cell (p := ⟨g, m, none⟩) hb).trans (hc m hml)
      have hix : ((bl.length : Int) - 1 - k) = (m : Int) := by omega
      rw [hix]
      have hw2 : IntKind.i64.wrap ((m : Int) - 1) = (m : Int) - 1 := IntWalk.i64_in _ ⟨by omega, by omega⟩
      have HIX := hid hix
      clear hix hmk hk hlt hpre
      gi_wp2
      refine hR.mono ?_
      rintro e W3 (⟨rfl, hJ3, hk3⟩ | ⟨rfl, hJx3⟩)
      · gi_wp2
        go_roundw
        case rel => exact ⟨k + 1, by have := HIX.out; omega, by have := HIX.out; congr 1; omega, by rw [HBK.out]; exact hJ3, hnx.trans hk3.1, hk3.2.trans hbx⟩
        case measure => simp [intOf]
      · gi_wp2
        refine bodyPost_ret (results_none rfl _ _ _) rfl ?_
        exact ⟨⟨_, rfl⟩, .inr ⟨_, trivial, hJx3⟩⟩
    · obtain rfl : k = bl.length := by omega
      have HTK : Hid ((back bl.length).take bl.length = back bl.length) := List.take_of_length_le (by rw [back_len]; exact Nat.le_refl _)
      gi_wp2
      go_end0
      exact ⟨⟨_, rfl⟩, .inl ⟨_, rfl, by rw [← HTK.out]; exact hJs⟩⟩

set_option maxRecDepth 100000 in
set_option maxHeartbeats 1000000 in
/-- .. of nothing. -/
theorem back1_nil (F : Fence) (n : Nat) (hfn : F.fn 139) (hro : F.round = none) (l Bs : Nat) (J : World → Prop) (W : World) (hBs : W.cell? ⟨Bs, 0, none⟩ = some (.slice none 0 0)) (h0 : J W) :
    CallsIn F n Tryz.prog 139 #[.func (.yield l) #[] #[], .pointer (some ⟨Bs, 0, none⟩)] W fun e W' => (∃ v, e = .returned v) ∧ J W' := by
  refine callsIn_of_wp Tryz.func139 rfl hfn ?_ hro
  simp only [Tryz.ntmps139, List.size_toArray, List.length_cons, List.length_nil, Nat.reduceAdd, Nat.reduceSub, Array.replicate_succ, Array.replicate_zero, List.push_toArray, List.append_toArray, List.nil_append, List.cons_append]
  gi_wp2
  gi_loopw [3] (fun i wr => i = .int .i64 (-1) ∧ J wr) (fun _ _ => 0)
  case atStart => exact ⟨rfl, h0⟩
  case round =>
    obtain ⟨rfl, hJs⟩ := hrel
    gi_wp2
    go_end0
    exact ⟨⟨_, rfl⟩, hJs⟩
theorem BackK.trans {n₀ Bs : Nat} {A B C : World} (h1 : BackK n₀ Bs A B) (h2 : BackK n₀ Bs B C) : BackK n₀ Bs A C := ⟨h1.1.trans h2.1, h2.2.trans h1.2⟩
theorem row_ptr {w : World} {B : Nat} {e : TypeId} {bl : List Nat} {g cap : Nat} (h : w.ownsRow B e 1 (.slice (some ⟨g, 0, none⟩) bl.length cap) bl.length (bl.map fun g => .pointer (some ⟨g, 0, none⟩))) : ∀ j (h : j < bl.length), w.cell? ⟨g, j, none⟩ = some (.pointer (some ⟨bl[j]'h, 0, none⟩)) := fun j hj => by
  have := h.cells rfl j (.pointer (some ⟨bl[j]'hj, 0, none⟩)) (by simp [hj])
  rw [off_add] at this
  simpa using this
theorem back_stops (F : Fence) (n : Nat) (hfn : F.fn 139) (hro : F.round = none) (hn : 1 ≤ n) (Bs n₀ : Nat) (sv : Value) (bl : List Nat) (hreach : bl.length ≤ 10000000000) (w : World) (hc : w.heap[Bs]? = some (.cells #[sv] 133 (0, 0)))
    (hI : w.ownsRow 0 120 1 sv bl.length (bl.map fun g => .pointer (some ⟨g, 0, none⟩))) (hlt : ∀ g, sv.ownBlock = some g → g < n₀) :
    SeqStopsK F n Tryz.prog 139 #[.pointer (some ⟨Bs, 0, none⟩)] (fun x : Fin bl.length => #[Value.int .i64 (x.1 : Int), .pointer (some ⟨bl[x.1]'x.2, 0, none⟩)]) (BackK n₀ Bs) (fun ys => ys = back bl.length) (fun _ => True) bl.length w := fun l J Jx W hW _ _ hY h0 => by
  have hBl : Bs < w.heap.size := (Array.getElem?_eq_some_iff.1 hc).1
  have hc' := (hW.block Bs hBl).trans hc
  have hI' := row_below hI hW (Nat.le_refl _)
  rcases hI'.2 with ⟨e, h0'⟩ | ⟨g, cap, cur, e, hb, hg, hcp, hm, hcs, htk⟩
  · subst e
    obtain rfl : bl = [] := List.eq_nil_of_length_eq_zero h0'
    refine (back1_nil F n hfn hro l Bs (J []) W (by simp [World.cell?, hc']) h0).mono ?_
    rintro e W' ⟨he, hj⟩
    exact ⟨he, .inl ⟨[], rfl, hj⟩⟩
  · subst e
    exact back1_in F n hfn hro hn l Bs n₀ g cap bl hreach (hlt g rfl) J Jx hY W hc' (row_ptr hI') h0
set_option maxHeartbeats 1000000 in
theorem back_any (a : Option Addr) (len cap : Nat) (w : World) :
    Calls Tryz.prog 79 #[.slice a len cap] w fun e w' => e = .returned (.func (.func 139) #[] #[.pointer (some ⟨w.heap.size, 0, none⟩)]) ∧ w' = w.alloc (.cells #[.slice a len cap] 133) := by
  go_enter Tryz.func79, Tryz.ntmps79
  go_wp2_with fail
  go_ret
  exact ⟨rfl, rfl⟩
end Go.Proofs.YtolgpnaoaodepaaGreat
/- The walk of a tree's Get. -/
namespace Go.Proofs.YtolgpnaoaodepaaGreat
open Go.RowKit Go.Shelf

attribute [local go_sem] Oper.semAt_some

theorem info_np : (Tryz.prog.info? 120).map (fun i => (i.zero, i.size, i.bytes)) = some (some (.pointer none), 1, 8) := by kernel_rfl
/-- append of a pointer, of a list as long as a way can be. -/
theorem wpApP (w : World) {ops : Array Oper} {rest : List Oper} {o : Oper} {a : Act} {Q : Exit → Act → World → Prop} (hgd : o.guard = none) (sl x : Operand)
    (ho : o.op = Op.call { callee := Callee.builtin Builtin.append, args := #[sl, x], argTypes := #[133, 133] }) (B : Nat) (v : Value) (n : Nat) (xs : List Value) (hs : a.eval sl = v) (hown : w.ownsRow B 120 1 v n xs)
    (u : Value) (hone : u.oneCell' = true) (hx : a.eval x = .slice (some ⟨w.heap.size, 0, none⟩) 1 1) (hb : n + 1 ≤ 10000000000) (hB : B ≤ w.heap.size)
    (h : ∀ (v' : Value) (w' : World), w'.ownsRow B 120 1 v' (n + 1) (xs ++ [u]) → w.grownBy w' v.ownBlock → wpList Tryz.prog ops Q rest (a.put o.dst v') w') : wpList Tryz.prog ops Q (o :: rest) a (w.alloc (.cells #[u] 120)) := by
  obtain ⟨i, hi, hz0, hz1, hz2⟩ := info_parts info_np
  refine wpList_append_own_at (w.alloc (.cells #[u] 120)) hgd sl x 133 ho B 120 i (.pointer none) 1 8 Tryz.underlying133 hi hz0 hz1 hz2 rfl (by decide) v n xs hs (hown.alloc _) ⟨w.heap.size, 0, none⟩ 1 1 [u] hx (by simp) ?_ (by intro y hy; rw [List.mem_singleton.1 hy]; exact hone) (by unfold maxLen; omega) (by omega) (by simp; omega) ?_
  · intro j y hj
    have hc : (w.alloc (.cells #[u] 120)).heap[w.heap.size]? = some (.cells #[u] 120 (0, 0)) := heap_alloc_new _ _
    rw [off_add]
    unfold World.cell?
    rw [hc]
    simpa using hj
  intro v' w' ho' hg _ _
  exact h v' w' ho' (grown_after_alloc hg)
def ptrOf : Value → Nat
  | .pointer (some ⟨g, _, _⟩) => g
  | _ => 0
/-- On the way down. -/
structure GeI (w : World) (h : Nat) (t : Tr.TreeT h) (key : ByteArray) (v6 v7 : Value) (wl : List Wn) (h' p' : Nat) (t' : Tr.TreeT h') (F' : List Nat) (lo : Tr.Key) (hi : Option Tr.Key) (wr : World) : Prop where
  p : v7 = .pointer (some ⟨p', 0, none⟩)
  row : wr.ownsRow (w.heap.size + 1) 120 1 v6 wl.length (wl.map fun x => .pointer (some ⟨x.1, 0, none⟩))
  rep : Rep h' w p' t' F'
  wf : Tr.WF h' lo hi t'
  top : Tr.Top h' t'
  inr : Tr.inR lo hi key.data.toList
  room : Tr.room lo hi
  val : Tr.val h t key.data.toList = wayV key.data.toList (Tr.val h' t' key.data.toList) wl
  ok : ∀ x ∈ wl, WnOk w x
  len : wl.length + h' = h
  bel : Below w.heap.size w wr
  box : wr.heap[w.heap.size]? = some (.cells #[.string key] 9 (0, 0))
/-- A round under way: what it keeps; the state in its box. -/
structure RdF (n₀ Bs B0 : Nat) (w W wr : World) : Prop where
  keeps : KeepsFrom B0 W wr
  bk : BackK n₀ Bs W wr
  bel : Below w.heap.size w wr
  bs : Bs < wr.heap.size
  n0 : n₀ ≤ wr.heap.size
theorem RdF.below {n₀ Bs B0 : Nat} {w W wr wr' : World} (h : RdF n₀ Bs B0 w W wr) (hb : Below wr.heap.size wr wr') : RdF n₀ Bs B0 w W wr' :=
  ⟨h.keeps.trans ((⟨hb.size, fun k _ hk _ => (hb.block k (Array.getElem?_eq_some_iff.1 hk).1).trans hk⟩ : KeepsOthers wr wr').from B0), h.bk.trans ⟨hb.mono h.n0, hb.block Bs h.bs⟩, h.bel.trans (hb.mono h.bel.size), Nat.lt_of_lt_of_le h.bs hb.size, Nat.le_trans h.n0 hb.size⟩
theorem RdF.set {n₀ Bs B0 sb i : Nat} {w W wr : World} (h : RdF n₀ Bs B0 w W wr) (h1 : n₀ ≤ sb) (h2 : w.heap.size ≤ sb) (h3 : Bs ≠ sb) (v : Value) : RdF n₀ Bs B0 w W (wr.setCell ⟨sb, i, none⟩ v) := by
  have m := Mod.setCell wr sb i v
  exact ⟨h.keeps.trans ((KeepsOthers.setCell wr ⟨sb, i, none⟩ v).from B0), h.bk.trans ⟨(Below.refl n₀ wr).setCell (p := ⟨sb, i, none⟩) h1 v, m.block Bs h.bs h3⟩, h.bel.setCell (p := ⟨sb, i, none⟩) h2 v, Nat.lt_of_lt_of_le h.bs m.size, Nat.le_trans h.n0 m.size⟩
theorem one_len {k : Tr.Key} {s : Option Tr.Key} {c : Tr.Ch} (hs : (s.getD []).length ≤ 16) (hc : c.2.2.length ≤ 16) : ((Tr.one k s c).getD []).length ≤ 16 := by
  unfold Tr.one
  split
  · cases h : Tr.after s c with
    | none => simp
    | some v => exact Tr.after_some hc h
  · exact hs
theorem GeI.drewN {w : World} {h : Nat} {t : Tr.TreeT h} {key : ByteArray} {v6 v7 : Value} {wl : List Wn} {h' p' : Nat} {t' : Tr.TreeT h'} {F' : List Nat} {lo : Tr.Key} {hi : Option Tr.Key} {wr : World} (g : GeI w h t key v6 v7 wl h' p' t' F' lo hi wr) (n : Nat) : GeI w h t key v6 v7 wl h' p' t' F' lo hi (wr.drewN n) :=
  ⟨g.p, row_below g.row (below_drewN (Below.refl _ wr) n) (Nat.le_refl _), g.rep, g.wf, g.top, g.inr, g.room, g.val, g.ok, g.len, below_drewN g.bel n, ((below_drewN (Below.refl wr.heap.size wr) n).block _ (Array.getElem?_eq_some_iff.1 g.box).1).trans g.box⟩
/-- A round's state, behind some of the changes. -/
structure RdI (n₀ Bs B0 sb kb : Nat) (w W : World) (key : ByteArray) (sl : Value) (s : Option Tr.Key) (wr : World) : Prop where
  rd : RdF n₀ Bs B0 w W wr
  len : (s.getD []).length ≤ 16
  c0 : wr.cell? ⟨sb, 0, none⟩ = some (.string (stV s))
  c1 : wr.cell? ⟨sb, 1, none⟩ = some (.bool (stB s))
  f0 : wr.frozen? ⟨sb, 0, none⟩ = false
  f1 : wr.frozen? ⟨sb, 1, none⟩ = false
  ck : wr.cell? ⟨kb, 0, none⟩ = some (.string key)
  cb : wr.cell? ⟨Bs, 0, none⟩ = some sl
theorem blk_lt {w : World} {b o : Nat} {v : Value} (h : w.cell? ⟨b, o, none⟩ = some v) : b < w.heap.size := by
  rcases Nat.lt_or_ge b w.heap.size with h' | h'
  · exact h'
  · simp [World.cell?, Array.getElem?_eq_none h'] at h
theorem froz_below {w w' : World} (hb : Below w.heap.size w w') {b o : Nat} (hl : b < w.heap.size) : w'.frozen? ⟨b, o, none⟩ = w.frozen? ⟨b, o, none⟩ := by
  simp only [World.frozen?, hb.block b hl]
theorem RdI.below {n₀ Bs B0 sb kb : Nat} {w W : World} {key : ByteArray} {sl : Value} {s : Option Tr.Key} {wr wr' : World} (h : RdI n₀ Bs B0 sb kb w W key sl s wr) (hb : Below wr.heap.size wr wr') : RdI n₀ Bs B0 sb kb w W key sl s wr' := by
  have hs := blk_lt h.c0
  exact ⟨h.rd.below hb, h.len, (hb.cell (p := ⟨sb, 0, none⟩) hs).trans h.c0, (hb.cell (p := ⟨sb, 1, none⟩) hs).trans h.c1, (froz_below hb hs).trans h.f0, (froz_below hb hs).trans h.f1, (hb.cell (p := ⟨kb, 0, none⟩) (blk_lt h.ck)).trans h.ck, (hb.cell (p := ⟨Bs, 0, none⟩) (blk_lt h.cb)).trans h.cb⟩
theorem RdI.put {n₀ Bs B0 sb kb : Nat} {w W : World} {key : ByteArray} {sl : Value} {s s' : Option Tr.Key} {wr : World} (h : RdI n₀ Bs B0 sb kb w W key sl s wr) (h1 : n₀ ≤ sb) (h2 : w.heap.size ≤ sb) (h3 : Bs ≠ sb) (h4 : kb ≠ sb) (hl : (s'.getD []).length ≤ 16) : RdI n₀ Bs B0 sb kb w W key sl s' ((wr.setCell ⟨sb, 0, none⟩ (.string (stV s'))).setCell ⟨sb, 1, none⟩ (.bool (stB s'))) := by
  refine ⟨(h.rd.set h1 h2 h3 _).set h1 h2 h3 _, hl, ?_, ?_, ?_, ?_, ?_, ?_⟩
  · rw [World.cell?_setCell_other _ _ _ _ (by simp)]; exact World.cell?_setCell_same _ _ _ h.c0
  · refine World.cell?_setCell_same _ _ _ (u := .bool (stB s)) ?_
    rw [World.cell?_setCell_other _ _ _ _ (by simp)]; exact h.c1
  · rw [World.frozen?_setCell, World.frozen?_setCell]; exact h.f0
  · rw [World.frozen?_setCell, World.frozen?_setCell]; exact h.f1
  · rw [World.cell?_setCell_other _ _ _ _ (by simp), World.cell?_setCell_other _ _ _ _ (by simp; first | exact fun e => h4 e.symm | exact fun e => h3 e.symm | skip)]; exact h.ck
  · rw [World.cell?_setCell_other _ _ _ _ (by simp), World.cell?_setCell_other _ _ _ _ (by simp; first | exact fun e => h4 e.symm | exact fun e => h3 e.symm | skip)]; exact h.cb
theorem take_one {ml : List (Int × ByteArray × ByteArray)} {key : Tr.Key} {s : Option Tr.Key} (j : Nat) (hj : j < ml.length) : Tr.afterAll (plainCh (ml.take (j + 1))) key s = Tr.one key (Tr.afterAll (plainCh (ml.take j)) key s) (chP (ml[j]'hj).1 (ml[j]'hj).2.1 (ml[j]'hj).2.2) := by
  rw [List.take_add_one, List.getElem?_eq_getElem hj]
  unfold plainCh
  rw [List.map_append, Tr.afterAll_append]; rfl
theorem nod_of {w wr : World} {p : Nat} {vi vp vc : Value} (h : NodT w p vi vp vc) (hb : Below w.heap.size w wr) : NodT wr p vi vp vc := (hb.block p h.lt).trans h

set_option maxRecDepth 100000 in
set_option maxHeartbeats 1000000 in
theorem tGet_any (V : Tr.Key → Option Tr.Key) (N b : Nat) (F : List Nat) (key : ByteArray) (w : World) (ht : TreM V N b F w) (hN : N ≤ 90000) :
    Calls Tryz.prog 43 #[.pointer (some ⟨b, 0, none⟩), .string key] w fun r w' => r = .returned (.tuple #[.string (stV (V key.data.toList)), .bool (stB (V key.data.toList))]) ∧ Below w.heap.size w w' := by
  obtain ⟨h, p, t, hh, hq⟩ := ht
  have hb0 : Below w.heap.size w (w.alloc (.cells #[.string key] 9)) := (Below.refl _ w).alloc (Nat.le_refl _) _
  have HI0 : Hid (GeI w h t key (.slice none 0 0) (.pointer (some ⟨p, 0, none⟩)) [] h p t F [] none (w.alloc (.cells #[.string key] 9))) :=
    ⟨rfl, World.ownsRow_nil _ _ _ _, hq.rep, hq.root.wf, hq.root.top, Tr.inR_all _, Tr.room_all, rfl, (fun x hx => by cases hx), by simp, hb0, heap_alloc_new _ _⟩
  have HVAL := hid (hq.root.val key.data.toList)
  obtain ⟨t0, t1⟩ := (hq.tb.keep (hb0.block b hq.tb.lt)).cells
  have hhb : h ≤ 9000000000 := by omega
  clear hq hb0 hh
  refine (callsIn_wide (n := 6)).1 ?_
  refine callsIn_of_wp_marks Tryz.func43 rfl trivial ?_ rfl
  simp only [Tryz.ntmps43, List.size_toArray, List.length_cons, List.length_nil, Nat.reduceAdd, Nat.reduceSub, Array.replicate_succ, Array.replicate_zero, List.push_toArray, List.append_toArray, List.nil_append, List.cons_append]
  refine wpIn_wide.2 ?_
  go_wp2_with fail
  go_loopw [6, 7] (fun v6 v7 wr => ∃ wl h' p' t' F' lo hi, GeI w h t key v6 v7 wl h' p' t' F' lo hi wr) (fun _ v7 _ => hgt h w (ptrOf v7))
  case atStart => exact ⟨_, _, _, _, _, _, _, HI0.out⟩
  case round =>
    obtain ⟨wl, h', p', t', F', lo, hi, hI⟩ := hrel
    obtain rfl := hI.p
    have HI := hid hI
    have hcb : wr.cell? ⟨w.heap.size, 0, none⟩ = some (.string key) := by simp [World.cell?, hI.box]
    clear hI
    match h', t', HI with
    | 0, t', HI =>
      obtain ⟨vi, il, hn, ho, rfl, -⟩ := HI.out.rep
      have hnr := nod_of hn HI.out.bel
      have HLF := hid (tIsLeaf_any p' _ _ _ _ _ wr hnr)
      clear hn
      go_wp2_with fail
      refine HLF.out.mono ?_
      rintro r wr ⟨rfl, rfl⟩
      have hor : OwnsI 0 wr vi il := row_below ho HI.out.bel (Nat.le_refl _)
      have HR : Hid (Tr.Rising (plain il)) := HI.out.wf.1
      have hil : il.length ≤ 16 := by
        have : List.length (α := Tr.It) (plain il) ≤ 16 := HI.out.top
        simpa [plain] using this
      have HS16 : Hid (((Tr.look (plain il) key.data.toList).getD []).length ≤ 16) := by
        show _ ≤ _
        cases hl : Tr.look (plain il) key.data.toList with
        | none => simp
        | some v =>
          have h1 := (HI.out.wf.2 _ (Tr.look_mem hl)).2.2
          exact h1
      have HST := hid (stateOf_any p' 0 vi _ _ il key wr hnr hor (by omega) HR.out)
      have HVV : Hid (V key.data.toList = wayV key.data.toList (Tr.look (plain il) key.data.toList) wl) := by
        show _ = _
        rw [← HVAL.out]; exact HI.out.val
      clear ho hor hnr HLF
      obtain ⟨a6, c6, rfl⟩ := rowShape HI.out.row
      go_wp2_with fail
      refine HST.out.mono ?_
      rintro r w2 ⟨rfl, hb2⟩
      have HB2 := hid hb2
      clear hb2 HST
      go_wp2_with (go_at_call 79; refine (back_any _ _ _ _).mono ?_; rintro e w' ⟨rfl, rfl⟩)
      generalize hs0 : Tr.look (plain il) key.data.toList = s0 at *
      clear hs0
      have hz2 := HB2.out.size
      have hbw2 : Below w.heap.size w w2 := HI.out.bel.trans (HB2.out.mono HI.out.bel.size)
      have hkb : w.heap.size < wr.heap.size := (Array.getElem?_eq_some_iff.1 HI.out.box).1
      have b1 : Below w2.heap.size w2 (w2.alloc (.cells #[.string (stV s0), .bool (stB s0)] 136)) := (Below.refl _ w2).alloc (Nat.le_refl _) _
      have z1 : (w2.alloc (.cells #[.string (stV s0), .bool (stB s0)] 136)).heap.size = w2.heap.size + 1 := by simp
      have s1 : (w2.alloc (.cells #[.string (stV s0), .bool (stB s0)] 136)).heap[w2.heap.size]? = some (.cells #[.string (stV s0), .bool (stB s0)] 136 (0, 0)) := heap_alloc_new _ _
      generalize w2.alloc (.cells #[.string (stV s0), .bool (stB s0)] 136) = w3 at *
      have b2 : Below w3.heap.size w3 (w3.alloc (.cells #[.slice a6 wl.length c6] 133)) := (Below.refl _ w3).alloc (Nat.le_refl _) _
      have z2 : (w3.alloc (.cells #[.slice a6 wl.length c6] 133)).heap.size = w3.heap.size + 1 := by simp
      have s2 : (w3.alloc (.cells #[.slice a6 wl.length c6] 133)).heap[w3.heap.size]? = some (.cells #[.slice a6 wl.length c6] 133 (0, 0)) := heap_alloc_new _ _
      rw [z1] at s2
      generalize w3.alloc (.cells #[.slice a6 wl.length c6] 133) = w4 at *
      have hb4 : Below w2.heap.size w2 w4 := b1.trans (b2.mono (by omega))
      have hs4 : w4.heap[w2.heap.size]? = some (.cells #[.string (stV s0), .bool (stB s0)] 136 (0, 0)) := (b2.block _ (by omega)).trans s1
      have hk4 : w4.cell? ⟨w.heap.size, 0, none⟩ = some (.string key) := by rw [hb4.cell (p := ⟨w.heap.size, 0, none⟩) (by simp; omega), HB2.out.cell (p := ⟨w.heap.size, 0, none⟩) hkb]; exact hcb
      have hrow4 : w4.ownsRow 0 120 1 (.slice a6 wl.length c6) (wl.map (·.1)).length ((wl.map (·.1)).map fun g => .pointer (some ⟨g, 0, none⟩)) := by
        rw [List.length_map, List.map_map]
        exact row_below (row_zero HI.out.row) (HB2.out.trans (hb4.mono hz2)) (Nat.le_refl _)
      have HOK := hid HI.out.ok
      have HBW4 := hid (hbw2.trans (hb4.mono hbw2.size))
      have HSTP := hid (back_stops Fence.wide 5 trivial rfl (by omega) (w2.heap.size + 1) w2.heap.size (.slice a6 wl.length c6) (wl.map (·.1)) (by rw [List.length_map]; have := HI.out.len; omega) w4 s2 hrow4 (fun g hg => by have := (World.ownsRow.lt HI.out.row g hg).2; omega))
      refine (wpIn_wide (n := 6)).1 ?_
      refine wpIn_rangeFunc_ownG rfl (by decide) (gf := 139) (lb := #[.pointer (some ⟨w2.heap.size + 1, 0, none⟩)]) rfl trivial (enters_of Tryz.func139 (by kernel_rfl) rfl)
        HSTP.out BackK.trans (fun W l o o' hl ho h1 h2 => ⟨belowK_b (w := w4) (by omega) W l o o' hl ho h1 h2, World.putObj_heap_other (by omega)⟩) (Below.refl _ _) (fun _ => rfl)
        (fun pre W => ((∃ s, s = pre.foldl (fun s i => Tr.afterAll (plainCh (wl[i.1]'(by have := i.2; simpa using this)).2) key.data.toList s) s0 ∧ (s.getD []).length ≤ 16 ∧ W.cell? ⟨w2.heap.size, 0, none⟩ = some (.string (stV s)) ∧ W.cell? ⟨w2.heap.size, 1, none⟩ = some (.bool (stB s))) ∧ W.frozen? ⟨w2.heap.size, 0, none⟩ = false ∧ W.frozen? ⟨w2.heap.size, 1, none⟩ = false ∧ W.cell? ⟨w.heap.size, 0, none⟩ = some (.string key) ∧ W.cell? ⟨w2.heap.size + 1, 0, none⟩ = some (.slice a6 wl.length c6)) ∧ Below w.heap.size w W)
        (fun _ _ _ => False) ?hI (fun _ _ _ _ _ hs _ _ => hs) ?h0 ?a1 ?assign ?body ?done ?stop
      case hI => exact OwnFrom.and (Own.from (fun s A B row hs hg hr => by obtain ⟨⟨s', e1, e2, e3, e4⟩, e5, e6, e7, e8⟩ := hs; exact ⟨⟨s', e1, e2, cell_kept e3 hg hr, cell_kept e4 hg hr⟩, (frozen_kept e3 hg hr).trans e5, (frozen_kept e4 hg hr).trans e6, cell_kept e7 hg hr, cell_kept e8 hg hr⟩) _) (ownFrom_below (Nat.le_refl _) (by omega))
      case h0 => exact ⟨⟨⟨s0, rfl, HS16.out, by simp [World.cell?, hs4], by simp [World.cell?, hs4]⟩, by simp [World.frozen?, hs4], by simp [World.frozen?, hs4], hk4, by simp [World.cell?, s2]⟩, HBW4.out⟩
      case assign =>
        intro l x W K hK
        gi_wp2
        exact hK
      case body =>
        rintro l pre x W ⟨⟨⟨s, hs, hs16, e0, e1⟩, f0, f1, ek, eb⟩, hB⟩ -
        have hxl : x.1 < wl.length := by have := x.2; simpa using this
        have HFO : Hid ((pre ++ [x]).foldl (fun s i => Tr.afterAll (plainCh (wl[i.1]'(by have := i.2; simpa using this)).2) key.data.toList s) s0 = Tr.afterAll (plainCh (wl[x.1]'hxl).2) key.data.toList s) := by
          show _ = _
          rw [List.foldl_append, hs]; rfl
        have hmem := List.getElem_mem hxl
        try simp only [List.getElem_map]
        generalize wl[x.1]'hxl = y at *
        obtain ⟨g, ml⟩ := y
        obtain ⟨vi2, vp2, vc2, hn2, hoc2, hl8, h16⟩ := HOK.out (g, ml) hmem
        have hnW := nod_of hn2 hB
        have hocW : OwnsC 0 W vc2 ml := row_below hoc2 hB (Nat.le_refl _)
        obtain ⟨n0, n1, n2, -⟩ := hnW.cells
        obtain ⟨ac, cc, rfl⟩ := rowShape hocW
        have HR0 : Hid (RdI w2.heap.size (w2.heap.size + 1) w4.heap.size w2.heap.size w.heap.size w W key (.slice a6 wl.length c6) s W) := ⟨⟨KeepsFrom.refl _ _, ⟨Below.refl _ _, rfl⟩, hB, blk_lt eb, Nat.le_of_lt (blk_lt e0)⟩, hs16, e0, e1, f0, f1, ek, eb⟩
        have HOC := hid hoc2
        have hsw : w.heap.size < w2.heap.size := by omega
        have H16 := hid h16
        clear hn2 hoc2 hnW hocW h16 hs HSTP hmem
        try simp only at n0 n1 n2 hl8
        gi_wp2
        gi_loopw [46] (fun i wr => ∃ j : Nat, j ≤ ml.length ∧ i = .int .i64 (j : Nat) ∧ RdI w2.heap.size (w2.heap.size + 1) w4.heap.size w2.heap.size w.heap.size w W key (.slice a6 wl.length c6) (Tr.afterAll (plainCh (ml.take j)) key.data.toList s) wr) (fun i _ => ml.length - (intOf i).toNat)
        case atStart => exact ⟨0, Nat.zero_le _, rfl, HR0.out⟩
        case round =>
          obtain ⟨j, hj, rfl, hI⟩ := hrel
          have HI2 := hid hI
          obtain ⟨-, ml16, y0, y1, y2, y3, y4, y5⟩ := hI
          by_cases hjl : j < ml.length
          · have ho := row_below HOC.out HI2.out.rd.bel (Nat.le_refl _)
            obtain ⟨g2, cap2, e, hcp, -, hg2, d0, d1, d2⟩ := OwnsC.at ho j hjl
            simp only [Value.slice.injEq] at e
            obtain ⟨rfl, -, rfl⟩ := e
            have HTK := hid (take_one (key := key.data.toList) (s := s) j hjl)
            have h16j := H16.out _ (List.getElem_mem hjl)
            generalize ml[j]'hjl = c at *
            obtain ⟨ck, ckey, cx⟩ := c
            simp only at d0 d1 d2 h16j
            have hb6 : Below wr.heap.size wr (wr.alloc (.cells #[.int .i64 ck, .string ckey, .string cx] 34)) := (Below.refl _ wr).alloc (Nat.le_refl _) _
            have H6 := hid (HI2.out.below hb6)
            have HCB : Hid (ChB (wr.alloc (.cells #[.int .i64 ck, .string ckey, .string cx] 34)) wr.heap.size ck ckey cx) := heap_alloc_new _ _
            obtain ⟨k0, k1, k2⟩ := HCB.out.cells
            obtain ⟨-, -, q0, q1, q2, q3, q4, q5⟩ := H6.out
            generalize hst : Tr.afterAll (plainCh (ml.take j)) key.data.toList s = st at *
            have HST := hid hst
            clear hb6 hst ho
            by_cases hk : ckey.data.toList = key.data.toList
            · have r1 : (ckey.toList == key.toList) = true := by rw [toList_is, toList_is]; simpa using hk
              have HNS : Hid (Tr.afterAll (plainCh (ml.take (j + 1))) key.data.toList s = Tr.after st (chP ck ckey cx)) := by
                show _ = _
                rw [HTK.out]; exact if_pos hk
              have H16S : Hid (((Tr.after st (chP ck ckey cx)).getD []).length ≤ 16) := by
                show _ ≤ _
                have h1 := one_len (k := key.data.toList) (c := chP ck ckey cx) ml16 (by show cx.data.toList.length ≤ 16; rw [len_size]; exact h16j)
                rw [show Tr.one key.data.toList st (chP ck ckey cx) = Tr.after st (chP ck ckey cx) from if_pos hk] at h1
                exact h1
              clear hk
              gi_wp2_with (refine ⟨trivial, ?_⟩; gi_at_call 70; refine (CallsIn.inRound l (callsIn_wide.2 (after_any st ck ckey cx _ (by omega) (by omega)))).mono ?_; rintro e w7 ⟨rfl, hb7⟩; have H7 := hid (H6.out.below hb7); obtain ⟨-, -, p0, p1, p2, p3, p4, p5⟩ := H7.out; clear hb7)
              go_roundw
              case rel => exact ⟨j + 1, by omega, by go_num, by rw [HNS.out]; exact H7.out.put (Nat.le_refl _) (by omega) (by omega) (by omega) H16S.out⟩
              case measure => simp [intOf]; omega
            · have r1 : (ckey.toList == key.toList) = false := by rw [toList_is, toList_is]; simpa using hk
              have HNS : Hid (Tr.afterAll (plainCh (ml.take (j + 1))) key.data.toList s = st) := by
                show _ = _
                rw [HTK.out]; exact if_neg hk
              clear hk
              gi_wp2
              go_roundw
              case rel => exact ⟨j + 1, by omega, by go_num, by rw [HNS.out]; exact H6.out⟩
              case measure => simp [intOf]; omega
          · obtain rfl : j = ml.length := by omega
            gi_wp2
            exact ⟨HI2.out.rd.keeps, HI2.out.rd.bk, ⟨⟨_, by rw [HFO.out, List.take_length], HI2.out.len, HI2.out.c0, HI2.out.c1⟩, HI2.out.f0, HI2.out.f1, HI2.out.ck, HI2.out.cb⟩, HI2.out.rd.bel⟩
      case done =>
        rintro D ys W hD rfl ⟨⟨⟨s, hs, hs16, e0, e1⟩, f0, f1, ek, eb⟩, hB⟩ hK
        have HSV : Hid (s = V key.data.toList) := by
          show _ = _
          rw [hs, HVV.out]
          exact back_fold2 wl _ (List.length_map ..) (fun x s => Tr.afterAll (plainCh x.2) key.data.toList s) s0
        clear hs hs16
        go_upto_region 15 with fail
        go_quiet (fail)
        go_wp2_with fail
        have hK' : (W.drewN nq).heap[D]? = some (.deferred (some [])) := ((below_drewN (Below.refl W.heap.size W) nq).block D (Array.getElem?_eq_some_iff.1 hK).1).trans hK
        refine ⟨by simp, .inl ⟨_, _, rfl, run_takeDeferred hK', ?_⟩⟩
        exact ⟨_, results_tmp2 rfl _ _ _, by rw [← HSV.out]; rfl, (below_drewN hB nq).trans (belowK_b (w := w) (Nat.le_refl _) _ D _ _ (by have := HBW4.out.size; omega) hK' rfl rfl)⟩
      case stop =>
        rintro D c pre W _ _ h _
        exact h.elim
    | h' + 1, (ps, cs), HI =>
      obtain ⟨vp, vc, pl, ml, hn, hop, hpl4, hoc, hok, hix, t2, F2, lo2, hi2, hr2, hw2, ht2, hin2, hro2, hval2⟩ := treeDown HI.out.rep HI.out.wf HI.out.top HI.out.inr
      have hnr := nod_of hn HI.out.bel
      have hopr : OwnsP 0 wr vp pl := row_below hop HI.out.bel (Nat.le_refl _)
      obtain ⟨ap, cp, rfl⟩ := rowShape hopr
      have HLF := hid (tIsLeaf_any p' _ _ _ _ _ wr hnr)
      have HLN : Hid (wl.length + 1 ≤ 10000000000) := by show _ ≤ _; have := HI.out.len; omega
      have HWS : Hid (w.heap.size + 1 ≤ wr.heap.size) := (Array.getElem?_eq_some_iff.1 HI.out.box).1
      have hne : ¬ pl.length = 0 := by omega
      have HRW := hid HI.out.row
      obtain ⟨a6, c6, rfl⟩ := rowShape HRW.out
      go_wp2_with fail
      refine HLF.out.mono ?_
      rintro r wr ⟨rfl, rfl⟩
      rw [show decide (pl.length = 0) = false from decide_eq_false hne]
      go_upto_region 5 with (at_builtin; refine wpApP wr rfl (.tmp 20) (.tmp 22) rfl (w.heap.size + 1) (.slice a6 wl.length c6) wl.length _ rfl HRW.out (.pointer (some ⟨p', 0, none⟩)) rfl rfl HLN.out HWS.out ?_; intro v8 w8 o8 g8)
      have hb8 : Below (w.heap.size + 1) wr w8 := (Below.refl _ wr).grown g8 HWS.out (fun k hk => (World.ownsRow.lt HRW.out k hk).1)
      have hbw8 : Below w.heap.size w w8 := HI.out.bel.trans (hb8.mono (Nat.le_succ _))
      have hbx8 : w8.heap[w.heap.size]? = some (.cells #[.string key] 9 (0, 0)) := (hb8.block _ (Nat.lt_succ_self _)).trans HI.out.box
      have hk8 : w8.cell? ⟨w.heap.size, 0, none⟩ = some (.string key) := by simp [World.cell?, hbx8]
      have hn8 := nod_of hn hbw8
      obtain ⟨n0, n1, n2, -⟩ := hn8.cells
      have hop8 : OwnsP 0 w8 (.slice ap pl.length cp) pl := row_below hop hbw8 (Nat.le_refl _)
      obtain ⟨g, cap, e, hcc, -, hg, x0, x1⟩ := hop8.at _ hix
      simp only [Value.slice.injEq] at e
      obtain ⟨rfl, -, rfl⟩ := e
      have HFI : Hid (∀ W', W'.heap = w8.heap → Calls Tryz.prog 77 #[.pointer (some ⟨p', 0, none⟩), .string key] W' fun r w' => r = .returned (.int .i64 (Tr.ix (pkeys pl) key.data.toList : Nat)) ∧ w' = W') := fun W' hW' => tFind_any p' 0 _ _ _ pl key W' (show NodT W' _ _ _ _ by unfold NodT; rw [hW']; exact hn8) (row_same hop8 fun g _ _ => by rw [hW']) (by omega)
      have HNX : Hid (GeI w h t key v8 (.pointer (some ⟨(pl[Tr.ix (pkeys pl) key.data.toList]'hix).2, 0, none⟩)) (wl ++ [(p', ml)]) h' (pl[Tr.ix (pkeys pl) key.data.toList]'hix).2 t2 F2 lo2 hi2 w8) := by
        refine ⟨rfl, ?_, hr2, hw2, ht2, hin2, hro2, ?_, fun x hx => ?_, ?_, hbw8, hbx8⟩
        · rw [List.length_append, List.map_append]; exact o8
        · rw [HI.out.val, wayV_snoc, hval2]
        · rcases List.mem_append.1 hx with q | q
          · exact HI.out.ok x q
          · rw [List.mem_singleton.1 q]; exact hok
        · have := HI.out.len; rw [List.length_append]; simp; omega
      have HM1 : Hid (hgt h w p' = h' + 1) := hgt_rep (h' + 1) h (by have := HI.out.len; omega) HI.out.rep HI.out.wf HI.out.room
      have HM2 : Hid (hgt h w (pl[Tr.ix (pkeys pl) key.data.toList]'hix).2 = h') := hgt_rep h' h (by have := HI.out.len; omega) hr2 hw2 hro2
      generalize (pl[Tr.ix (pkeys pl) key.data.toList]'hix).2 = q2 at *
      generalize Tr.ix (pkeys pl) key.data.toList = ix at *
      clear hop hop8 hn hnr hopr hn8 hoc hok hval2 hin2 hro2 ht2 hw2 hr2 o8 g8 hb8 hbw8 hbx8 HRW HLF
      go_quiet (exact Calls.quiet_of_same (HFI.out _ rfl))
      go_wp2_with fail
      refine ⟨⟨_, _, _, _, _, _, _, HNX.out.drewN _⟩, ?_⟩
      show hgt h w q2 < hgt h w p'
      rw [HM1.out, HM2.out]; omega
end Go.Proofs.YtolgpnaoaodepaaGreat
/- The walk of silt's Get. -/
namespace Go.Proofs.YtolgpnaoaodepaaGreat
open Go.RowKit Go.MuLone

set_option maxHeartbeats 1000000 in
set_option maxRecDepth 20000 in
theorem sGet_any (V : Tr.Key → Option Tr.Key) (N x b : Nat) (F : List Nat) (key : ByteArray) (w : World) (hs : ST w x b) (ht : TreM V N b F w) (hx : x ∉ b :: F) (hN : N ≤ 90000) :
    Calls Tryz.prog 22 #[.pointer (some ⟨x, 0, none⟩), .string key] w fun r w' => r = .returned (.tuple #[.string (stV (V key.data.toList)), .int .i64 (if stB (V key.data.toList) then 0 else 3)]) ∧ Below w.heap.size w w' := by
  have HS0 := hid hs
  have HM1 := hid (Mod.setCell w x 0 (.int .i32 1))
  have HL1 := hid hs.lock
  have HT1 : Hid (TreM V N b F (w.setCell ⟨x, 0, none⟩ (.int .i32 1))) := ht.keep fun g hg => HM1.out.block g (ht.lt g hg) fun e => hx (by rw [← e]; exact hg)
  obtain ⟨s0, -, sf⟩ := hs.cells
  have sf0 := sf 0
  obtain ⟨l0, l2, -⟩ := HL1.out.cells
  have HSC := hid (tGet_any V N b F key _ HT1.out hN)
  clear hs ht hx sf
  go_enter_defers Tryz.func22, Tryz.ntmps22
  go_wp2_with (go_at_call 34; refine (lock_free muLib ⟨x, 0, none⟩ w s0 sf0).mono ?_; rintro e w' ⟨rfl, rfl⟩)
  refine HSC.out.mono ?_
  rintro r w2 ⟨rfl, hb2⟩
  have HL2 : Hid (SL w2 x b) := (hb2.block x HL1.out.lt).trans HL1.out
  have HE := hid (lock_below HS0.out hb2)
  clear hb2 l0 l2 s0 sf0
  obtain ⟨l0, l2, lf⟩ := HL2.out.cells
  have lf0 := lf 0
  clear lf
  cases hv : V key.data.toList with
  | none =>
    have HV : Hid (stV (none : Option (List UInt8)) = ⟨#[]⟩ ∧ stB (none : Option (List UInt8)) = false) := ⟨rfl, rfl⟩
    rw [HV.out.1, HV.out.2]
    go_wp2_with fail
    all_goals
      refine leaves_cons (f := 35) (args := #[.pointer (some ⟨x, 0, none⟩)]) (by simp) (by simp [go_sem]) ?_
      refine (unlock_deferred muLib ⟨x, 0, none⟩ .returning _ l0 lf0).mono ?_
      rintro e u' w'' ⟨rfl, rfl, rfl⟩
      exact ⟨_, results_tmp2 rfl _ _ _, rfl, HE.out⟩
  | some v =>
    have HV : Hid (stB (some v) = true) := rfl
    rw [HV.out]
    go_wp2_with fail
    all_goals
      refine leaves_cons (f := 35) (args := #[.pointer (some ⟨x, 0, none⟩)]) (by simp) (by simp [go_sem]) ?_
      refine (unlock_deferred muLib ⟨x, 0, none⟩ .returning _ l0 lf0).mono ?_
      rintro e u' w'' ⟨rfl, rfl, rfl⟩
      exact ⟨_, results_tmp2 rfl _ _ _, rfl, HE.out⟩
end Go.Proofs.YtolgpnaoaodepaaGreat
