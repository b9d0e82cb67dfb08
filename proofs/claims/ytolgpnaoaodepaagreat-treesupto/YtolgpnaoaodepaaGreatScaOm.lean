/- The walk of the insertion sort of changes. -/
import Derived.Test.YtolgpnaoaodepaaGreatScaFm
import Derived.Deep.DeepCutAuto
import Derived.Lib.QuietBelow
import Derived.Test.YtolgpnaoaodepaaGreatTreZJm
import Derived.Test.YtolgpnaoaodepaaGreatTreCm
import Derived.Test.YtolgpnaoaodepaaGreatScaMm
import Derived.BigQuiet
namespace Go.Proofs.YtolgpnaoaodepaaGreat
open Go.RowKit

set_option maxHeartbeats 2000000 in
set_option maxRecDepth 4000 in
theorem insSort_any (v : Value) (ml : List (Int × ByteArray × ByteArray)) (w : World) (h : OwnsC 0 w v ml) (hl : ml.length ≤ 1000) :
    Calls Tryz.prog 272 #[v, .int .i64 0, .int .i64 (ml.length : Nat), .func (.func 240) #[] #[]] w fun r w' => r = .returned (.tuple #[]) ∧ ∃ ml', SrM w v ml ml' w' ∧ Tr.Rise (plainCh ml') := by
  have H0 : Hid (SrM w v ml ml w) := ⟨h, Tr.Stb.refl _, Mod.of_below (Below.refl _ w)⟩
  obtain ⟨a, c, rfl⟩ := rowShape h
  clear h
  go_enter Tryz.func272, Tryz.ntmps272
  go_wp2_with fail
  go_loopw [8] (fun vi wr => ∃ i ml', vi = .int .i64 (i : Nat) ∧ 1 ≤ i ∧ i ≤ 1001 ∧ SrM w (.slice a ml.length c) ml ml' wr ∧ Tr.RiseTo (Hp.nth (0, [], []) (plainCh ml')) i) (fun vi _ => 1001 - (intOf vi).toNat)
  case atStart => exact ⟨1, ml, rfl, Nat.le_refl _, by decide, H0.out, fun x y h1 h2 => by omega⟩
  case round =>
    obtain ⟨i, ml1, rfl, hi1, hi2, hS, hR⟩ := hrel
    have hlen := hS.len
    have HS := hid hS
    have HR := hid hR
    clear hS hR
    by_cases hin : i < ml.length
    · have hin' : (i : Int) < (ml.length : Int) := by omega
      obtain ⟨g, cap, e, hcap, -, hg, -, -, -⟩ := HS.out.row.at i (by omega)
      simp only [Value.slice.injEq] at e
      obtain ⟨rfl, -, rfl⟩ := e
      have HI0 : Hid (Tr.InsI (Hp.nth (0, [], []) (plainCh ml1)) i i) := Tr.InsI.start HR.out
      go_wp2_with fail
      go_loopw [9] (fun vj wr => ∃ j ml', vj = .int .i64 (j : Nat) ∧ j ≤ i ∧ SrM w (.slice (some ⟨g, 0, none⟩) ml.length c) ml ml' wr ∧ Tr.InsI (Hp.nth (0, [], []) (plainCh ml')) i j) (fun vj _ => (intOf vj).toNat)
      case atStart => exact ⟨i, ml1, rfl, Nat.le_refl _, HS.out, HI0.out⟩
      case round =>
        obtain ⟨j, ml2, rfl, hji, hS2, hI2⟩ := hrel
        have hlen2 := hS2.len
        have HS2 := hid hS2
        have HI2 := hid hI2
        clear hS2 hI2
        cases j with
        | zero =>
          have HD : Hid (Tr.RiseTo (Hp.nth (0, [], []) (plainCh ml2)) (i + 1)) := HI2.out.done (.inl rfl)
          go_upto_region 4 with fail
          go_quiet (fail)
          have HS3 : Hid (SrM w (.slice (some ⟨g, 0, none⟩) ml.length c) ml ml2 (wr.drewN nq)) := HS2.out.below (below_drewN (Below.refl _ _) _)
          go_wp2_with fail
          exact ⟨⟨i + 1, ml2, by go_num, by omega, by omega, HS3.out, HD.out⟩, by simp [intOf]; omega⟩
        | succ j =>
          have hj1 : j + 1 < ml2.length := by omega
          have hj0 : j < ml2.length := by omega
          obtain ⟨g1, cap1, e, hcap1, -, hg1, d0, d1, d2⟩ := HS2.out.row.at (j + 1) hj1
          simp only [Value.slice.injEq, Option.some.injEq, Addr.mk.injEq, and_true] at e
          obtain ⟨rfl, -, rfl⟩ := e
          obtain ⟨g1, cap1, e, -, -, -, e0, e1, e2⟩ := HS2.out.row.at j hj0
          simp only [Value.slice.injEq, Option.some.injEq, Addr.mk.injEq, and_true] at e
          obtain ⟨rfl, -, rfl⟩ := e
          obtain ⟨c1, hc1⟩ : ∃ c1, ml2[j + 1]'hj1 = c1 := ⟨_, rfl⟩
          obtain ⟨c0, hc0⟩ : ∃ c0, ml2[j]'hj0 = c0 := ⟨_, rfl⟩
          rw [hc1] at d0 d1 d2
          rw [hc0] at e0 e1 e2
          have HC1 := hid hc1
          have HC0 := hid hc0
          have HN1 := hid (plainCh_nth ml2 hj1)
          have HN0 := hid (plainCh_nth ml2 hj0)
          rw [hc1] at HN1
          rw [hc0] at HN0
          clear hc1 hc0
          obtain ⟨k1, y1, x1⟩ := c1
          obtain ⟨k0, y0, x0⟩ := c0
          have HO := hid (fun W => order_any k1 k0 y1 x1 y0 x0 W)
          have xw1 : IntKind.i64.wrap ((j : Int) + 1 - 1) = (j : Int) := by rw [IntKind.wrap_i64]; omega
          have xw2 : IntKind.i64.wrap (((j + 1 : Nat) : Int) - 1) = (j : Int) := by rw [IntKind.wrap_i64]; omega
          have CN : ∀ W, Calls Tryz.prog 240 #[.agg #[.int .i64 k1, .string y1, .string x1], .agg #[.int .i64 k0, .string y0, .string x0]] W fun r w' => r = .returned (.int .i64 (Lib.compareBytes y1.data.toList y0.data.toList)) ∧ Below W.heap.size W w' := fun W => HO.out W
          have xw3 : IntKind.i64.wrap (j : Int) = (j : Int) := by rw [IntKind.wrap_i64]; omega
          have b1 : (j : Int) + 1 < (ml.length : Int) := by omega
          have b2 : (0 : Int) ≤ (j : Int) + 1 := by omega
          have b3 : ((j : Int) + 1).toNat = j + 1 := by omega
          have b4 : j < ml.length := by omega
          have b5 : j + 1 < ml.length := by omega
          have dg0 := fun (d : Nat) (os : Array Obj) => cell_regrown d0 d os
          have dg1 := fun (d : Nat) (os : Array Obj) => cell_regrown d1 d os
          have dg2 := fun (d : Nat) (os : Array Obj) => cell_regrown d2 d os
          have eg0 := fun (d : Nat) (os : Array Obj) => cell_regrown e0 d os
          have eg1 := fun (d : Nat) (os : Array Obj) => cell_regrown e1 d os
          have eg2 := fun (d : Nat) (os : Array Obj) => cell_regrown e2 d os
          have HCM := hid (cmp_neg y1.data.toList y0.data.toList)
          generalize Lib.compareBytes y1.data.toList y0.data.toList = q at *
          go_upto_region 4 with fail
          refine wp_region_quiet_below (by kernel_rfl) (by kernel_rfl) ?_
          repeat (quiet_step (exact Calls.regrown_of (CN _)))
          refine wpQuiet_nil ?_
          intro wx hw'
          obtain ⟨⟨dq, osq⟩, hw''⟩ := hw'
          have HS3 := hid (HS2.out.below (hw'' ▸ below_regrown _ dq osq))
          clear hw''
          clear dg0 dg1 dg2 eg0 eg1 eg2
          by_cases hq : q < 0
          · have hqd : decide (q < 0) = true := decide_eq_true hq
            have hlt := HCM.out.1 hq
            obtain ⟨hS4, hP4⟩ := HS3.out.swap j hj1 hj0 HC0.out HC1.out hlt
            have HI4 : Hid (Tr.InsI (Hp.nth (0, [], []) (plainCh ((ml2.set (j + 1) (k0, y0, x0)).set j (k1, y1, x1)))) i j) := by
              have h1 := HI2.out.step hji (by rw [HN1.out, HN0.out]; exact hlt)
              rw [hP4, show Hp.nth (0, [], []) (Hp.swL (0, [], []) (plainCh ml2) j (j + 1)) = Hp.swp (Hp.nth (0, [], []) (plainCh ml2)) j (j + 1) from funext fun k => Hp.swL_nth _ _ (by rw [plainCh_len]; omega) (by rw [plainCh_len]; omega) k]
              exact h1
            unfold sw6 at hS4
            have HS4 := hid hS4
            obtain ⟨g1, cap1, e, -, -, -, d0', d1', d2'⟩ := HS3.out.row.at (j + 1) hj1
            simp only [Value.slice.injEq, Option.some.injEq, Addr.mk.injEq, and_true] at e
            obtain ⟨rfl, -, -⟩ := e
            obtain ⟨g1, cap1, e, -, -, -, e0', e1', e2'⟩ := HS3.out.row.at j hj0
            simp only [Value.slice.injEq, Option.some.injEq, Addr.mk.injEq, and_true] at e
            obtain ⟨rfl, -, -⟩ := e
            rw [HC1.out] at d0' d1' d2'
            rw [HC0.out] at e0' e1' e2'
            have hfz := HS3.out.row.froz (by omega)
            have hrow5 := OwnsC.set HS3.out.row (j + 1) hj1 (k0, y0, x0)
            have hfz5 := hrow5.froz (by rw [List.length_set]; omega)
            have hl5 : j < (ml2.set (j + 1) (k0, y0, x0)).length := by rw [List.length_set]; exact hj0
            obtain ⟨g1, cap1, e, -, -, -, f0', f1', f2'⟩ := hrow5.at j hl5
            simp only [Value.slice.injEq, Option.some.injEq, Addr.mk.injEq, and_true] at e
            obtain ⟨rfl, -, -⟩ := e
            have f0'' : ∃ u, (((wx.setCell ⟨g, (j + 1) * 3, none⟩ (.int .i64 k0)).setCell ⟨g, (j + 1) * 3 + 1, none⟩ (.string y0)).setCell ⟨g, (j + 1) * 3 + 2, none⟩ (.string x0)).cell? ⟨g, j * 3, none⟩ = some u := ⟨_, f0'⟩
            have f1'' : ∃ u, (((wx.setCell ⟨g, (j + 1) * 3, none⟩ (.int .i64 k0)).setCell ⟨g, (j + 1) * 3 + 1, none⟩ (.string y0)).setCell ⟨g, (j + 1) * 3 + 2, none⟩ (.string x0)).cell? ⟨g, j * 3 + 1, none⟩ = some u := ⟨_, f1'⟩
            have f2'' : ∃ u, (((wx.setCell ⟨g, (j + 1) * 3, none⟩ (.int .i64 k0)).setCell ⟨g, (j + 1) * 3 + 1, none⟩ (.string y0)).setCell ⟨g, (j + 1) * 3 + 2, none⟩ (.string x0)).cell? ⟨g, j * 3 + 2, none⟩ = some u := ⟨_, f2'⟩
            obtain ⟨u0, f0''⟩ := f0''
            obtain ⟨u1, f1''⟩ := f1''
            obtain ⟨u2, f2''⟩ := f2''
            clear hS4 hP4 hrow5 f0' f1' f2' hl5 d0 d1 d2 e0 e1 e2 HS2 HS3
            go_upto_region 6 with fail
            go_region_law (fail)
            all_goals
              go_wp2_with fail
              exact ⟨⟨j, _, rfl, by omega, HS4.out, HI4.out⟩, by simp [intOf]⟩
          · have hqd : decide (q < 0) = false := decide_eq_false hq
            have HD : Hid (Tr.RiseTo (Hp.nth (0, [], []) (plainCh ml2)) (i + 1)) := HI2.out.done (.inr (by
              show ¬ (Hp.nth (0, [], []) (plainCh ml2) (j + 1)).2.1 < (Hp.nth (0, [], []) (plainCh ml2) j).2.1
              rw [HN1.out, HN0.out]; exact fun z => hq (HCM.out.2 z)))
            go_wp2_with fail
            exact ⟨⟨i + 1, ml2, by go_num, by omega, by omega, HS3.out, HD.out⟩, by simp [intOf]; omega⟩
    · have hin' : ¬ ((i : Int) < (ml.length : Int)) := by omega
      have HF : Hid (Tr.Rise (plainCh ml1)) := Tr.RiseTo.rise (d := (0, [], [])) fun x y h1 h2 => HR.out x y h1 (by rw [plainCh_len, hlen] at h2; omega)
      go_wp2_with fail
      go_end0
      exact ⟨rfl, _, HS.out, HF.out⟩
end Go.Proofs.YtolgpnaoaodepaaGreat
/- slices.SortStableFunc of few changes. -/
namespace Go.Proofs.YtolgpnaoaodepaaGreat
open Go.RowKit

set_option maxHeartbeats 400000 in
theorem stable_any (v : Value) (ml : List (Int × ByteArray × ByteArray)) (w : World) (h : OwnsC 0 w v ml) (hl : ml.length ≤ 19) :
    Calls Tryz.prog 264 #[v, .int .i64 (ml.length : Nat), .func (.func 240) #[] #[]] w fun r w' => r = .returned (.tuple #[]) ∧ ∃ ml', SrM w v ml ml' w' ∧ Tr.Rise (plainCh ml') := by
  have HI := hid (insSort_any v ml w h (by omega))
  have c1 : ¬ ((20 : Int) ≤ (ml.length : Int)) := by omega
  have c2 : ¬ ((20 : Int) < (ml.length : Int)) := by omega
  have c3 : ¬ (20 ≤ ml.length) := by omega
  have c4 : ¬ (20 < ml.length) := by omega
  clear h
  go_enter Tryz.func264, Tryz.ntmps264
  go_wp2_with fail
  go_loopw [7, 8] (fun v7 v8 wr => v7 = .int .i64 0 ∧ v8 = .int .i64 20 ∧ wr = w) (fun _ _ _ => 0)
  case atStart => exact ⟨rfl, rfl, rfl⟩
  case round =>
    obtain ⟨rfl, rfl, rfl⟩ := hrel
    go_wp2_with fail
    refine HI.out.mono ?_
    rintro r w1 ⟨rfl, hq⟩
    have HQ := hid hq
    clear hq HI
    go_wp2_with fail
    go_loopw [6] (fun v6 wr => v6 = .int .i64 20 ∧ wr = w1) (fun _ _ => 0)
    case atStart => exact ⟨rfl, rfl⟩
    case round =>
      obtain ⟨rfl, rfl⟩ := hrel
      go_wp2_with fail
      go_end0
      exact ⟨rfl, HQ.out⟩

set_option maxHeartbeats 400000 in
theorem sortStable_any (v : Value) (ml : List (Int × ByteArray × ByteArray)) (w : World) (h : OwnsC 0 w v ml) (hl : ml.length ≤ 19) :
    Calls Tryz.prog 239 #[v, .func (.func 240) #[] #[]] w fun r w' => r = .returned (.tuple #[]) ∧ ∃ ml', SrM w v ml ml' w' ∧ Tr.Rise (plainCh ml') := by
  have HI := hid (stable_any v ml w h hl)
  obtain ⟨a, c, rfl⟩ := rowShape h
  clear h
  go_enter Tryz.func239, Tryz.ntmps239
  go_wp2_with fail
  refine HI.out.mono ?_
  rintro r w1 ⟨rfl, hq⟩
  have HQ := hid hq
  clear hq HI
  go_wp2_with fail
  go_end0
  exact ⟨rfl, HQ.out⟩
end Go.Proofs.YtolgpnaoaodepaaGreat
/- The walk of changesFrom. -/
namespace Go.Proofs.YtolgpnaoaodepaaGreat
open Go.RowKit

theorem row_lift {w : World} {B : Nat} {e : TypeId} {s n : Nat} {v : Value} {xs : List Value} (h : w.ownsRow 0 e s v n xs) (hb : ∀ g, v.ownBlock = some g → B ≤ g) : w.ownsRow B e s v n xs := by
  rcases h.2 with ⟨rfl, hn⟩ | ⟨g, cap, cur, rfl, _, hg, hc, hm, hcs, htk⟩
  · exact ⟨h.1, .inl ⟨rfl, hn⟩⟩
  · exact ⟨h.1, .inr ⟨g, cap, cur, rfl, hb g rfl, hg, hc, hm, hcs, htk⟩⟩
theorem Mod.below {F : Nat → Prop} {w w' : World} {B : Nat} (h : Mod F w w') (hB : B ≤ w.heap.size) (hF : ∀ k, F k → B ≤ k) : Below B w w' := ⟨h.os, h.tape, h.output, h.size, fun k hk => h.block k (by omega) (fun q => by have := hF k q; omega)⟩
theorem cell_blk {w : World} {b : Nat} {cs : Array Value} {T : TypeId} (h : w.heap[b]? = some (.cells cs T (0, 0))) (i : Nat) : w.cell? ⟨b, i, none⟩ = cs[i]? := by unfold World.cell?; simp [h]
def putC (x : ByteArray × ByteArray) : Int × ByteArray × ByteArray := (1, x.1, x.2)
/-- The changes under way. -/
structure CfM (w : World) (fr : ByteArray) (v : Value) (ml : List (Int × ByteArray × ByteArray)) (wr : World) : Prop where
  row : OwnsC 0 wr v ml
  new : ∀ g, v.ownBlock = some g → w.heap.size ≤ g
  box : wr.heap[w.heap.size]? = some (.cells #[.string fr] 9 (0, 0))
  bel : Below w.heap.size w wr
theorem CfM.ne {w : World} {fr : ByteArray} {v : Value} {ml : List (Int × ByteArray × ByteArray)} {wr : World} (h : CfM w fr v ml wr) : v.ownBlock ≠ some w.heap.size := fun e => by
  rcases h.row.2 with ⟨rfl, _⟩ | ⟨g, cap, cur, rfl, hb, hg, _⟩
  · simp [Value.ownBlock] at e
  · have : g = w.heap.size := by simpa [Value.ownBlock] using e
    rw [this, h.box] at hg
    simp at hg
theorem CfM.grown {w : World} {fr : ByteArray} {v v' : Value} {ml ml' : List (Int × ByteArray × ByteArray)} {wr w' : World} (h : CfM w fr v ml wr) (ho : OwnsC 0 w' v' ml') (hm : Mod (fun k => v.ownBlock = some k) wr w') (hv : v'.ownBlock = v.ownBlock ∨ ∃ k, wr.heap.size ≤ k ∧ v'.ownBlock = some k) : CfM w fr v' ml' w' := by
  refine ⟨ho, fun g hg => ?_, ?_, h.bel.trans (hm.below h.bel.size h.new)⟩
  · rcases hv with e | ⟨k, hk, e⟩
    · rw [e] at hg; exact h.new g hg
    · rw [e] at hg; have := Option.some.inj hg; have := h.bel.size; omega
  · have hlt : w.heap.size < wr.heap.size := (Array.getElem?_eq_some_iff.1 h.box).1
    exact (hm.block _ hlt h.ne).trans h.box
theorem CfM.below {w : World} {fr : ByteArray} {v : Value} {ml : List (Int × ByteArray × ByteArray)} {wr w' : World} (h : CfM w fr v ml wr) (hb : Below wr.heap.size wr w') : CfM w fr v ml w' := by
  have hlt : w.heap.size < wr.heap.size := (Array.getElem?_eq_some_iff.1 h.box).1
  exact ⟨row_below h.row hb (Nat.le_refl _), h.new, (hb.block _ hlt).trans h.box, h.bel.trans (hb.mono h.bel.size)⟩

set_option maxHeartbeats 1000000 in
set_option maxRecDepth 4000 in
theorem changesFrom_any (p : Nat) (vi vp vc : Value) (il : List (ByteArray × ByteArray)) (ml : List (Int × ByteArray × ByteArray)) (fr : ByteArray) (w : World) (hn : NodT w p vi vp vc) (hi : OwnsI 0 w vi il) (hc : OwnsC 0 w vc ml) (hl : il.length + ml.length ≤ 19) :
    Calls Tryz.prog 187 #[.pointer (some ⟨p, 0, none⟩), .string fr] w fun r w' => ∃ v ml', r = .returned v ∧ OwnsC w.heap.size w' v ml' ∧ Tr.Scd fr.data.toList (plainCh (il.map putC ++ ml)) (plainCh ml') ∧ Below w.heap.size w w' := by
  obtain ⟨a0, c0, rfl⟩ := rowShape hi
  obtain ⟨a1, c1, rfl⟩ := rowShape hc
  have hb0 : Below w.heap.size w (w.alloc (.cells #[.string fr] 9)) := (Below.refl _ w).alloc (Nat.le_refl _) _
  have H0 : Hid (CfM w fr (.slice none 0 0) [] (w.alloc (.cells #[.string fr] 9))) := ⟨World.ownsRow_nil _ _ _ _, fun g hg => by simp [Value.ownBlock] at hg, heap_alloc_new _ _, hb0⟩
  have HN := hid hn
  have HI := hid hi
  have HC := hid hc
  have hnb : NodT (w.alloc (.cells #[.string fr] 9)) p (.slice a0 il.length c0) vp (.slice a1 ml.length c1) := (hb0.block p hn.lt).trans hn
  obtain ⟨n0, n1, n2, -⟩ := hnb.cells
  clear hn hi hc hb0 hnb
  go_enter Tryz.func187, Tryz.ntmps187
  go_wp2_with fail
  go_loopw [5, 13] (fun v5 vi wr => ∃ j : Nat, vi = .int .i64 (j : Nat) ∧ j ≤ il.length ∧ CfM w fr v5 ((il.take j).map putC) wr) (fun _ vi _ => il.length - (intOf vi).toNat)
  case atStart => exact ⟨0, rfl, Nat.zero_le _, H0.out⟩
  case round =>
    obtain ⟨j, rfl, hj, hM⟩ := hrel
    have HM := hid hM
    have hms := hM.bel.size
    clear hM n0 n1 n2
    by_cases hjl : j < il.length
    · obtain ⟨g, cap, e, hcp, -, hg, d0, d1⟩ := HI.out.at j hjl
      simp only [Value.slice.injEq] at e
      obtain ⟨rfl, -, rfl⟩ := e
      have hs1 := fun o => HM.out.bel.cell (p := ⟨g, o, none⟩) hg
      have d0' := (hs1 _).trans d0
      have d1' := (hs1 _).trans d1
      have HTK : Hid ((il.take (j + 1)).map putC = (il.take j).map putC ++ [putC (il[j]'hjl)]) := by
        show _ = _
        rw [List.take_add_one, List.getElem?_eq_getElem hjl, List.map_append]; rfl
      clear hs1 d0 d1
      generalize il[j]'hjl = it at *
      obtain ⟨ik, ix⟩ := it
      have hb1 : Below wr.heap.size wr (wr.alloc (.cells #[.string ik, .string ix] 51)) := (Below.refl _ wr).alloc (Nat.le_refl _) _
      have HM1 := hid (HM.out.below hb1)
      have hx : (wr.alloc (.cells #[.string ik, .string ix] 51)).heap[wr.heap.size]? = some (.cells #[.string ik, .string ix] 51 (0, 0)) := heap_alloc_new _ _
      have y0 : (wr.alloc (.cells #[.string ik, .string ix] 51)).cell? ⟨wr.heap.size, 0, none⟩ = some (.string ik) := cell_blk hx 0
      have y1 : (wr.alloc (.cells #[.string ik, .string ix] 51)).cell? ⟨wr.heap.size, 1, none⟩ = some (.string ix) := cell_blk hx 1
      have hlm : ((il.take j).map putC).length ≤ 19 := by rw [List.length_map, List.length_take]; omega
      clear hb1 hx
      go_wp2_with (at_builtin; refine wpApG (wr.alloc (.cells #[.string ik, .string ix] 51)) rfl (.tmp 17) (.tmp 23) 77 34 Tryz.underlying77 _ 3 40 info_change rfl (by decide) (by decide) rfl 0 u5 _ _ rfl HM1.out.row [.int .i64 1, .string ik, .string ix] rfl (by intro u hu; simp at hu; rcases hu with rfl | rfl | rfl <;> rfl) (by simp [Act.eval]) (by omega) (Nat.zero_le _) ?_; intro v2 w2 ho2 hg2 hb2)
      have HM2 : Hid (CfM w fr v2 ((il.take (j + 1)).map putC) w2) := by
        refine HM1.out.grown ?_ (Mod.of_grown hg2) hb2
        rw [HTK.out]
        unfold OwnsC
        rw [List.length_append, ccells_one]
        exact ho2
      clear ho2 hg2 hb2 HM1
      go_wp2_with fail
      exact ⟨⟨j + 1, by go_num, by omega, HM2.out⟩, by simp [intOf]; omega⟩
    · have hje : j = il.length := by omega
      subst hje
      rw [List.take_length] at HM
      have hM := HM.out
      obtain ⟨a5, c5, rfl⟩ := rowShape hM.row
      have hn1 : NodT wr p (.slice a0 il.length c0) vp (.slice a1 ml.length c1) := (hM.bel.block p HN.out.lt).trans HN.out
      have hc1 : OwnsC 0 wr (.slice a1 ml.length c1) ml := row_below HC.out hM.bel (Nat.le_refl _)
      obtain ⟨v6, w6, e6, o6, g6, k6⟩ := run_rows wr 77 77 34 Tryz.underlying77 _ 3 40 info_change rfl (by decide) (by decide) (.slice a5 (il.map putC).length c5) (.slice a1 ml.length c1) (il.map putC).length ml.length (ccells (il.map putC)) (ccells ml) hM.row hc1 (one_ccells ml) (by simp; omega)
      have hm6 : CfM w fr v6 (il.map putC ++ ml) w6 := by
        refine hM.grown ?_ (Mod.of_grown g6) (k6.imp id fun q => ⟨_, Nat.le_refl _, q⟩)
        unfold OwnsC
        rw [List.length_append, show ccells (il.map putC ++ ml) = ccells (il.map putC) ++ ccells ml by unfold ccells; simp]
        exact o6
      have HE6 := hid e6
      obtain ⟨n0, n1, n2, -⟩ := hn1.cells
      have hlt6 : w.heap.size < w6.heap.size := (Array.getElem?_eq_some_iff.1 hm6.box).1
      have hbx : w6.cell? ⟨w.heap.size, 0, none⟩ = some (.string fr) := by simp [World.cell?, hm6.box]
      have HDL := hid (deleteFunc_any v6 (il.map putC ++ ml) fr w.heap.size w6 hm6.row (by simp; omega) hbx hlt6 hm6.ne)
      have HAF : Hid (aheadF w.heap.size = .func (.func 238) #[] #[.pointer (some ⟨w.heap.size, 0, none⟩)]) := rfl
      rw [HAF.out] at HDL
      have HM6 := hid hm6
      clear hM hn1 hc1 e6 o6 g6 k6 hm6 hbx hlt6
      rw [List.length_map] at HE6 ⊢
      go_wp2_with (at_builtin; refine Lib.wpList_append_run wr rfl (.tmp 26) (.tmp 30) 77 77 rfl _ _ rfl rfl _ _ HE6.out ?_)
      refine HDL.out.mono ?_
      rintro r w7 ⟨v7, rfl, ho7, hv7, hm7⟩
      have hM7 := HM6.out.grown ho7 hm7 (.inl hv7)
      have hlf : ((il.map putC ++ ml).filter fun c => !aheadB fr c).length ≤ 19 := Nat.le_trans (List.length_filter_le _ _) (by simp; omega)
      have HSS := hid (sortStable_any v7 _ w7 hM7.row hlf)
      have HM7 := hid hM7
      clear ho7 hv7 hm7 hM7 HDL hlf
      go_wp2_with fail
      refine HSS.out.mono ?_
      rintro r w8 ⟨rfl, ml8, hS8, hR8⟩
      have HF : Hid (OwnsC w.heap.size w8 v7 ml8 ∧ Tr.Scd fr.data.toList (plainCh (il.map putC ++ ml)) (plainCh ml8) ∧ Below w.heap.size w w8) := by
        have hM8 := HM7.out.grown hS8.row hS8.mod (.inl rfl)
        refine ⟨row_lift hM8.row hM8.new, Tr.Stb.scd ?_ hR8, hM8.bel⟩
        have := hS8.stb
        rw [show plainCh ((il.map putC ++ ml).filter fun c => !aheadB fr c) = (plainCh (il.map putC ++ ml)).filter fun c => !decide (c.2.1 < fr.data.toList) from plainCh_filter (il.map putC ++ ml) (fun c => !decide (c.2.1 < fr.data.toList))] at this
        exact this
      clear hS8 hR8 HSS HM7
      go_wp2_with fail
      go_ret
      exact ⟨_, _, rfl, HF.out⟩
end Go.Proofs.YtolgpnaoaodepaaGreat
/- A scan's places in memory, and the methods of their list. -/
namespace Go.Proofs.YtolgpnaoaodepaaGreat
open Go.RowKit

/-- A place's block. -/
def PlB (w : World) (b : Nat) (key : ByteArray) (lv : Nat) (un : Option Addr) (ch : Value) : Prop := w.heap[b]? = some (.cells #[.string key, .int .i64 (lv : Nat), .pointer un, ch] 139 (0, 0))
theorem PlB.lt {w : World} {b : Nat} {key : ByteArray} {lv : Nat} {un : Option Addr} {ch : Value} (h : PlB w b key lv un ch) : b < w.heap.size := (Array.getElem?_eq_some_iff.1 h).1
theorem PlB.cells {w : World} {b : Nat} {key : ByteArray} {lv : Nat} {un : Option Addr} {ch : Value} (h : PlB w b key lv un ch) : w.cell? ⟨b, 0, none⟩ = some (.string key) ∧ w.cell? ⟨b, 1, none⟩ = some (.int .i64 (lv : Nat)) ∧ w.cell? ⟨b, 2, none⟩ = some (.pointer un) ∧ w.cell? ⟨b, 3, none⟩ = some ch := by
  unfold PlB at h
  refine ⟨?_, ?_, ?_, ?_⟩ <;> simp [World.cell?, h]
def ptcells (bs : List Nat) : List Value := bs.map fun b => Value.pointer (some ⟨b, 0, none⟩)
def OwnsPt (B : Nat) (w : World) (v : Value) (bs : List Nat) : Prop := w.ownsRow B 137 1 v bs.length (ptcells bs)
theorem ptcells_len (bs : List Nat) : (ptcells bs).length = bs.length := by simp [ptcells]
theorem OwnsPt.at {B : Nat} {w : World} {v : Value} {bs : List Nat} (h : OwnsPt B w v bs) (i : Nat) (hi : i < bs.length) : ∃ g cap, v = .slice (some ⟨g, 0, none⟩) bs.length cap ∧ bs.length ≤ cap ∧ B ≤ g ∧ g < w.heap.size ∧ w.cell? ⟨g, i, none⟩ = some (.pointer (some ⟨bs[i]'hi, 0, none⟩)) ∧ w.frozen? ⟨g, i, none⟩ = false := by
  rcases h.2 with ⟨_, hn⟩ | ⟨g, cap, cur, rfl, hb, hg, hc, hm, hcs, htk⟩
  · omega
  · have c1 := World.ownsRow.cells h (g := g) rfl i _ (by show (ptcells bs)[i]? = _; simp [ptcells, hi]; rfl)
    rw [add_at] at c1
    exact ⟨g, cap, rfl, hc, hb, (Array.getElem?_eq_some_iff.1 hg).1, by simpa using c1, by simp [World.frozen?, hg]⟩
/-- One place is another. -/
theorem OwnsPt.set {B : Nat} {w : World} {g cap : Nat} {bs : List Nat} (h : OwnsPt B w (.slice (some ⟨g, 0, none⟩) bs.length cap) bs) (i : Nat) (hi : i < bs.length) (q : Nat) : OwnsPt B (w.setCell ⟨g, i, none⟩ (.pointer (some ⟨q, 0, none⟩))) (.slice (some ⟨g, 0, none⟩) bs.length cap) (bs.set i q) := by
  rcases h.2 with ⟨_, hn⟩ | ⟨g', cap', cur, e, hb, hg, hc, hm, hcs, htk⟩
  · omega
  · simp only [Value.slice.injEq, Option.some.injEq, Addr.mk.injEq, and_true, true_and] at e
    obtain ⟨rfl, rfl⟩ := e
    unfold OwnsPt
    rw [List.length_set]
    refine ⟨by rw [ptcells_len, List.length_set, Nat.mul_one], .inr ⟨g, cap, cur.setIfInBounds i (.pointer (some ⟨q, 0, none⟩)), rfl, hb, ?_, hc, hm, by simpa using hcs, ?_⟩⟩
    · rw [heap_setCell_at (i := i) hg]
    · rw [Array.toList_setIfInBounds, List.take_set, htk]
      simp [ptcells]

set_option maxHeartbeats 400000 in
theorem pLen_any (a : Option Addr) (n c : Nat) (w : World) :
    Calls Tryz.prog 292 #[.slice a n c] w fun r w' => r = .returned (.int .i64 (n : Nat)) ∧ w' = w := by
  go_enter Tryz.func292, Tryz.ntmps292
  go_wp2_with fail
  go_ret
  exact ⟨rfl, rfl⟩
def lessB (k1 : ByteArray) (l1 : Nat) (k2 : ByteArray) (l2 : Nat) : Bool := if k1.data.toList = k2.data.toList then decide (l2 < l1) else decide (k1.data.toList < k2.data.toList)

set_option maxHeartbeats 400000 in
theorem pLess_any (v : Value) (bs : List Nat) (i j : Nat) (w : World) (h : OwnsPt 0 w v bs) (hi : i < bs.length) (hj : j < bs.length) (k1 k2 : ByteArray) (l1 l2 : Nat) (u1 u2 : Option Addr) (c1 c2 : Value) (h1 : PlB w (bs[i]'hi) k1 l1 u1 c1) (h2 : PlB w (bs[j]'hj) k2 l2 u2 c2) :
    Calls Tryz.prog 293 #[v, .int .i64 (i : Nat), .int .i64 (j : Nat)] w fun r w' => r = .returned (.bool (lessB k1 l1 k2 l2)) ∧ Below w.heap.size w w' := by
  obtain ⟨g, cap, rfl, hc, -, hg, x1, -⟩ := h.at i hi
  obtain ⟨g', cap', e, -, -, -, y1, -⟩ := h.at j hj
  simp only [Value.slice.injEq, Option.some.injEq, Addr.mk.injEq, and_true, true_and] at e
  obtain ⟨rfl, rfl⟩ := e
  obtain ⟨a0, a1, -, -⟩ := h1.cells
  obtain ⟨b0, b1, -, -⟩ := h2.cells
  clear h h1 h2
  generalize bs[i]'hi = bi at *
  generalize bs[j]'hj = bj at *
  generalize bs.length = n at *
  unfold lessB
  by_cases q : k1.data.toList = k2.data.toList
  · rw [if_pos q]
    have e : k1 = k2 := by cases k1; cases k2; simpa [Array.toList_inj] using q
    subst e
    go_enter Tryz.func293, Tryz.ntmps293
    go_upto_region 1 with fail
    go_quiet (fail)
    go_upto_region 2 with fail
    go_quiet (fail)
    go_upto_region 4 with fail
    go_quiet (fail)
    go_wp2_with fail
    go_ret
    exact ⟨by simp, below_drewN (Below.refl _ _) _⟩
  · rw [if_neg q]
    have e : ¬ k1 = k2 := fun z => q (by rw [z])
    have e2 : (k1.toList == k2.toList) = false := by rw [toList_is, toList_is]; simpa using q
    go_enter Tryz.func293, Tryz.ntmps293
    go_upto_region 1 with fail
    go_quiet (fail)
    go_upto_region 2 with fail
    go_quiet (fail)
    go_upto_region 3 with fail
    go_quiet (fail)
    go_wp2_with fail
    go_ret
    refine ⟨?_, below_drewN (below_drewN (below_drewN (Below.refl _ _) _) _) _⟩
    show Ending.returned (.bool (Op.bytesLess k1.toList k2.toList)) = _
    rw [toList_is, toList_is, less_is]

set_option maxHeartbeats 400000 in
theorem pSwap_any (v : Value) (bs : List Nat) (i j : Nat) (w : World) (h : OwnsPt 0 w v bs) (hi : i < bs.length) (hj : j < bs.length) :
    Calls Tryz.prog 294 #[v, .int .i64 (i : Nat), .int .i64 (j : Nat)] w fun r w' => r = .returned (.tuple #[]) ∧ OwnsPt 0 w' v (Hp.swL 0 bs i j) ∧ w.grownBy w' v.ownBlock ∧ w'.heap.size = w.heap.size := by
  obtain ⟨g, cap, rfl, hc, -, hg, x1, x2⟩ := h.at i hi
  obtain ⟨g', cap', e, -, -, -, y1, y2⟩ := h.at j hj
  simp only [Value.slice.injEq, Option.some.injEq, Addr.mk.injEq, and_true, true_and] at e
  obtain ⟨rfl, rfl⟩ := e
  have h1 : OwnsPt 0 (w.setCell ⟨g, i, none⟩ (.pointer (some ⟨bs[j]'hj, 0, none⟩))) (.slice (some ⟨g, 0, none⟩) bs.length cap) (bs.set i (bs[j]'hj)) := OwnsPt.set h i hi _
  have hl1 : (bs.set i (bs[j]'hj)).length = bs.length := by simp
  have h2 : OwnsPt 0 ((w.setCell ⟨g, i, none⟩ (.pointer (some ⟨bs[j]'hj, 0, none⟩))).setCell ⟨g, j, none⟩ (.pointer (some ⟨bs[i]'hi, 0, none⟩))).drew (.slice (some ⟨g, 0, none⟩) bs.length cap) (Hp.swL 0 bs i j) := by
    unfold Hp.swL
    rw [Hp.nth_get 0 bs hi, Hp.nth_get 0 bs hj]
    have := h1
    rw [← hl1] at this ⊢
    exact OwnsPt.set this j (by rw [hl1]; exact hj) _
  obtain ⟨g2, cap2, e2, -, -, -, z1, z2⟩ := h1.at j (by rw [hl1]; exact hj)
  rw [hl1] at e2
  simp only [Value.slice.injEq, Option.some.injEq, Addr.mk.injEq, and_true, true_and] at e2
  obtain ⟨rfl, rfl⟩ := e2
  have HG : Hid (w.grownBy ((w.setCell ⟨g, i, none⟩ (.pointer (some ⟨bs[j]'hj, 0, none⟩))).setCell ⟨g, j, none⟩ (.pointer (some ⟨bs[i]'hi, 0, none⟩))).drew (some g)) := by
    have b1 := but_set g i w (.pointer (some ⟨bs[j]'hj, 0, none⟩))
    have b2 := but_set g j (w.setCell ⟨g, i, none⟩ (.pointer (some ⟨bs[j]'hj, 0, none⟩))) (.pointer (some ⟨bs[i]'hi, 0, none⟩))
    exact ⟨b2.os.trans b1.os, b2.tape.trans b1.tape, b2.output.trans b1.output, Nat.le_trans b1.size b2.size, fun k hk hne => (b2.block k (Nat.lt_of_lt_of_le hk b1.size) hne).trans (b1.block k hk hne)⟩
  have HS : Hid ((((w.setCell ⟨g, i, none⟩ (.pointer (some ⟨bs[j]'hj, 0, none⟩))).setCell ⟨g, j, none⟩ (.pointer (some ⟨bs[i]'hi, 0, none⟩))).drew).heap.size = w.heap.size) := by
    show _ = _
    simp
  have H2 := hid h2
  have z1' : ∃ u, (w.setCell ⟨g, i, none⟩ (.pointer (some ⟨bs[j]'hj, 0, none⟩))).cell? ⟨g, j, none⟩ = some (.pointer u) := ⟨_, z1⟩
  obtain ⟨u, z1'⟩ := z1'
  clear h h1 h2 z1 hl1
  generalize bs[i]'hi = bi at *
  generalize bs[j]'hj = bj at *
  go_enter Tryz.func294, Tryz.ntmps294
  go_upto_region 0 with fail
  go_region_law (fail)
  all_goals
    go_wp2_with fail
    go_end0
    exact ⟨rfl, H2.out, HG.out, HS.out⟩
end Go.Proofs.YtolgpnaoaodepaaGreat
