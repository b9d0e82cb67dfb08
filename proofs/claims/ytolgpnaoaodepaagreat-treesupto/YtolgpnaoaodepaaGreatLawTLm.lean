/- The walks of plays, of the kinds 7 to 10, and of Trees. -/
import Derived.Test.YtolgpnaoaodepaaGreatLawBDm
namespace Go.Proofs.YtolgpnaoaodepaaGreat
open Go.RowKit

theorem lw_new (w : World) : LW w.heap.size 0 1 (fun _ => False) (.slice none 0 0) [] (w.alloc (.cells #[.slice none 0 0, .slice none 0 0, .slice none 0 0, .slice none 0 0, .slice none 0 0, .slice none 0 0, .slice none 0 0, .slice none 0 0, .slice none 0 0, .int .i64 0] 75)) := by
  refine ⟨⟨World.ownsRow_nil _ _ _ _, (fun p hp => by cases hp), (by simp [blk, Value.ownBlock, prB])⟩, ?_, (fun g hg => by simp [blk, Value.ownBlock, prB] at hg), (fun g hg => hg.elim), (by simp)⟩
  exact (bk_new (vl := .slice none 0 0) (heap_alloc_new w (.cells #[.slice none 0 0, .slice none 0 0, .slice none 0 0, .slice none 0 0, .slice none 0 0, .slice none 0 0, .slice none 0 0, .slice none 0 0, .slice none 0 0, .int .i64 0] 75))).below2 (Below.refl _ _) fun g hg => by simp [blk, Value.ownBlock, prB] at hg
set_option maxHeartbeats 2500000 in
set_option maxRecDepth 100000 in
theorem plays710_any (a : Option Addr) (n cap : Nat) (w : World) (hsc : IsScriptT w a n cap) :
    Calls Tryz.prog 10 #[.slice a n cap, .int .i64 7, .int .i64 10] w fun r w' => r = .returned (.bool true) ∧ Below w.heap.size w w' := by
  have hn : n ≤ 65536 := by
    rcases hsc with h | ⟨b, off, _, _, h, _⟩ <;> omega
  have HSC := hid hsc
  clear hsc
  have HB0 := hid ((Below.refl w.heap.size w).alloc (Nat.le_refl _) (.cells #[.slice none 0 0, .slice none 0 0, .slice none 0 0, .slice none 0 0, .slice none 0 0, .slice none 0 0, .slice none 0 0, .slice none 0 0, .slice none 0 0, .int .i64 0] 75))
  have HK0 := hid (lw_new w)
  go_enter Tryz.func10, Tryz.ntmps10
  go_wp2_with fail
  refine (given710_any w.heap.size _ _ HK0.out).mono ?_
  rintro r w1 ⟨rfl, hk1, hb1⟩
  have HK1 := hid hk1
  have HB1 := hid (HB0.out.trans hb1)
  clear hb1 hk1 HK0 HB0
  go_wp2_with fail
  go_loopw [9] (fun i wr => ∃ k : Nat, k ≤ n ∧ i = .int .i64 k ∧ (∃ vl qs, LW w.heap.size (48 + k * 4) (13 + k) (fun _ => False) vl qs wr) ∧ Below w.heap.size w wr) (fun i _ => n - (intOf i).toNat)
  case atStart => exact ⟨0, by omega, rfl, HK1.out, HB1.out⟩
  case round =>
    obtain ⟨i, hi, rfl, ⟨vl, qs, hlw⟩, hbl⟩ := hrel
    by_cases hin : i < n
    · obtain ⟨b, off, rfl, hcap, _, hbw, hops⟩ : ∃ b off, a = some ⟨b, off, none⟩ ∧ n ≤ cap ∧ n ≤ 65536 ∧ b < w.heap.size ∧ ∀ i, i < n → OpT w b (off + i * 13) := by
        rcases HSC.out with h | h
        · omega
        · exact h
      obtain ⟨kk, ix, s, t, c4, c5, c6, c7, c8, ck, key, xv, c12, e0, e1, e2, e3, e4, e5, e6, e7, e8, e9, e10, e11, e12⟩ := (hops i hin).keep (hbl.block b hbw)
      have HLW := hid hlw
      have HBL := hid hbl
      clear hlw hbl hops
      by_cases hkk : 7 ≤ kk ∧ kk ≤ 10
      · have HK := hid (step710_any HLW.out (by omega) (by omega) (by omega) kk hkk ix s t c4 c5 c6 c7 c8 ck key xv c12)
        obtain ⟨hk1, hk2⟩ := hkk
        have hk11 : kk < 11 := by omega
        go_wp2_with fail
        refine HK.out.mono ?_
        intro r w5 hs
        have Q1 : Hid (∃ vl qs, LW w.heap.size (48 + (i + 1) * 4) (13 + (i + 1)) (fun _ => False) vl qs w5) := by
          obtain ⟨a, b, q⟩ := hs.lw
          exact ⟨a, b, q.mono (by omega) (by omega)⟩
        have Q2 := hid (HBL.out.trans hs.bel)
        obtain rfl := hs.ret
        clear hs HK e0 e1 e2 e3 e4 e5 e6 e7 e8 e9 e10 e11 e12
        go_wp2_with fail
        go_roundw
        case rel => exact ⟨i + 1, by omega, by go_num, Q1.out, Q2.out⟩
        case measure => simp [intOf]; omega
      · by_cases hk1 : 7 ≤ kk
        · have hk2 : 10 < kk := by omega
          have hd : decide (kk ≤ 10) = false := by simp; omega
          clear hkk
          go_wp2_with fail
          go_roundw
          case rel => exact ⟨i + 1, by omega, by go_num, ⟨_, _, HLW.out.mono (by omega) (by omega)⟩, HBL.out⟩
          case measure => simp [intOf]; omega
        · have hd : decide (7 ≤ kk) = false := by simp; omega
          clear hkk
          go_wp2_with fail
          go_roundw
          case rel => exact ⟨i + 1, by omega, by go_num, ⟨_, _, HLW.out.mono (by omega) (by omega)⟩, HBL.out⟩
          case measure => simp [intOf]; omega
    · have HLW : Hid (LW w.heap.size 300000 65600 (fun _ => False) vl qs wr) := hlw.mono (by omega) (by omega)
      have HBL := hid hbl
      have hq := hlw.cnt
      have hq2 : qs.length ≤ 65600 := by omega
      clear hlw hbl hq
      go_wp2_with fail
      go_loopw [10] (fun v10 wr => ∃ j : Nat, j ≤ qs.length ∧ v10 = .int .i64 j ∧ LW w.heap.size (300000 + j * 4) 65600 (fun _ => False) vl qs wr ∧ Below w.heap.size w wr) (fun v10 _ => qs.length - (intOf v10).toNat)
      case atStart => exact ⟨0, Nat.zero_le _, rfl, HLW.out, HBL.out⟩
      case round =>
        obtain ⟨j, hj, rfl, hlw, hbl⟩ := hrel
        have HLJ := hid hlw
        have HBJ := hid hbl
        obtain ⟨v0, f0⟩ := hlw.cell
        obtain ⟨a', c', rfl⟩ := rowShape hlw.trs.row
        by_cases hjl : j < qs.length
        · obtain ⟨g, cp, e, hcp, hci⟩ := row_at_ptr hlw.trs j hjl
          simp only [Value.slice.injEq] at e
          obtain ⟨rfl, -, rfl⟩ := e
          have HSC := hid (scanned_any HLJ.out (by omega) (by omega) (qs[j]'hjl) (List.getElem_mem hjl) ⟨#[]⟩ ⟨#[]⟩)
          generalize (qs[j]'hjl).1 = q at *
          have hi1 : (0 : Int) ≤ (j : Int) := by omega
          have hi2 : (j : Int) < (qs.length : Int) := by omega
          clear hlw hbl
          go_wp2_with fail
          refine HSC.out.mono ?_
          intro r w5 hs
          have Q1 := hid hs.lw
          have Q2 := hid (HBJ.out.trans hs.bel)
          obtain rfl := hs.ret
          clear hs HSC v0 f0 hci
          go_wp2_with fail
          go_roundw
          case rel => exact ⟨j + 1, by omega, by go_num, by rw [show 300000 + (j + 1) * 4 = 300000 + j * 4 + 4 by omega]; exact Q1.out, Q2.out⟩
          case measure => simp [intOf]; omega
        · have hje : j = qs.length := by omega
          subst hje
          clear hlw hbl
          go_wp2_with fail
          refine (looks_bk w.heap.size _ _ _ _ HLJ.out.bk (by omega)).mono ?_
          rintro r w5 ⟨rfl, hb5⟩
          have HB5 := hid (HBJ.out.trans (hb5.mono HBJ.out.size))
          clear hb5
          go_wp2_with fail
          go_ret
          exact ⟨rfl, HB5.out⟩

set_option maxHeartbeats 1000000 in
theorem trees_any (a : Option Addr) (n cap : Nat) (w : World) (hsc : IsScriptT w a n cap) :
    Calls Tryz.prog 5 #[.slice a n cap] w fun r w' => r = .returned (.bool true) ∧ Below w.heap.size w w' := by
  have HSC := hid hsc
  clear hsc
  go_enter Tryz.func5, Tryz.ntmps5
  go_wp2_with fail
  refine (plays710_any a n cap _ HSC.out).mono ?_
  rintro r w1 ⟨rfl, hb1⟩
  go_wp2_with fail
  go_ret
  exact ⟨rfl, hb1⟩
end Go.Proofs.YtolgpnaoaodepaaGreat
/- THE STATEMENT: whatever script comes in (of bulk at most 1048576), siltlaw's Trees answers true, and the script reads behind the call as it read before. No condition of ours stands in it. -/
namespace Go.Proofs.YtolgpnaoaodepaaGreat
open Go.ChangeShapes Go.WideShapes Go.ChangeAt Go.RowKit Go.Deep

set_option maxRecDepth 100000 in
theorem treesContract (H : Type) (enc : TypeId × Value → H) (W : World) (base : Nat) (args : Array Value) (ds gs : List (DataW H)) (before : List MemPlace)
    (hval : ∀ (j : Nat) t v, Tryz.f5.params[j]? = some t → args[j]? = some v → Value.okWide Tryz.prog W .any base t v)
    (hW : DataW.Whole enc Tryz.prog Tryz.f5.params.toList Rows.treesSpec.vars false W args.toList ds gs before) (hk : Rows.uptoSmall H (ds ++ gs) = true) :
    Calls Tryz.prog 5 args W fun e W' => ∃ v, e = .returned v ∧ Rows.treesSpec.post enc Tryz.prog Tryz.f5 false true false false W args v W' := by
  have hW' := hW
  obtain ⟨p, q, hA0, hV, rfl, hfz, hnd⟩ := hW
  have hA : DataW.TrodAll enc Tryz.prog W 0 (fun _ => true) true Tryz.f5.params.toList args.toList ds p := hA0
  rw [Tryz.params5] at hA hval
  obtain ⟨v0, vs0, d0, ds0, p0, q0, hargs, rfl, rfl, h0, r0⟩ := trodAll_cons hA
  obtain ⟨rfl, rfl, rfl⟩ := trodAll_nil r0
  obtain rfl : args = #[v0] := by cases args; simp_all
  obtain ⟨rfl, rfl⟩ := trodVars_none hV
  obtain ⟨a0, len0, cap0, rfl⟩ := okWide_slice Tryz.underlying22 (hval 0 22 v0 rfl rfl)
  have k0 := h0
  have lt0 : ∀ x ∈ p0, x.block < W.heap.size := by obtain ⟨m, hm⟩ := k0; exact DataW.trod_lt m _ _ _ hm
  clear hA0
  simp only [List.append_nil] at hk
  have hbulk : Rows.uptoBulkAll [d0] ≤ 1048576 := of_decide_eq_true hk
  simp only [Rows.uptoBulkAll] at hbulk
  obtain ⟨fuel, hf⟩ := h0
  have hsc : IsScriptT W a0 len0 cap0 := scriptT_of (by simpa [Value.cells] using hf) (by omega)
  refine (trees_any a0 len0 cap0 W hsc).mono fun e W' ⟨he, bel⟩ => ?_
  subst he
  exact ⟨_, rfl, _, _, _, [], _, [], hW', trodAll_mk1 (shut_bool Tryz.underlying4 _), (trodAll_cons_mk (Below.trod laidOut (by kernel_rfl) (of_decide_eq_true (by kernel_rfl)) k0 bel lt0) trodAll_mk0), rfl, bel.frame _, fun h => by cases h⟩

set_option maxRecDepth 100000 in
theorem treesLifted (os : Os) (started : os.Started) (H : Type) (enc : TypeId × Value → H) (F : Stop.Interp) :
    ReturnsInHanded {} Tryz.checked os 5 .any ((Rows.OpenSpec.upto Rows.treesSpec).pre6 enc Tryz.prog Tryz.f5 Rows.treesUptoRow.domain false) (((Rows.OpenSpec.upto Rows.treesSpec).at F).post enc Tryz.prog Tryz.f5 false true false false) := by
  refine returnsInHanded_of_cond (C := Tryz.checked) (s := Rows.OpenSpec.upto Rows.treesSpec) (k := Rows.uptoSmall) rfl own started (by kernel_rfl) Tryz.func5
    (OpenSpec.witness (enc := enc) (C := Tryz.checked) (s := Rows.OpenSpec.upto Rows.treesSpec) (k := Rows.uptoSmall) rfl false ⟨#[], #[.slice none 0 0], []⟩ 8 (by kernel_rfl) (by kernel_rfl) (by kernel_rfl)
      (x := ([.nil], [], [])) (by kernel_rfl) rfl (by kernel_rfl)) ?_
  intro W base args ds gs before hval hW _ hk _
  exact treesContract H enc W base args ds gs before hval hW hk

/-- ████ THE STATEMENT ████ -/
theorem trees_upto : Rows.TreesUptoSaid :=
  OpenClaim.holds_of_cond 5 Tryz.f5 rfl rfl rfl rfl rfl rfl rfl ⟨rfl, rfl, rfl, rfl, rfl⟩ rfl rfl rfl rfl rfl (by kernel_rfl) Tryz.func5 (by kernel_rfl)
    (of_decide_eq_true (by kernel_rfl)) (by unfold Func.isWrapper; first | (rw [if_pos (by decide +kernel)]; kernel_rfl) | (rw [if_neg (by decide +kernel)]; exact ⟨rfl, rfl⟩))
    (fun os started H enc _ F => treesLifted os started H enc F)
#print axioms trees_upto
end Go.Proofs.YtolgpnaoaodepaaGreat
