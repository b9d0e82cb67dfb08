/- The walk of Well, of what is no leaf. -/
import Derived.Test.YtolgpnaoaodepaaGreatRefIm
namespace Go.Proofs.YtolgpnaoaodepaaGreat
open Go.RowKit
set_option maxHeartbeats 1000000 in
set_option maxRecDepth 100000 in
theorem wellOther_any (kd : Int) (hkd : kd ≠ 1) (a1 : Option Addr) (n1 p1 : Nat) (vc vp vm : Value) (cl : List Int) (pl : List ByteArray) (ml : List (Int × ByteArray × ByteArray)) (w : World)
    (hc : IsRow w vc cl.length (cl.map (.int .i64))) (hp : IsRow w vp pl.length (pl.map .string)) (hm : IsChs w vm ml) :
    Calls Tryz.prog 151 #[.agg #[.int .i64 kd, .slice a1 n1 p1, vc, vp, vm]] w fun r w' => r = .returned (.bool (Pg.okPivots (lists pl) none && cl.all Pg.okChild && (plainCh ml).all Pg.okChange && decide (kd = 2) && decide (n1 = 0) && decide (1 ≤ cl.length) && decide (cl.length ≤ 4) && decide (pl.length + 1 = cl.length) && decide (ml.length ≤ 8))) ∧ Below w.heap.size w w' := by
  obtain ⟨a2, p2, rfl, hl2, hc⟩ := hc
  obtain ⟨a3, p3, rfl, hl3, hp⟩ := hp
  obtain ⟨a4, p4, rfl, hl4, hm⟩ := hm
  have HC := hid hc
  have HP := hid hp
  have HM := hid hm
  clear hc hp hm
  have hk1 : (kd == 1) = false := by simpa using hkd
  have HB0 := hid ((Below.refl w.heap.size w).alloc (Nat.le_refl _) (.cells #[.int .i64 kd, .slice a1 n1 p1, .slice a2 cl.length p2, .slice a3 pl.length p3, .slice a4 ml.length p4] 79))
  have HV0 : Hid ((w.alloc (.cells #[.int .i64 kd, .slice a1 n1 p1, .slice a2 cl.length p2, .slice a3 pl.length p3, .slice a4 ml.length p4] 79)).heap[w.heap.size]? = some (.cells #[.int .i64 kd, .slice a1 n1 p1, .slice a2 cl.length p2, .slice a3 pl.length p3, .slice a4 ml.length p4] 79 (0, 0))) := heap_alloc_new _ _
  go_enter Tryz.func151, Tryz.ntmps151
  go_wp2_with fail
  go_loopw [5] (fun i wr => ∃ k : Nat, k ≤ pl.length ∧ i = .int .i64 k ∧ Pg.okPivots (lists (pl.drop k)) (prevOf (lists pl) k) = Pg.okPivots (lists pl) none ∧ wr.heap[w.heap.size]? = some (.cells #[.int .i64 kd, .slice a1 n1 p1, .slice a2 cl.length p2, .slice a3 pl.length p3, .slice a4 ml.length p4] 79 (0, 0)) ∧ Below w.heap.size w wr) (fun i _ => pl.length - (intOf i).toNat)
  case atStart => exact ⟨0, Nat.zero_le _, rfl, rfl, HV0.out, HB0.out⟩
  case round =>
    obtain ⟨k, hk, rfl, heq, hnode, hbel⟩ := hrel
    have HEQ := hid heq
    have HND := hid hnode
    have HBE := hid hbel
    have hszr := hbel.size
    obtain ⟨d0, d1, d2, d3, d4⟩ := node_cells hnode
    clear heq hbel hnode
    by_cases hkl : k < pl.length
    · obtain ⟨b, off, ha3, hbw, hcell⟩ := HP.out.resolve_left (by omega)
      subst ha3
      have HCL := hid hcell
      clear hcell
      have c0 := rowAt HCL.out HBE.out hbw k hkl
      generalize hx : pl[k]'hkl = kb at *
      have HNX : Hid (lists (pl.drop k) = kb.data.toList :: lists (pl.drop (k + 1))) := by
        show _ = _; rw [List.drop_eq_getElem_cons hkl, hx]; rfl
      have HPK : Hid (prevOf (lists pl) (k + 1) = some kb.data.toList) := by
        show _ = _; unfold prevOf lists; rw [if_neg (by omega), Nat.add_sub_cancel, List.getElem?_map, List.getElem?_eq_getElem hkl, hx]; rfl
      clear hx
      rw [HNX.out, Pg.okPivots, len_size] at HEQ
      have hi1 : (0 : Int) ≤ (k : Int) := by omega
      have hi2 : (k : Int) < (pl.length : Int) := by omega
      go_wp2_with fail
      refine (key_any kb _).mono ?_
      rintro r w1 ⟨rfl, rfl⟩
      generalize hkk : Pg.isKey kb.size = kk at *
      cases kk
      · have HF : Hid (Pg.okPivots (lists pl) none = false) := by
          show _ = _; rw [← HEQ.out]; rfl
        go_wp2_with fail
        go_quiet (fail)
        go_wp2_with fail
        go_ret
        exact ⟨by rw [HF.out]; rfl, below_drewN HBE.out _⟩
      · by_cases hk0 : k = 0
        · have HG : Hid (Pg.okPivots (lists (pl.drop (k + 1))) (prevOf (lists pl) (k + 1)) = Pg.okPivots (lists pl) none) := by
            show _ = _; rw [← HEQ.out, HPK.out, hk0]; rfl
          have hd2 : decide (0 < k) = false := by simp; omega
          clear hk0
          go_wp2_with fail
          go_quiet (fail)
          go_wp2_with fail
          go_roundw
          case rel => exact ⟨k + 1, by omega, by go_num, HG.out, HND.out, below_drewN HBE.out _⟩
          case measure => simp [intOf]; omega
        · have hd2 : decide (0 < k) = true := by simp; omega
          have hkp : k - 1 < pl.length := by omega
          have e0 := rowAt HCL.out HBE.out hbw (k - 1) hkp
          have HPP : Hid (prevOf (lists pl) k = some (pl[k - 1]'hkp).data.toList) := by
            show _ = _; unfold prevOf lists; rw [if_neg hk0, List.getElem?_map, List.getElem?_eq_getElem hkp]; rfl
          generalize pl[k - 1]'hkp = yb at *
          have hw1 : IntKind.i64.wrap ((k : Int) - 1) = ((k - 1 : Nat) : Int) := by rw [IntWalk.i64_in _ ⟨by omega, by omega⟩]; omega
          have hi3 : ((k - 1 : Nat) : Int) < (pl.length : Int) := by omega
          have HKP : Hid (k - 1 < pl.length) := hkp
          generalize hjp : k - 1 = jp at *
          clear hjp hkp
          by_cases hlt : yb.data.toList < kb.data.toList
          · have HG : Hid (Pg.okPivots (lists (pl.drop (k + 1))) (prevOf (lists pl) (k + 1)) = Pg.okPivots (lists pl) none) := by
              show _ = _; rw [← HEQ.out, HPK.out, HPP.out]; simp [Pg.rises, hlt]
            have hcmp : Op.bytesLess yb.toList kb.toList = true := by rw [toList_is, toList_is, less_is]; exact decide_eq_true hlt
            clear hlt
            go_wp2_with fail
            go_quiet (fail)
            go_wp2_with fail
            go_roundw
            case rel => exact ⟨k + 1, by omega, by go_num, HG.out, HND.out, below_drewN HBE.out _⟩
            case measure => simp [intOf]; omega
          · have HF : Hid (Pg.okPivots (lists pl) none = false) := by
              show _ = _; rw [← HEQ.out, HPP.out]; simp [Pg.rises, hlt]
            have hcmp : Op.bytesLess yb.toList kb.toList = false := by rw [toList_is, toList_is, less_is]; exact decide_eq_false hlt
            clear hlt
            go_wp2_with fail
            go_quiet (fail)
            go_wp2_with fail
            go_ret
            exact ⟨by rw [HF.out]; rfl, below_drewN HBE.out _⟩
    · have HPT : Hid (Pg.okPivots (lists pl) none = true) := by
        show _ = _; rw [← HEQ.out, List.drop_eq_nil_of_le (by omega)]; rfl
      clear HEQ
      go_wp2_with fail
      go_loopw [7] (fun i wr => ∃ k : Nat, k ≤ cl.length ∧ i = .int .i64 k ∧ (cl.drop k).all Pg.okChild = cl.all Pg.okChild ∧ wr.heap[w.heap.size]? = some (.cells #[.int .i64 kd, .slice a1 n1 p1, .slice a2 cl.length p2, .slice a3 pl.length p3, .slice a4 ml.length p4] 79 (0, 0)) ∧ Below w.heap.size w wr) (fun i _ => cl.length - (intOf i).toNat)
      case atStart => exact ⟨0, Nat.zero_le _, rfl, rfl, HND.out, HBE.out⟩
      case round =>
        clear HND HBE hszr d0 d1 d2 d3 d4 hk hkl
        obtain ⟨k, hk, rfl, heq, hnode, hbel⟩ := hrel
        have HEQ := hid heq
        have HND := hid hnode
        have HBE := hid hbel
        have hszr := hbel.size
        obtain ⟨d0, d1, d2, d3, d4⟩ := node_cells hnode
        clear heq hbel hnode
        by_cases hkl : k < cl.length
        · obtain ⟨b, off, ha3, hbw, hcell⟩ := HC.out.resolve_left (by omega)
          subst ha3
          have c0 := rowAtI hcell HBE.out hbw k hkl
          clear hcell
          rw [List.drop_eq_getElem_cons hkl, List.all_cons] at HEQ
          generalize cl[k]'hkl = ci at *
          have hi1 : (0 : Int) ≤ (k : Int) := by omega
          have hi2 : (k : Int) < (cl.length : Int) := by omega
          by_cases hc0 : ci < 0
          · have HF : Hid (cl.all Pg.okChild = false) := by
              show _ = _; rw [← HEQ.out]; unfold Pg.okChild; rw [decide_eq_false (by omega)]; rfl
            go_wp2_with fail
            go_ret
            exact ⟨by rw [HF.out]; simp, HBE.out⟩
          · by_cases hc1 : 2147483647 < ci
            · have HF : Hid (cl.all Pg.okChild = false) := by
                show _ = _; rw [← HEQ.out]; unfold Pg.okChild; rw [decide_eq_false (by omega : ¬ ci ≤ 2147483647), Bool.and_false]; rfl
              go_wp2_with fail
              go_ret
              exact ⟨by rw [HF.out]; simp, HBE.out⟩
            · have HG : Hid ((cl.drop (k + 1)).all Pg.okChild = cl.all Pg.okChild) := by
                show _ = _; rw [← HEQ.out]; unfold Pg.okChild; rw [decide_eq_true (by omega : 0 ≤ ci), decide_eq_true (by omega : ci ≤ 2147483647)]; rfl
              go_wp2_with fail
              go_roundw
              case rel => exact ⟨k + 1, by omega, by go_num, HG.out, HND.out, HBE.out⟩
              case measure => simp [intOf]; omega
        · have HCT : Hid (cl.all Pg.okChild = true) := by
            show _ = _; rw [← HEQ.out, List.drop_eq_nil_of_le (by omega)]; rfl
          clear HEQ
          go_wp2_with fail
          go_loopw [8] (fun i wr => ∃ k : Nat, k ≤ ml.length ∧ i = .int .i64 k ∧ (plainCh (ml.drop k)).all Pg.okChange = (plainCh ml).all Pg.okChange ∧ wr.heap[w.heap.size]? = some (.cells #[.int .i64 kd, .slice a1 n1 p1, .slice a2 cl.length p2, .slice a3 pl.length p3, .slice a4 ml.length p4] 79 (0, 0)) ∧ Below w.heap.size w wr) (fun i _ => ml.length - (intOf i).toNat)
          case atStart => exact ⟨0, Nat.zero_le _, rfl, rfl, HND.out, HBE.out⟩
          case round =>
            clear HND HBE hszr d0 d1 d2 d3 d4 hk hkl
            obtain ⟨k, hk, rfl, heq, hnode, hbel⟩ := hrel
            have HEQ := hid heq
            have HND := hid hnode
            have HBE := hid hbel
            have hszr := hbel.size
            obtain ⟨d0, d1, d2, d3, d4⟩ := node_cells hnode
            clear heq hbel hnode
            by_cases hkl : k < ml.length
            · obtain ⟨b, off, ha3, hbw, hcell⟩ := HM.out.resolve_left (by omega)
              subst ha3
              obtain ⟨c0, c1, c2⟩ := hcell.below HBE.out hbw k hkl
              clear hcell
              generalize hx : ml[k]'hkl = x at *
              obtain ⟨ck, kb, vb⟩ := x
              simp only at c0 c1 c2
              have HNX : Hid (plainCh (ml.drop k) = (ck, kb.data.toList, vb.data.toList) :: plainCh (ml.drop (k + 1))) := by
                show _ = _; rw [List.drop_eq_getElem_cons hkl, hx]; rfl
              clear hx
              rw [HNX.out, List.all_cons, Pg.okChange, len_size, len_size] at HEQ
              have hi1 : (0 : Int) ≤ (k : Int) := by omega
              have hi2 : (k : Int) < (ml.length : Int) := by omega
              go_wp2_with fail
              refine (change_any ck kb vb _).mono ?_
              rintro r w1 ⟨rfl, hb1⟩
              have HB1 := hid (HBE.out.trans (hb1.mono hszr))
              have HN1 := hid ((hb1.block _ (Array.getElem?_eq_some_iff.1 HND.out).1).trans HND.out)
              clear hb1
              generalize hkk : Pg.isChange ck kb.size vb.size = kk at *
              cases kk
              · have HF : Hid ((plainCh ml).all Pg.okChange = false) := by
                  show _ = _; rw [← HEQ.out]; rfl
                go_wp2_with fail
                go_ret
                exact ⟨by rw [HF.out]; simp, HB1.out⟩
              · have HG : Hid ((plainCh (ml.drop (k + 1))).all Pg.okChange = (plainCh ml).all Pg.okChange) := by
                  show _ = _; rw [← HEQ.out]; rfl
                go_wp2_with fail
                go_roundw
                case rel => exact ⟨k + 1, by omega, by go_num, HG.out, HN1.out, HB1.out⟩
                case measure => simp [intOf]; omega
            · have HMT : Hid ((plainCh ml).all Pg.okChange = true) := by
                show _ = _; rw [← HEQ.out, List.drop_eq_nil_of_le (by omega)]; rfl
              clear HEQ
              go_wp2_with fail
              all_goals
                go_ret
                refine ⟨?_, HBE.out⟩
                simp [HPT.out, HCT.out, HMT.out]
                first
                  | done
                  | omega
                  | (rw [decide_eq_true (by omega : kd = 2), decide_eq_true (by omega : n1 = 0), decide_eq_true (by omega : 1 ≤ cl.length), decide_eq_true (by omega : cl.length ≤ 4), decide_eq_true (by omega : pl.length + 1 = cl.length)]
                     simp only [Bool.true_and]
                     exact decide_eq_decide.2 (by omega))
end Go.Proofs.YtolgpnaoaodepaaGreat
/- The walk of changes, written. -/
namespace Go.Proofs.YtolgpnaoaodepaaGreat
open Go.RowKit
set_option maxHeartbeats 1000000 in
set_option maxRecDepth 100000 in
theorem changesW_any (v : Value) (ml : List (Int × ByteArray × ByteArray)) (w : World) (hv : IsChs w v ml) (hml : ml.length ≤ 100000) (hsz : ∀ x ∈ ml, (0 ≤ x.1 ∧ x.1 ≤ 1000) ∧ x.2.1.size ≤ 10000 ∧ x.2.2.size ≤ 10000) :
    Calls Tryz.prog 87 #[v] w fun r w' => r = .returned (.string ⟨(Pg.changes (plainCh ml)).toArray⟩) ∧ Below w.heap.size w w' := by
  obtain ⟨a4, p4, rfl, hl4, hm⟩ := hv
  have HM := hid hm
  have HSZ := hid hsz
  clear hm hsz
  go_enter Tryz.func87, Tryz.ntmps87
  go_wp2_with fail
  refine (low_any ml.length 1 _ (by omega) (by omega)).mono ?_
  rintro r w1 ⟨rfl, hb1⟩
  have HB1 := hid hb1
  have hl1 := Pg.low_len 1 ml.length
  have HST : Hid (Pg.low ml.length 1 ++ (plainCh ml).flatMap Pg.change1 = Pg.changes (plainCh ml)) := by
    show _ = _; unfold Pg.changes plainCh; rw [List.length_map]
  clear hb1
  generalize Pg.low ml.length 1 = lw at *
  go_wp2_with fail
  go_loopw [3, 4] (fun s i wr => ∃ (k : Nat) (sb : ByteArray), k ≤ ml.length ∧ i = .int .i64 k ∧ s = .string sb ∧ sb.size ≤ 1 + k * 30000 ∧ sb.data.toList ++ (plainCh (ml.drop k)).flatMap Pg.change1 = Pg.changes (plainCh ml) ∧ Below w.heap.size w wr) (fun _ i _ => ml.length - (intOf i).toNat)
  case atStart => exact ⟨0, ⟨lw.toArray⟩, Nat.zero_le _, rfl, rfl, by rw [size_mk]; omega, by simpa using HST.out, HB1.out⟩
  case round =>
    obtain ⟨k, sb, hk, rfl, rfl, hsb, heq, hbel⟩ := hrel
    have HEQ := hid heq
    have HBE := hid hbel
    have hszr := hbel.size
    clear heq hbel
    by_cases hkl : k < ml.length
    · obtain ⟨b, off, ha4, hbw, hcell⟩ := HM.out.resolve_left (by omega)
      subst ha4
      obtain ⟨c0, c1, c2⟩ := hcell.below HBE.out hbw k hkl
      clear hcell
      have hs2 := HSZ.out _ (List.getElem_mem hkl)
      generalize hx : ml[k]'hkl = x at *
      obtain ⟨ck, kb, vb⟩ := x
      simp only at c0 c1 c2 hs2
      have HNX : Hid (plainCh (ml.drop k) = (ck, kb.data.toList, vb.data.toList) :: plainCh (ml.drop (k + 1))) := by
        show _ = _; rw [List.drop_eq_getElem_cons hkl, hx]; rfl
      clear hx
      obtain ⟨⟨hc0, hc1⟩, hkb, hvb⟩ := hs2
      obtain ⟨cn, rfl⟩ : ∃ n : Nat, ck = (n : Int) := ⟨ck.toNat, by omega⟩
      rw [HNX.out, List.flatMap_cons, Pg.change1] at HEQ
      simp only [Int.toNat_natCast] at HEQ
      have hi1 : (0 : Int) ≤ (k : Int) := by omega
      have hi2 : (k : Int) < (ml.length : Int) := by omega
      have k0 := cell_regrown c0
      have k1 := cell_regrown c1
      have CL : ∀ W, Calls Tryz.prog 89 #[.int .i64 (cn : Int), .int .i64 1] W fun r w' => r = .returned (.string ⟨(Pg.low cn 1).toArray⟩) ∧ Below W.heap.size W w' := fun W => low_any cn 1 W (by omega) (by omega)
      have CT : ∀ W, Calls Tryz.prog 85 #[.string kb] W fun r w' => r = .returned (.string ⟨(Pg.text kb.data.toList).toArray⟩) ∧ Below W.heap.size W w' := fun W => text_any kb W (by omega)
      have hlc := Pg.low_len 1 cn
      have ht1 := text_len kb.data.toList (by rw [len_size]; omega)
      rw [len_size] at ht1
      have ht2 := text_len vb.data.toList (by rw [len_size]; omega)
      rw [len_size] at ht2
      generalize Pg.low cn 1 = lc at *
      generalize Pg.text kb.data.toList = tk at *
      have z1 := size_mk lc
      have z2 := size_mk tk
      have e1 : ∀ w, (Op.stringOp .add sb ⟨lc.toArray⟩).run Tryz.prog w = .ok (.string (sb ++ ⟨lc.toArray⟩)) w := fun w => run_string_add_sum w _ _ (by omega)
      have e2 : ∀ w, (Op.stringOp .add (sb ++ ⟨lc.toArray⟩) ⟨tk.toArray⟩).run Tryz.prog w = .ok (.string (sb ++ ⟨lc.toArray⟩ ++ ⟨tk.toArray⟩)) w := fun w => run_string_add_sum w _ _ (by rw [ByteArray.size_append']; omega)
      go_wp2_with fail
      refine wp_region_quiet_below (by kernel_rfl) (by kernel_rfl) ?_
      repeat (quiet_step (first | exact Calls.regrown_of (CL _) | exact Calls.regrown_of (CT _)))
      refine wpQuiet_nil ?_
      intro wx hw'
      obtain ⟨⟨dq, osq⟩, hw''⟩ := hw'
      have hbx : Below wr.heap.size wr wx := hw'' ▸ below_regrown _ dq osq
      have HBX := hid (HBE.out.trans (hbx.mono hszr))
      have hszx := HBX.out.size
      have f0 := (hbx.cell (p := ⟨b, off + k * 3, none⟩) (by show b < _; omega)).trans c0
      have f2 := (hbx.cell (p := ⟨b, off + k * 3 + 2, none⟩) (by show b < _; omega)).trans c2
      clear hw'' hbx k0 k1 c0 c1 c2 e1 e2 CL CT
      generalize hsbx : sb ++ (⟨lc.toArray⟩ : ByteArray) ++ ⟨tk.toArray⟩ = sx at *
      have hsx : sx.size = sb.size + lc.length + tk.length := by rw [← hsbx, ByteArray.size_append', ByteArray.size_append']; omega
      have HSX := hid hsbx
      clear hsbx z1 z2
      by_cases hc2 : cn = 2
      · have HG : Hid (sx.data.toList ++ (plainCh (ml.drop (k + 1))).flatMap Pg.change1 = Pg.changes (plainCh ml)) := by
          show _ = _; rw [← HEQ.out, ← HSX.out, if_pos (by omega)]; simp
        have hne : ((cn : Int) == 2) = true := by simp; omega
        go_wp2_with fail
        go_roundw
        case rel => exact ⟨k + 1, sx, by omega, by go_num, rfl, by omega, HG.out, HBX.out⟩
        case measure => simp [intOf]; omega
      · rw [if_neg (by omega)] at HEQ
        have hne : ((cn : Int) == 2) = false := by simp; omega
        have CT : ∀ W, Calls Tryz.prog 85 #[.string vb] W fun r w' => r = .returned (.string ⟨(Pg.text vb.data.toList).toArray⟩) ∧ Below W.heap.size W w' := fun W => text_any vb W (by omega)
        generalize Pg.text vb.data.toList = tv at *
        have z1 := size_mk tv
        have e1 : ∀ w, (Op.stringOp .add sx ⟨tv.toArray⟩).run Tryz.prog w = .ok (.string (sx ++ ⟨tv.toArray⟩)) w := fun w => run_string_add_sum w _ _ (by omega)
        have HG : Hid ((sx ++ ⟨tv.toArray⟩).data.toList ++ (plainCh (ml.drop (k + 1))).flatMap Pg.change1 = Pg.changes (plainCh ml)) := by
          show _ = _; rw [← HEQ.out, ← HSX.out]; simp
        go_wp2_with fail
        refine (CT wx).mono ?_
        rintro r wy ⟨rfl, hby⟩
        have HBY := hid (HBX.out.trans (hby.mono hszx))
        clear hby CT f0 f2
        go_wp2_with fail
        go_roundw
        case rel => exact ⟨k + 1, _, by omega, by go_num, rfl, by rw [ByteArray.size_append']; omega, HG.out, HBY.out⟩
        case measure => simp [intOf]; omega
    · have HF : Hid (sb.data.toList = Pg.changes (plainCh ml)) := by
        show _ = _; rw [← HEQ.out, List.drop_eq_nil_of_le (by omega)]; simp [plainCh]
      go_wp2_with fail
      go_ret
      exact ⟨ret_str (by rw [HF.out]), HBE.out⟩
end Go.Proofs.YtolgpnaoaodepaaGreat
/- The walk of Page, of branches. -/
namespace Go.Proofs.YtolgpnaoaodepaaGreat
open Go.RowKit
set_option maxHeartbeats 1000000 in
set_option maxRecDepth 100000 in
theorem pageBranch_any (c1 : Value) (vc vp vm : Value) (cl : List Nat) (pl : List ByteArray) (ml : List (Int × ByteArray × ByteArray)) (w : World)
    (hc : IsRow w vc cl.length (cl.map fun (c : Nat) => .int .i64 (c : Int))) (hp : IsRow w vp pl.length (pl.map .string)) (hm : IsChs w vm ml)
    (hcl : cl.length ≤ 4) (hcs : ∀ c ∈ cl, c ≤ 2147483647) (hpl : pl.length ≤ 4) (hps : ∀ x ∈ pl, x.size ≤ 12) (hml : ml.length ≤ 8) (hms : ∀ x ∈ ml, (0 ≤ x.1 ∧ x.1 ≤ 1000) ∧ x.2.1.size ≤ 12 ∧ x.2.2.size ≤ 16) :
    Calls Tryz.prog 48 #[.agg #[.int .i64 2, c1, vc, vp, vm]] w fun r w' => r = .returned (.string ⟨(Pg.branch cl (lists pl) (plainCh ml)).toArray⟩) ∧ Below w.heap.size w w' := by
  obtain ⟨a2, p2, rfl, hl2, hc⟩ := hc
  obtain ⟨a3, p3, rfl, hl3, hp⟩ := hp
  obtain ⟨a4, p4, hvm, hl4, hm'⟩ := id hm
  subst hvm
  have HC := hid hc
  have HP := hid hp
  have HM := hid hm
  have HCS := hid hcs
  have HPS := hid hps
  have HMS := hid hms
  clear hc hp hm hm' hcs hps hms
  have HB0 := hid ((Below.refl w.heap.size w).alloc (Nat.le_refl _) (.cells #[.int .i64 2, c1, .slice a2 cl.length p2, .slice a3 pl.length p3, .slice a4 ml.length p4] 79))
  have HV0 : Hid ((w.alloc (.cells #[.int .i64 2, c1, .slice a2 cl.length p2, .slice a3 pl.length p3, .slice a4 ml.length p4] 79)).heap[w.heap.size]? = some (.cells #[.int .i64 2, c1, .slice a2 cl.length p2, .slice a3 pl.length p3, .slice a4 ml.length p4] 79 (0, 0))) := heap_alloc_new _ _
  go_enter Tryz.func48, Tryz.ntmps48
  go_wp2_with fail
  go_loopw [4, 5] (fun s i wr => ∃ (k : Nat) (sb : ByteArray), k ≤ cl.length ∧ i = .int .i64 k ∧ s = .string sb ∧ sb.size ≤ 10 * k ∧ sb.data.toList ++ (cl.drop k).flatMap Pg.num = cl.flatMap Pg.num ∧ wr.heap[w.heap.size]? = some (.cells #[.int .i64 2, c1, .slice a2 cl.length p2, .slice a3 pl.length p3, .slice a4 ml.length p4] 79 (0, 0)) ∧ Below w.heap.size w wr) (fun _ i _ => cl.length - (intOf i).toNat)
  case atStart => exact ⟨0, ⟨#[]⟩, Nat.zero_le _, rfl, rfl, by decide, by simp, HV0.out, HB0.out⟩
  case round =>
    obtain ⟨k, sb, hk, rfl, rfl, hsb, heq, hnode, hbel⟩ := hrel
    have HEQ := hid heq
    have HND := hid hnode
    have HBE := hid hbel
    have hszr := hbel.size
    obtain ⟨d0, d1, d2, d3, d4⟩ := node_cells hnode
    clear heq hbel hnode
    by_cases hkl : k < cl.length
    · obtain ⟨b, off, ha, hbw, hcell⟩ := HC.out.resolve_left (by omega)
      subst ha
      have c0 := rowAtN hcell HBE.out hbw k hkl
      clear hcell
      have hs2 := HCS.out _ (List.getElem_mem hkl)
      rw [List.drop_eq_getElem_cons hkl, List.flatMap_cons] at HEQ
      generalize cl[k]'hkl = cn at *
      have hi1 : (0 : Int) ≤ (k : Int) := by omega
      have hi2 : (k : Int) < (cl.length : Int) := by omega
      go_wp2_with fail
      refine (number_any cn _ (by omega)).mono ?_
      rintro r w1 ⟨rfl, hb1⟩
      have HB1 := hid (HBE.out.trans (hb1.mono hszr))
      have HN1 := hid ((hb1.block _ (Array.getElem?_eq_some_iff.1 HND.out).1).trans HND.out)
      clear hb1
      have hn1 := num_short cn (by omega)
      generalize Pg.num cn = nb at *
      have HG : Hid ((sb ++ ⟨nb.toArray⟩).data.toList ++ (cl.drop (k + 1)).flatMap Pg.num = cl.flatMap Pg.num) := by
        show _ = _; rw [← HEQ.out]; simp
      have z1 := size_mk nb
      go_wp2_with fail
      go_roundw
      case rel => exact ⟨k + 1, _, by omega, by go_num, rfl, by rw [ByteArray.size_append']; omega, HG.out, HN1.out, HB1.out⟩
      case measure => simp [intOf]; omega
    · rw [List.drop_eq_nil_of_le (by omega)] at HEQ
      have HQ1 : Hid (sb.data.toList = cl.flatMap Pg.num) := by show _ = _; rw [← HEQ.out]; simp
      clear HEQ
      go_wp2_with fail
      go_loopw [4, 6] (fun s i wr => ∃ (k : Nat) (sb : ByteArray), k ≤ pl.length ∧ i = .int .i64 k ∧ s = .string sb ∧ sb.size ≤ 40 + 30 * k ∧ sb.data.toList ++ (lists (pl.drop k)).flatMap Pg.text = Pg.pivotsC cl (lists pl) ∧ wr.heap[w.heap.size]? = some (.cells #[.int .i64 2, c1, .slice a2 cl.length p2, .slice a3 pl.length p3, .slice a4 ml.length p4] 79 (0, 0)) ∧ Below w.heap.size w wr) (fun _ i _ => pl.length - (intOf i).toNat)
      case atStart => exact ⟨0, sb, Nat.zero_le _, rfl, rfl, by omega, by rw [HQ1.out]; rfl, HND.out, HBE.out⟩
      case round =>
        clear HQ1 HND HBE hszr d0 d1 d2 d3 d4 hk hkl hsb
        obtain ⟨k, sb, hk, rfl, rfl, hsb, heq, hnode, hbel⟩ := hrel
        have HEQ := hid heq
        have HND := hid hnode
        have HBE := hid hbel
        have hszr := hbel.size
        obtain ⟨d0, d1, d2, d3, d4⟩ := node_cells hnode
        clear heq hbel hnode
        by_cases hkl : k < pl.length
        · obtain ⟨b, off, ha, hbw, hcell⟩ := HP.out.resolve_left (by omega)
          subst ha
          have c0 := rowAt hcell HBE.out hbw k hkl
          clear hcell
          have hs2 := HPS.out _ (List.getElem_mem hkl)
          have HNX : Hid (lists (pl.drop k) = (pl[k]'hkl).data.toList :: lists (pl.drop (k + 1))) := by
            show _ = _; rw [List.drop_eq_getElem_cons hkl]; rfl
          rw [HNX.out, List.flatMap_cons] at HEQ
          clear HNX
          generalize pl[k]'hkl = kb at *
          have hi1 : (0 : Int) ≤ (k : Int) := by omega
          have hi2 : (k : Int) < (pl.length : Int) := by omega
          go_wp2_with fail
          refine (text_any kb _ (by omega)).mono ?_
          rintro r w1 ⟨rfl, hb1⟩
          have HB1 := hid (HBE.out.trans (hb1.mono hszr))
          have HN1 := hid ((hb1.block _ (Array.getElem?_eq_some_iff.1 HND.out).1).trans HND.out)
          clear hb1
          have hn1 := text_len kb.data.toList (by rw [len_size]; omega)
          rw [len_size] at hn1
          generalize Pg.text kb.data.toList = nb at *
          have HG : Hid ((sb ++ ⟨nb.toArray⟩).data.toList ++ (lists (pl.drop (k + 1))).flatMap Pg.text = Pg.pivotsC cl (lists pl)) := by
            show _ = _; rw [← HEQ.out]; simp
          have z1 := size_mk nb
          go_wp2_with fail
          go_roundw
          case rel => exact ⟨k + 1, _, by omega, by go_num, rfl, by rw [ByteArray.size_append']; omega, HG.out, HN1.out, HB1.out⟩
          case measure => simp [intOf]; omega
        · rw [List.drop_eq_nil_of_le (by omega)] at HEQ
          have HQ2 : Hid (sb.data.toList = Pg.pivotsC cl (lists pl)) := by show _ = _; rw [← HEQ.out]; simp [lists]
          clear HEQ
          go_wp2_with fail
          refine (section_any ⟨#[112]⟩ sb _ (by decide) (by omega)).mono ?_
          rintro r w1 ⟨rfl, hb1⟩
          have HB1 := hid (HBE.out.trans (hb1.mono hszr))
          have hsz1 := HB1.out.size
          obtain ⟨d0, d1, d2, d3, d4⟩ := node_cells ((hb1.block _ (Array.getElem?_eq_some_iff.1 HND.out).1).trans HND.out)
          have HN1 := hid ((hb1.block _ (Array.getElem?_eq_some_iff.1 HND.out).1).trans HND.out)
          clear hb1
          have hlp := Pg.section_len [112] sb.data.toList (by rw [len_size]; omega)
          rw [len_size] at hlp
          have HPP : Hid (Pg.section_ [112] sb.data.toList = Pg.branchP cl (lists pl)) := by
            show _ = _; rw [HQ2.out]; rfl
          simp only [List.length_cons, List.length_nil] at hlp
          generalize Pg.section_ [112] sb.data.toList = pp at *
          go_wp2_with fail
          refine (changesW_any _ ml _ (HM.out.below HB1.out) (by omega) (fun x hx => ⟨(HMS.out x hx).1, by have := (HMS.out x hx).2; omega, by have := (HMS.out x hx).2; omega⟩)).mono ?_
          rintro r w2 ⟨rfl, hb2⟩
          have HB2 := hid (HB1.out.trans (hb2.mono hsz1))
          have hsz2 := HB2.out.size
          have HN2 := hid ((hb2.block _ (Array.getElem?_eq_some_iff.1 HN1.out).1).trans HN1.out)
          clear hb2 d0 d1 d2 d3 d4
          obtain ⟨d0, d1, d2, d3, d4⟩ := node_cells HN2.out
          have hlm := changesLen _ (plainCh_sz HMS.out)
          have hlm2 : (plainCh ml).length = ml.length := by simp [plainCh]
          have hlq := Pg.section_len [109] (Pg.changes (plainCh ml)) (by omega)
          simp only [List.length_cons, List.length_nil] at hlq
          go_wp2_with fail
          have CS := section_any ⟨#[109]⟩ ⟨(Pg.changes (plainCh ml)).toArray⟩ w2 (by decide) (by rw [size_mk]; omega)
          refine CS.mono ?_
          clear CS
          rintro r w3 ⟨rfl, hb3⟩
          have HB3 := hid (HB2.out.trans (hb3.mono hsz2))
          have hsz3 := HB3.out.size
          have HN3 := hid ((hb3.block _ (Array.getElem?_eq_some_iff.1 HN2.out).1).trans HN2.out)
          clear hb3 d0 d1 d2 d3 d4
          obtain ⟨d0, d1, d2, d3, d4⟩ := node_cells HN3.out
          have HPM : Hid (Pg.section_ [109] (Pg.changes (plainCh ml)) = Pg.branchM (plainCh ml)) := rfl
          simp only []
          generalize Pg.section_ [109] (Pg.changes (plainCh ml)) = mm at *
          go_wp2_with fail
          clear HN1 HN2 HB1 HB2 HBE HND
          refine (low_any cl.length 1 _ (by omega) (by omega)).mono ?_
          rintro r w4 ⟨rfl, hb4⟩
          have HB4 := hid (HB3.out.trans (hb4.mono hsz3))
          have hsz4 := HB4.out.size
          have HN4 := hid ((hb4.block _ (Array.getElem?_eq_some_iff.1 HN3.out).1).trans HN3.out)
          clear hb4 d0 d1 d2 d3 d4
          have HFN : Hid (Pg.branch cl (lists pl) (plainCh ml) = Pg.sealed ([83, 50, 73] ++ Pg.low cl.length 1 ++ Pg.low pp.length 2 ++ Pg.low mm.length 2 ++ List.replicate 56 0) ++ pp ++ mm) := by
            show _ = _; rw [HPP.out, HPM.out]; rfl
          have hl1 := Pg.low_len 1 cl.length
          generalize Pg.low cl.length 1 = l1 at *
          go_wp2_with fail
          have CL2 := low_any pp.length 2 w4 (by omega) (by omega)
          refine CL2.mono ?_
          clear CL2
          rintro r w5 ⟨rfl, hb5⟩
          have HB5 := hid (HB4.out.trans (hb5.mono hsz4))
          have hsz5 := HB5.out.size
          clear hb5
          have hl2' := Pg.low_len 2 pp.length
          generalize Pg.low pp.length 2 = l2 at *
          go_wp2_with fail
          have CL3 := low_any mm.length 2 w5 (by omega) (by omega)
          refine CL3.mono ?_
          clear CL3
          rintro r w6 ⟨rfl, hb6⟩
          have HB6 := hid (HB5.out.trans (hb6.mono hsz5))
          have hsz6 := HB6.out.size
          clear hb6
          have hl3' := Pg.low_len 2 mm.length
          generalize Pg.low mm.length 2 = l3 at *
          go_wp2_with fail
          refine (noughts_any 56 _ (by omega)).mono ?_
          rintro r w7 ⟨rfl, hb7⟩
          have HB7 := hid (HB6.out.trans (hb7.mono hsz6))
          have hsz7 := HB7.out.size
          clear hb7
          have hl5 : (List.replicate 56 (0 : UInt8)).length = 56 := List.length_replicate
          generalize List.replicate 56 (0 : UInt8) = ns at *
          go_wp2_with fail
          refine (sealed_any _ _ (by simp only [ByteArray.size_append', size_mk, List.length_cons, List.length_nil]; omega)).mono ?_
          rintro r w8 ⟨rfl, hb8⟩
          have HB8 := hid (HB7.out.trans (hb8.mono hsz7))
          clear hb8
          have hl8 := Pg.seal_len ((⟨#[83, 50, 73]⟩ : ByteArray) ++ ⟨l1.toArray⟩ ++ ⟨l2.toArray⟩ ++ ⟨l3.toArray⟩ ++ ⟨ns.toArray⟩).data.toList
          rw [len_size] at hl8
          simp only [ByteArray.size_append', size_mk, List.length_cons, List.length_nil] at hl8
          generalize hse : Pg.sealed ((⟨#[83, 50, 73]⟩ : ByteArray) ++ ⟨l1.toArray⟩ ++ ⟨l2.toArray⟩ ++ ⟨l3.toArray⟩ ++ ⟨ns.toArray⟩).data.toList = se at *
          have HSE := hid hse
          clear hse
          go_wp2_with fail
          go_ret
          refine ⟨ret_str ?_, HB8.out⟩
          rw [HFN.out]
          show (_ : ByteArray).data.toList = _
          simp only [ByteArray.data_append, Array.toList_append]
          rw [← HSE.out]; simp
end Go.Proofs.YtolgpnaoaodepaaGreat
