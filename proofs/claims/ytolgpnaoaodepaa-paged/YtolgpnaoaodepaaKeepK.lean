/- The walk of siltkeep's Paged. -/
import Derived.Test.YtolgpnaoaodepaaKeepJ
import Derived.Test.YtolgpnaoaodepaaMathN
import Derived.Test.YtolgpnaoaodepaaWalkAIm
namespace Go.Proofs.Ytolgpnaoaodepaa
open Go.RowKit

theorem plain_inj {a b : List (ByteArray × ByteArray)} (h : plain a = plain b) : a = b := by
  unfold plain at h
  refine List.map_inj_right ?_ |>.1 h
  rintro ⟨x1, x2⟩ ⟨y1, y2⟩ e
  simp only [Prod.mk.injEq] at e
  rw [← mk_data x1, ← mk_data x2, ← mk_data y1, ← mk_data y2, e.1, e.2]
theorem lists_inj {a b : List ByteArray} (h : lists a = lists b) : a = b := by
  unfold lists at h
  refine List.map_inj_right ?_ |>.1 h
  intro x y e
  rw [← mk_data x, ← mk_data y, e]
theorem plainCh_inj {a b : List (Int × ByteArray × ByteArray)} (h : plainCh a = plainCh b) : a = b := by
  unfold plainCh at h
  refine List.map_inj_right ?_ |>.1 h
  rintro ⟨x0, x1, x2⟩ ⟨y0, y1, y2⟩ e
  simp only [Prod.mk.injEq] at e
  rw [e.1, ← mk_data x1, ← mk_data x2, ← mk_data y1, ← mk_data y2, e.2.1, e.2.2]
theorem write_well {kd : Int} {il : List (ByteArray × ByteArray)} {cl : List Nat} {pl : List ByteArray} {ml : List (Int × ByteArray × ByteArray)} (h : Pr.wellT (kd, plain il, cl, lists pl, plainCh ml) = true) : Pg.write kd (plain il) (cl.map Int.ofNat) (lists pl) (plainCh ml) = (Pr.pageT (kd, plain il, cl, lists pl, plainCh ml), 0) := by
  unfold Pg.write
  have h' : Pg.well kd (plain il) (cl.map Int.ofNat) (lists pl) (plainCh ml) = true := h
  rw [if_pos h']; rfl
theorem well_kids {n : Pr.NodeT} (h : Pr.wellT n = true) : n.2.2.1.length ≤ n.2.2.2.1.length + 1 := by
  unfold Pr.wellT Pg.well at h
  split at h
  · simp only [Bool.and_eq_true, decide_eq_true_eq, List.length_map] at h; omega
  · simp only [Bool.and_eq_true, decide_eq_true_eq, List.length_map] at h; omega
theorem well_one {kd : Int} {il : List (ByteArray × ByteArray)} {cl : List Nat} {pl : List ByteArray} {ml : List (Int × ByteArray × ByteArray)} (h : Pr.wellT (kd, plain il, cl, lists pl, plainCh ml) = true) (hk : kd = 1) : Pr.Fine (plain il) ∧ il.length ≤ 16 ∧ Pr.pageT (kd, plain il, cl, lists pl, plainCh ml) = Pg.leaf (plain il) := by
  subst hk
  unfold Pr.wellT Pg.well at h
  rw [if_pos rfl] at h
  simp only [Bool.and_eq_true, decide_eq_true_eq] at h
  refine ⟨(Pr.ok_fine _).1 h.1.1.1.1, by simpa [plain] using h.1.1.1.2, ?_⟩
  unfold Pr.pageT Pg.page
  rw [if_neg (by simp)]

def thereB (il : List (ByteArray × ByteArray)) (j : Nat) (kk : ByteArray) : Bool := (il.take j).any fun y => decide (y.1 = kk)
theorem thereB_succ (il : List (ByteArray × ByteArray)) (j : Nat) (kk : ByteArray) (h : j < il.length) : thereB il (j + 1) kk = (thereB il j kk || decide ((il[j]'h).1 = kk)) := by
  unfold thereB
  rw [List.take_add_one, List.getElem?_eq_getElem h, List.any_append]
  congr 1
  simp [Option.toList]
theorem NodeV.items {B : Nat} {w : World} {a1 a2 a3 a4 : Value} {kd : Int} {il : List (ByteArray × ByteArray)} {cl : List Nat} {pl : List ByteArray} {ml : List (Int × ByteArray × ByteArray)} (h : NodeV B w (.agg #[.int .i64 kd, a1, a2, a3, a4]) kd il cl pl ml) : OwnsI B w a1 il := by
  obtain ⟨b1, b2, b3, b4, e, h1, -⟩ := h
  simp only [Value.agg.injEq, Array.mk.injEq, List.cons.injEq, true_and, and_true] at e
  obtain ⟨rfl, -⟩ := e
  exact h1

set_option maxHeartbeats 4000000 in
set_option maxRecDepth 20000 in
theorem paged_any (v : Value) (l : List Int) (other : Int) (t : List UInt8) (w : World) (hv : IsInts w v l) (a1 : -9223372036854775808 ≤ other) (a2 : other ≤ 9223372036854775807) :
    Calls Try.prog 4 #[v, .int .i64 other, .string ⟨t.toArray⟩] w fun r w' => r = .returned (.bool true) ∧ Below w.heap.size w w' := by
  have HV := hid hv
  obtain ⟨va, vc, rfl, hl18, -, -⟩ := hv
  go_enter Try.func4, Try.ntmps4
  go_wp2_with fail
  refine (head_any _).mono ?_
  rintro r w1 ⟨rfl, hb1⟩
  have HV1 := hid (HV.out.below hb1)
  have HB1 := hid hb1
  have hs1 := hb1.size
  clear hb1
  go_wp2_with fail
  refine (node_any _ l _ HV1.out).mono ?_
  rintro r w2 ⟨n, hw2, hb2, ⟨hx, -⟩ | ⟨kd, il, cl, pl, ml, v2, hn2, rfl, hv2⟩⟩
  · simp at hx
  injection hn2 with hn2
  subst hn2
  have HW := hid hw2
  have HCP := hid (well_kids hw2)
  obtain ⟨ia, ic, ka, kc, pa, pc, ma, mc, rfl⟩ := hv2.shape
  have hs2 := hb2.size
  have BN := (Below.refl w2.heap.size w2).alloc (Nat.le_refl _) (.cells #[.int .i64 kd, .slice ia il.length ic, .slice ka cl.length kc, .slice pa pl.length pc, .slice ma ml.length mc] 34)
  have HB3 := hid (HB1.out.trans ((hb2.trans (BN.mono hs2)).mono hs1))
  have HV3 := hid (hv2.below BN)
  have HN3 := hid (nodeB_new w2 (.int .i64 kd) (.slice ia il.length ic) (.slice ka cl.length kc) (.slice pa pl.length pc) (.slice ma ml.length mc))
  have hs3 : w2.heap.size < (w2.alloc (.cells #[.int .i64 kd, .slice ia il.length ic, .slice ka cl.length kc, .slice pa pl.length pc, .slice ma ml.length mc] 34)).heap.size := by simp
  clear BN hb2 hv2 hw2
  go_wp2_with fail
  generalize w2.alloc (.cells #[.int .i64 kd, .slice ia il.length ic, .slice ka cl.length kc, .slice pa pl.length pc, .slice ma ml.length mc] 34) = w3 at *
  obtain ⟨nb0, hnb0⟩ : ∃ nb0, nb0 = w1.heap.size := ⟨_, rfl⟩
  rw [← hnb0] at HV3
  clear hnb0
  generalize w2.heap.size = nb at *
  have HWR := hid (siltWrite_any _ kd il (cl.map Int.ofNat) pl ml w3 HV3.out.isNode)
  rw [write_well HW.out] at HWR
  have HRP := hid (Pr.readR_page HW.out)
  have HPG := hid (fun h => well_one HW.out h)
  generalize hpg : Pr.pageT (kd, plain il, cl, lists pl, plainCh ml) = pg at *
  clear hpg
  refine HWR.out.mono ?_
  rintro r w4 ⟨rfl, hb4⟩
  have HB4 := hid (HB3.out.trans (hb4.mono (by have := HB3.out.size; omega)))
  have HV4 := hid (HV3.out.below hb4)
  have HN4 := hid (HN3.out.keep hb4)
  have hs4 := hb4.size
  clear hb4 HWR HB3 HV3 HN3
  go_wp2_with fail
  refine (siltRead_any pg w4).mono ?_
  rintro r w5 ⟨hb5, ⟨hx, -⟩ | ⟨kd', il', cl', pl', ml', v5, he, rfl, hv5⟩⟩
  · rw [HRP.out] at hx; simp at hx
  rw [HRP.out] at he
  simp only [Option.some.injEq, Prod.mk.injEq] at he
  obtain ⟨rfl, e1, rfl, e2, e3⟩ := he
  obtain rfl := plain_inj e1
  obtain rfl := lists_inj e2
  obtain rfl := plainCh_inj e3
  clear e1 e2 e3
  obtain ⟨ja, jc, la, lc, qa, qc, na, nc, rfl⟩ := hv5.shape
  have hs5 := hb5.size
  have BN := (Below.refl w5.heap.size w5).alloc (Nat.le_refl _) (.cells #[.int .i64 kd, .slice ja il.length jc, .slice la cl.length lc, .slice qa pl.length qc, .slice na ml.length nc] 34)
  have HB6 := hid (HB4.out.trans ((hb5.trans (BN.mono hs5)).mono (by have := HB4.out.size; omega)))
  have HV6 := hid (HV4.out.below (hb5.trans (BN.mono hs5)))
  have HN6 := hid (HN4.out.keep (hb5.trans (BN.mono hs5)))
  have HU6 := hid (hv5.below BN)
  have HM6 := hid (nodeB_new w5 (.int .i64 kd) (.slice ja il.length jc) (.slice la cl.length lc) (.slice qa pl.length qc) (.slice na ml.length nc))
  have hs6 : w5.heap.size < (w5.alloc (.cells #[.int .i64 kd, .slice ja il.length jc, .slice la cl.length lc, .slice qa pl.length qc, .slice na ml.length nc] 34)).heap.size := by simp
  have hmb : w.heap.size ≤ w5.heap.size := by have := HB4.out.size; omega
  clear BN hb5 hv5 HB4 HV4 HN4
  obtain ⟨n0, n1, n2, n3, n4, -⟩ := HN6.out.cells
  obtain ⟨m0, m1, m2, m3, m4, -⟩ := HM6.out.cells
  go_wp2_with fail
  generalize w5.alloc (.cells #[.int .i64 kd, .slice ja il.length jc, .slice la cl.length lc, .slice qa pl.length qc, .slice na ml.length nc] 34) = w6 at *
  generalize w5.heap.size = mb at *
  refine (same_any _ _ kd il (cl.map Int.ofNat) pl ml w6 HV6.out.isNode HU6.out.isNode (by have := HCP.out; simp only [lists, List.length_map] at this ⊢; exact this)).mono ?_
  rintro r w7 ⟨rfl, hb7⟩
  have HB7 := hid (HB6.out.trans (hb7.mono (by have := HB6.out.size; omega)))
  have HV7 := hid (HV6.out.below hb7)
  have HN7 := hid (HN6.out.keep hb7)
  have HM7 := hid (HM6.out.keep hb7)
  have hs7 := hb7.size
  clear hb7 n0 n1 n2 n3 n4 m0 m1 m2 m3 m4 HB6 HV6 HN6 HM6 HU6
  obtain ⟨n0, n1, n2, n3, n4, -⟩ := HN7.out.cells
  have hgo : w.heap.size ≤ w7.heap.size := HB7.out.size
  go_upto_if 53 with fail
  go_cut [] (fun wx => Below w.heap.size w wx ∧ NodeB wx mb (.int .i64 kd) (.slice ja il.length jc) (.slice la cl.length lc) (.slice qa pl.length qc) (.slice na ml.length nc))
  case first =>
    by_cases hk : kd = 1
    · subst hk
      obtain ⟨hf, h16, hpl⟩ := HPG.out rfl
      have HFT : Hid (∀ key, Pr.fetchR pg key = some (Pr.valueOf key (plain il))) := fun key => by rw [hpl]; exact Pr.fetchR_leaf hf (by simpa [plain] using h16) key
      have HF := hid hf
      clear hf hpl HPG HRP HW
      go_wp2_with fail
      refine (key_any other _ a1 a2).mono ?_
      rintro r w8 ⟨⟨kk, rfl, -, -⟩, hb8⟩
      have HB8 := hid (HB7.out.trans (hb8.mono hgo))
      have HV8 := hid (HV7.out.below hb8)
      have HN8 := hid (HN7.out.keep hb8)
      have HM8 := hid (HM7.out.keep hb8)
      clear hb8 n0 n1 n2 n3 n4 HB7 HV7 HN7 HM7
      go_wp2_with fail
      go_loopw [15, 16] (fun th i wr => ∃ j : Nat, j ≤ il.length ∧ i = .int .i64 j ∧ th = .bool (thereB il j kk) ∧ Below w.heap.size w wr ∧ OwnsI nb0 wr (.slice ia il.length ic) il ∧ NodeB wr nb (.int .i64 1) (.slice ia il.length ic) (.slice ka cl.length kc) (.slice pa pl.length pc) (.slice ma ml.length mc) ∧ NodeB wr mb (.int .i64 1) (.slice ja il.length jc) (.slice la cl.length lc) (.slice qa pl.length qc) (.slice na ml.length nc)) (fun _ i _ => il.length - (intOf i).toNat)
      case atStart => exact ⟨0, Nat.zero_le _, rfl, rfl, HB8.out, HV8.out.items, HN8.out, HM8.out⟩
      case round =>
        obtain ⟨j, hj, rfl, rfl, hb, ho, hn, hm⟩ := hrel
        have HBJ := hid hb
        have HOJ := hid ho
        have HNJ := hid hn
        have HMJ := hid hm
        obtain ⟨n0, n1, n2, n3, n4, -⟩ := hn.cells
        clear hb ho hn hm
        by_cases hjl : j < il.length
        · obtain ⟨g, cap, hge, hgc, hgb, hgw, hia⟩ := HOJ.out.isItems.resolve_left (by rintro ⟨_, _, _, rfl⟩; simp at hjl)
          injection hge with q1 q2 q3
          subst q1 q3
          obtain ⟨k0, k1⟩ := hia j hjl
          simp only [Nat.zero_add] at k0 k1
          clear hia
          have HTS := hid (thereB_succ il j kk hjl)
          have HVA : Hid (Pr.valueOf (il[j]'hjl).1.data.toList (plain il) = some (il[j]'hjl).2.data.toList) := Pr.valueOf_at _ HF.out ((il[j]'hjl).1.data.toList, (il[j]'hjl).2.data.toList) (by unfold plain; exact List.mem_map.2 ⟨il[j]'hjl, List.getElem_mem hjl, rfl⟩)
          generalize il[j]'hjl = xx at *
          obtain ⟨kb, vb⟩ := xx
          simp only at k0 k1
          have hi2 : (0 : Int) ≤ (j : Int) := by omega
          have hi3 : (j : Int) < (il.length : Int) := by omega
          have HCF := hid (siltFetch_any pg kb wr)
          rw [HFT.out, HVA.out, show fetchV (some (some vb.data.toList)) = vb from mk_data vb, show fetchN (some (some vb.data.toList)) = 0 from rfl] at HCF
          clear HVA
          generalize thereB il j kk = tb at *
          go_wp2_with fail
          refine HCF.out.mono ?_
          rintro r wf ⟨rfl, hbf⟩
          have HBF := hid (HBJ.out.trans (hbf.mono (by have := HBJ.out.size; omega)))
          have HOF : Hid (OwnsI nb0 wf (.slice (some ⟨g, 0, none⟩) il.length ic) il) := row_below HOJ.out hbf (Nat.le_refl _)
          have HNF := hid (HNJ.out.keep hbf)
          have HMF := hid (HMJ.out.keep hbf)
          have k0' := (hbf.cell (p := ⟨g, j * 2, none⟩) hgw).trans k0
          have k1' := (hbf.cell (p := ⟨g, j * 2 + 1, none⟩) hgw).trans k1
          clear k0 k1 n0 n1 n2 n3 n4 hbf HCF
          obtain ⟨n0, n1, n2, n3, n4, -⟩ := HNF.out.cells
          cases tb with
          | true =>
            go_wp2_with fail
            go_roundw
            case rel => exact ⟨j + 1, by omega, by go_num, by rw [HTS.out]; rfl, HBF.out, HOF.out, HNF.out, HMF.out⟩
            case measure => simp [intOf]; omega
          | false =>
            by_cases he : kb = kk
            · subst he
              go_wp2_with fail
              go_roundw
              case rel => exact ⟨j + 1, by omega, by go_num, by rw [HTS.out]; simp, HBF.out, HOF.out, HNF.out, HMF.out⟩
              case measure => simp [intOf]; omega
            · have he' : (kb.toList == kk.toList) = false := by rw [toList_is, toList_is]; simpa using fun e => he (bytes_ext e)
              go_wp2_with fail
              go_roundw
              case rel => exact ⟨j + 1, by omega, by go_num, by rw [HTS.out, decide_eq_false he]; rfl, HBF.out, HOF.out, HNF.out, HMF.out⟩
              case measure => simp [intOf]; omega
        · have hi3 : ¬ (j : Int) < (il.length : Int) := by omega
          have HTA : Hid (thereB il j kk = il.any fun y => decide (y.1 = kk)) := by show _ = _; unfold thereB; rw [List.take_of_length_le (by omega)]
          have HCF := hid (siltFetch_any pg kk wr)
          rw [HFT.out] at HCF
          cases htb : thereB il j kk with
          | true =>
            clear htb
            generalize fetchV (some (Pr.valueOf kk.data.toList (plain il))) = fv at *
            generalize fetchN (some (Pr.valueOf kk.data.toList (plain il))) = fn at *
            go_wp2_with fail
            refine HCF.out.mono ?_
            rintro r wf ⟨rfl, hbf⟩
            have HBF := hid (HBJ.out.trans (hbf.mono (by have := HBJ.out.size; omega)))
            have HMF := hid (HMJ.out.keep hbf)
            clear hbf HCF
            go_wp2_with fail
            go_meet
            exact ⟨HBF.out, HMF.out⟩
          | false =>
            have hvn : Pr.valueOf kk.data.toList (plain il) = none := Pr.valueOf_none _ _ fun x hx e => by
              rw [HTA.out] at htb
              unfold plain at hx
              obtain ⟨y, hy, rfl⟩ := List.mem_map.1 hx
              have hyk : y.1 = kk := by rw [← mk_data y.1, ← mk_data kk]; exact congrArg _ (congrArg _ e)
              exact absurd (List.any_eq_false.1 htb y hy) (by simp [hyk])
            rw [hvn, show fetchV (some none) = ⟨#[]⟩ from rfl, show fetchN (some none) = 3 from rfl] at HCF
            clear htb hvn
            go_wp2_with fail
            refine HCF.out.mono ?_
            rintro r wf ⟨rfl, hbf⟩
            have HBF := hid (HBJ.out.trans (hbf.mono (by have := HBJ.out.size; omega)))
            have HMF := hid (HMJ.out.keep hbf)
            clear hbf HCF
            go_wp2_with fail
            go_meet
            exact ⟨HBF.out, HMF.out⟩
    · go_wp2_with fail
      go_meet
      exact ⟨HB7.out, HM7.out⟩
  case rest =>
    obtain ⟨hb8, hm8⟩ := hcut
    have HB8 := hid hb8
    have HM8 := hid hm8
    clear hb8 hm8 HB7 HV7 HN7 HM7 HPG HRP HW n0 n1 n2 n3 n4
    go_wp2_with fail
    refine (siltRead_any t wc).mono ?_
    rintro r w9 ⟨hb9, ⟨hn9, rfl⟩ | ⟨kd', il', cl', pl', ml', v9, he9, rfl, hv9⟩⟩
    · have HB9 := hid (below_put (HB8.out.trans (hb9.mono HB8.out.size)) hmb (.int .i64 0) (.slice none 0 0) (.slice none 0 0) (.slice none 0 0) (.slice none 0 0))
      have HM9 := hid (HM8.out.keep hb9)
      obtain ⟨r0, r1, r2, r3, r4, y0, y1, y2, y3, y4⟩ := HM9.out.cells
      obtain ⟨s0, -⟩ := (HM9.out.put (.int .i64 0) (.slice none 0 0) (.slice none 0 0) (.slice none 0 0) (.slice none 0 0)).cells
      unfold put5 at s0 HB9
      clear hb9 hn9
      go_wp2_with fail
      go_ret
      exact ⟨rfl, HB9.out⟩
    · obtain ⟨hw9, hp9⟩ := Pr.readR_is he9
      have HW9 := hid hw9
      have HP9 := hid hp9
      obtain ⟨ja', jc', la', lc', qa', qc', na', nc', rfl⟩ := hv9.shape
      have HM9 := hid (HM8.out.keep hb9)
      have HB9 := hid (below_put (HB8.out.trans (hb9.mono HB8.out.size)) hmb (.int .i64 kd') (.slice ja' il'.length jc') (.slice la' cl'.length lc') (.slice qa' pl'.length qc') (.slice na' ml'.length nc'))
      have HV9 := hid (hv9.put (b := mb) HM8.out.lt (.int .i64 kd') (.slice ja' il'.length jc') (.slice la' cl'.length lc') (.slice qa' pl'.length qc') (.slice na' ml'.length nc'))
      obtain ⟨r0, r1, r2, r3, r4, y0, y1, y2, y3, y4⟩ := HM9.out.cells
      obtain ⟨s0, s1, s2, s3, s4, -⟩ := (HM9.out.put (.int .i64 kd') (.slice ja' il'.length jc') (.slice la' cl'.length lc') (.slice qa' pl'.length qc') (.slice na' ml'.length nc')).cells
      unfold put5 at s0 s1 s2 s3 s4 HB9 HV9
      clear hb9 hv9 he9 hw9 hp9
      go_wp2_with fail
      have HWR := hid (siltWrite_any _ kd' il' (cl'.map Int.ofNat) pl' ml' _ HV9.out.isNode)
      rw [write_well HW9.out, HP9.out] at HWR
      refine HWR.out.mono ?_
      rintro r w10 ⟨rfl, hb10⟩
      have HB10 := hid (HB9.out.trans (hb10.mono HB9.out.size))
      clear hb10 HWR
      go_wp2_with fail
      go_ret
      exact ⟨rfl, HB10.out⟩
end Go.Proofs.Ytolgpnaoaodepaa
