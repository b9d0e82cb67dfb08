/- The walk of Old, of branches. -/
import Derived.Test.YtolgpnaoaodepaaGreatRefLm
import Derived.Test.YtolgpnaoaodepaaGreatRefCm
namespace Go.Proofs.YtolgpnaoaodepaaGreat
open Go.RowKit
set_option maxHeartbeats 1000000 in
set_option maxRecDepth 100000 in
theorem oldBranch_any (c1 : Value) (vc vp vm : Value) (cl : List Nat) (pl : List ByteArray) (ml : List (Int × ByteArray × ByteArray)) (w : World)
    (hc : IsRow w vc cl.length (cl.map fun (c : Nat) => .int .i64 (c : Int))) (hp : IsRow w vp pl.length (pl.map .string)) (hm : IsChs w vm ml)
    (hcl : cl.length ≤ 4) (hcs : ∀ c ∈ cl, c ≤ 2147483647) (hpl : pl.length ≤ 4) (hps : ∀ x ∈ pl, x.size ≤ 12) (hml : ml.length ≤ 8) (hms : ∀ x ∈ ml, (0 ≤ x.1 ∧ x.1 ≤ 1000) ∧ x.2.1.size ≤ 12 ∧ x.2.2.size ≤ 16) :
    Calls Tryz.prog 49 #[.agg #[.int .i64 2, c1, vc, vp, vm]] w fun r w' => r = .returned (.string ⟨(Pg.oldBranch cl (lists pl) (plainCh ml)).toArray⟩) ∧ Below w.heap.size w w' := by
  obtain ⟨a2, p2, rfl, hl2, hc⟩ := hc
  obtain ⟨a3, p3, rfl, hl3, hp⟩ := hp
  obtain ⟨a4, p4, hvm, hl4, hm'⟩ := id hm
  subst hvm
  have HC := hid hc
  have HP := hid hp
  have HM := hid hm
  have HCS := hid hcs
  have HPS := hid hps
  have HMS := hid hms
  clear hc hp hm hm' hcs hps hms
  have HB0 := hid ((Below.refl w.heap.size w).alloc (Nat.le_refl _) (.cells #[.int .i64 2, c1, .slice a2 cl.length p2, .slice a3 pl.length p3, .slice a4 ml.length p4] 79))
  have HV0 : Hid ((w.alloc (.cells #[.int .i64 2, c1, .slice a2 cl.length p2, .slice a3 pl.length p3, .slice a4 ml.length p4] 79)).heap[w.heap.size]? = some (.cells #[.int .i64 2, c1, .slice a2 cl.length p2, .slice a3 pl.length p3, .slice a4 ml.length p4] 79 (0, 0))) := heap_alloc_new _ _
  go_enter Tryz.func49, Tryz.ntmps49
  go_wp2_with fail
  refine (low_any cl.length 1 _ (by omega) (by omega)).mono ?_
  rintro r w0 ⟨rfl, hb0⟩
  have HB1 := hid (HB0.out.trans (hb0.mono (by simp)))
  have HN1 := hid ((hb0.block _ (Array.getElem?_eq_some_iff.1 HV0.out).1).trans HV0.out)
  clear hb0
  have hl1 := Pg.low_len 1 cl.length
  have HFN : Hid (Pg.oldBranch cl (lists pl) (plainCh ml) = Pg.sealed ([83, 49, 73] ++ Pg.low cl.length 1 ++ cl.flatMap (fun c => Pg.low c 4) ++ (lists pl).flatMap Pg.text ++ Pg.changes (plainCh ml))) := rfl
  generalize Pg.low cl.length 1 = l1 at *
  go_wp2_with fail
  generalize hsh : (⟨#[83, 49, 73]⟩ : ByteArray) ++ ⟨l1.toArray⟩ = sh at *
  have hshz : sh.size = 4 := by rw [← hsh, ByteArray.size_append', size_mk l1, hl1]; rfl
  obtain ⟨hd, hhd⟩ : ∃ hd : List UInt8, hd = [83, 49, 73] ++ l1 := ⟨_, rfl⟩
  have HHD := hid hhd
  have HSH : Hid (sh.data.toList = hd) := by show _ = _; rw [← hsh, hhd]; simp
  clear hsh hhd
  go_loopw [5, 6] (fun s i wr => ∃ (k : Nat) (sb : ByteArray), k ≤ cl.length ∧ i = .int .i64 k ∧ s = .string sb ∧ sb.size ≤ 4 + 4 * k ∧ sb.data.toList ++ (cl.drop k).flatMap (fun c => Pg.low c 4) = hd ++ cl.flatMap (fun c => Pg.low c 4) ∧ wr.heap[w.heap.size]? = some (.cells #[.int .i64 2, c1, .slice a2 cl.length p2, .slice a3 pl.length p3, .slice a4 ml.length p4] 79 (0, 0)) ∧ Below w.heap.size w wr) (fun _ i _ => cl.length - (intOf i).toNat)
  case atStart => exact ⟨0, sh, Nat.zero_le _, rfl, rfl, by omega, by rw [HSH.out]; rfl, HN1.out, HB1.out⟩
  case round =>
    obtain ⟨k, sb, hk, rfl, rfl, hsb, heq, hnode, hbel⟩ := hrel
    have HEQ := hid heq
    have HND := hid hnode
    have HBE := hid hbel
    have hszr := hbel.size
    obtain ⟨d0, d1, d2, d3, d4⟩ := node_cells hnode
    clear heq hbel hnode
    by_cases hkl : k < cl.length
    · obtain ⟨b, off, ha, hbw, hcell⟩ := HC.out.resolve_left (by omega)
      subst ha
      have c0 := rowAtN hcell HBE.out hbw k hkl
      clear hcell
      have hs2 := HCS.out _ (List.getElem_mem hkl)
      rw [List.drop_eq_getElem_cons hkl, List.flatMap_cons] at HEQ
      generalize cl[k]'hkl = cn at *
      have hi1 : (0 : Int) ≤ (k : Int) := by omega
      have hi2 : (k : Int) < (cl.length : Int) := by omega
      go_wp2_with fail
      refine (low_any cn 4 _ (by omega) (by omega)).mono ?_
      rintro r w1 ⟨rfl, hb1⟩
      clear HB1 HN1
      have HB1 := hid (HBE.out.trans (hb1.mono hszr))
      have HN1 := hid ((hb1.block _ (Array.getElem?_eq_some_iff.1 HND.out).1).trans HND.out)
      clear hb1
      have hn1 := Pg.low_len 4 cn
      generalize Pg.low cn 4 = nb at *
      have HG : Hid ((sb ++ ⟨nb.toArray⟩).data.toList ++ (cl.drop (k + 1)).flatMap (fun c => Pg.low c 4) = hd ++ cl.flatMap (fun c => Pg.low c 4)) := by
        show _ = _; rw [← HEQ.out]; simp
      have z1 := size_mk nb
      go_wp2_with fail
      go_roundw
      case rel => exact ⟨k + 1, _, by omega, by go_num, rfl, by rw [ByteArray.size_append']; omega, HG.out, HN1.out, HB1.out⟩
      case measure => simp [intOf]; omega
    · rw [List.drop_eq_nil_of_le (by omega)] at HEQ
      have HQ1 : Hid (sb.data.toList = hd ++ cl.flatMap (fun c => Pg.low c 4)) := by show _ = _; rw [← HEQ.out]; simp
      clear HEQ
      go_wp2_with fail
      go_loopw [5, 7] (fun s i wr => ∃ (k : Nat) (sb : ByteArray), k ≤ pl.length ∧ i = .int .i64 k ∧ s = .string sb ∧ sb.size ≤ 40 + 30 * k ∧ sb.data.toList ++ (lists (pl.drop k)).flatMap Pg.text = hd ++ cl.flatMap (fun c => Pg.low c 4) ++ (lists pl).flatMap Pg.text ∧ wr.heap[w.heap.size]? = some (.cells #[.int .i64 2, c1, .slice a2 cl.length p2, .slice a3 pl.length p3, .slice a4 ml.length p4] 79 (0, 0)) ∧ Below w.heap.size w wr) (fun _ i _ => pl.length - (intOf i).toNat)
      case atStart => exact ⟨0, sb, Nat.zero_le _, rfl, rfl, by omega, by rw [HQ1.out]; rfl, HND.out, HBE.out⟩
      case round =>
        clear HQ1 HND HBE hszr d0 d1 d2 d3 d4 hk hkl hsb
        obtain ⟨k, sb, hk, rfl, rfl, hsb, heq, hnode, hbel⟩ := hrel
        have HEQ := hid heq
        have HND := hid hnode
        have HBE := hid hbel
        have hszr := hbel.size
        obtain ⟨d0, d1, d2, d3, d4⟩ := node_cells hnode
        clear heq hbel hnode
        by_cases hkl : k < pl.length
        · obtain ⟨b, off, ha, hbw, hcell⟩ := HP.out.resolve_left (by omega)
          subst ha
          have c0 := rowAt hcell HBE.out hbw k hkl
          clear hcell
          have hs2 := HPS.out _ (List.getElem_mem hkl)
          have HNX : Hid (lists (pl.drop k) = (pl[k]'hkl).data.toList :: lists (pl.drop (k + 1))) := by
            show _ = _; rw [List.drop_eq_getElem_cons hkl]; rfl
          rw [HNX.out, List.flatMap_cons] at HEQ
          clear HNX
          generalize pl[k]'hkl = kb at *
          have hi1 : (0 : Int) ≤ (k : Int) := by omega
          have hi2 : (k : Int) < (pl.length : Int) := by omega
          go_wp2_with fail
          refine (text_any kb _ (by omega)).mono ?_
          rintro r w1 ⟨rfl, hb1⟩
          have HB1 := hid (HBE.out.trans (hb1.mono hszr))
          have HN1 := hid ((hb1.block _ (Array.getElem?_eq_some_iff.1 HND.out).1).trans HND.out)
          clear hb1
          have hn1 := text_len kb.data.toList (by rw [len_size]; omega)
          rw [len_size] at hn1
          generalize Pg.text kb.data.toList = nb at *
          have HG : Hid ((sb ++ ⟨nb.toArray⟩).data.toList ++ (lists (pl.drop (k + 1))).flatMap Pg.text = hd ++ cl.flatMap (fun c => Pg.low c 4) ++ (lists pl).flatMap Pg.text) := by
            show _ = _; rw [← HEQ.out]; simp
          have z1 := size_mk nb
          go_wp2_with fail
          go_roundw
          case rel => exact ⟨k + 1, _, by omega, by go_num, rfl, by rw [ByteArray.size_append']; omega, HG.out, HN1.out, HB1.out⟩
          case measure => simp [intOf]; omega
        · rw [List.drop_eq_nil_of_le (by omega)] at HEQ
          have HQ2 : Hid (sb.data.toList = hd ++ cl.flatMap (fun c => Pg.low c 4) ++ (lists pl).flatMap Pg.text) := by show _ = _; rw [← HEQ.out]; simp [lists]
          clear HEQ
          go_wp2_with fail
          refine (changesW_any _ ml _ (HM.out.below HBE.out) (by omega) (fun x hx => ⟨(HMS.out x hx).1, by have := (HMS.out x hx).2; omega, by have := (HMS.out x hx).2; omega⟩)).mono ?_
          rintro r w2 ⟨rfl, hb2⟩
          have HB2 := hid (HBE.out.trans (hb2.mono hszr))
          have hsz2 := HB2.out.size
          clear hb2
          have hlm := changesLen _ (plainCh_sz HMS.out)
          have hlm2 : (plainCh ml).length = ml.length := by simp [plainCh]
          generalize Pg.changes (plainCh ml) = cm at *
          go_wp2_with fail
          refine (sealed_any _ _ (by simp only [ByteArray.size_append', size_mk]; omega)).mono ?_
          rintro r w8 ⟨rfl, hb8⟩
          have HB8 := hid (HB2.out.trans (hb8.mono hsz2))
          clear hb8
          go_wp2_with fail
          go_ret
          refine ⟨ret_str ?_, HB8.out⟩
          rw [HFN.out]
          show (_ : ByteArray).data.toList = _
          simp [HQ2.out, HHD.out]
end Go.Proofs.YtolgpnaoaodepaaGreat
/- The walk of Write of the reference. -/
namespace Go.Proofs.YtolgpnaoaodepaaGreat
open Go.RowKit
theorem well_any (v : Value) (kd : Int) (il : List (ByteArray × ByteArray)) (cl : List Int) (pl : List ByteArray) (ml : List (Int × ByteArray × ByteArray)) (w : World) (h : IsNode w v kd il cl pl ml) :
    Calls Tryz.prog 151 #[v] w fun r w' => r = .returned (.bool (Pg.well kd (plain il) cl (lists pl) (plainCh ml))) ∧ Below w.heap.size w w' := by
  obtain ⟨v1, v2, v3, v4, rfl, h1, h2, h3, h4, h5⟩ := h
  have e1 : (plain il).length = il.length := by simp [plain]
  have e2 : (lists pl).length = pl.length := by simp [lists]
  have e3 : (plainCh ml).length = ml.length := by simp [plainCh]
  unfold Pg.well
  rw [e1, e2, e3]
  by_cases hk : kd = 1
  · subst hk
    rw [if_pos rfl]
    obtain ⟨a2, p2, rfl, _⟩ := h3
    obtain ⟨a3, p3, rfl, _⟩ := h4
    obtain ⟨a4, p4, rfl, _⟩ := h5
    exact wellLeaf_any v1 a2 a3 a4 _ _ _ p2 p3 p4 il w h1 h2
  · rw [if_neg hk]
    obtain ⟨a1, p1, rfl⟩ := h1.shape
    exact wellOther_any kd hk a1 _ p1 v2 v3 v4 cl pl ml w h3 h4 h5
theorem page_any (v : Value) (kd : Int) (il : List (ByteArray × ByteArray)) (cl : List Int) (pl : List ByteArray) (ml : List (Int × ByteArray × ByteArray)) (w : World) (h : IsNode w v kd il cl pl ml) (hw : Pg.well kd (plain il) cl (lists pl) (plainCh ml) = true) :
    Calls Tryz.prog 48 #[v] w fun r w' => r = .returned (.string ⟨(Pg.page kd (plain il) cl (lists pl) (plainCh ml)).toArray⟩) ∧ Below w.heap.size w w' := by
  obtain ⟨v1, v2, v3, v4, rfl, h1, h2, h3, h4, h5⟩ := h
  unfold Pg.well at hw
  unfold Pg.page
  by_cases hk : kd = 1
  · subst hk
    rw [if_pos rfl] at hw
    rw [if_neg (by decide)]
    simp only [Bool.and_eq_true, decide_eq_true_eq] at hw
    obtain ⟨⟨⟨⟨ho, hl⟩, _⟩, _⟩, _⟩ := hw
    refine pageLeaf_any 1 v1 v2 v3 v4 il w (by decide) h1 (by simpa [plain] using hl) fun x hx => ?_
    have := Pg.okList_sz _ _ ho (x.1.data.toList, x.2.data.toList) (List.mem_map.2 ⟨x, hx, rfl⟩)
    simpa only [len_size] using this
  · rw [if_neg hk] at hw
    simp only [Bool.and_eq_true, decide_eq_true_eq] at hw
    obtain ⟨⟨⟨⟨⟨⟨⟨⟨hp, hc⟩, hm⟩, hk2⟩, _⟩, _⟩, hc4⟩, hpc⟩, hm8⟩ := hw
    subst hk2
    rw [if_pos rfl]
    have hcc : ∀ c ∈ cl, 0 ≤ c ∧ c ≤ 2147483647 := fun c hcm => by
      have := List.all_eq_true.1 hc c hcm
      simpa [Pg.okChild] using this
    have e1 : cl.map (Value.int .i64) = (cl.map Int.toNat).map fun (c : Nat) => Value.int .i64 (c : Int) := by
      rw [List.map_map]
      exact List.map_congr_left fun c hcm => by have := hcc c hcm; simp; omega
    have e2 : cl.length = (cl.map Int.toNat).length := by simp
    rw [e1, e2] at h3
    have e3 : (lists pl).length = pl.length := by simp [lists]
    have e4 : (plainCh ml).length = ml.length := by simp [plainCh]
    refine pageBranch_any v1 v2 v3 v4 (cl.map Int.toNat) pl ml w h3 h4 h5 (by rw [← e2]; exact hc4) (fun c hcm => ?_) (by omega) (fun x hx => ?_) (by omega) (fun x hx => ?_)
    · obtain ⟨d, hd, rfl⟩ := List.mem_map.1 hcm
      have := hcc d hd; omega
    · have := Pg.okPivots_sz _ _ hp x.data.toList (List.mem_map.2 ⟨x, hx, rfl⟩)
      simpa only [len_size] using this
    · have := List.all_eq_true.1 hm (x.1, x.2.1.data.toList, x.2.2.data.toList) (List.mem_map.2 ⟨x, hx, rfl⟩)
      simp only [Pg.okChange, Pg.isChange, Bool.and_eq_true, Bool.or_eq_true, decide_eq_true_eq, len_size] at this
      have hky := Pg.isKey_le this.1.1
      omega
set_option maxHeartbeats 400000 in
theorem write_any (v : Value) (kd : Int) (il : List (ByteArray × ByteArray)) (cl : List Int) (pl : List ByteArray) (ml : List (Int × ByteArray × ByteArray)) (w : World) (h : IsNode w v kd il cl pl ml) :
    Calls Tryz.prog 98 #[v] w fun r w' => r = .returned (.tuple #[.string ⟨(Pg.write kd (plain il) cl (lists pl) (plainCh ml)).1.toArray⟩, .int .i64 (Pg.write kd (plain il) cl (lists pl) (plainCh ml)).2]) ∧ Below w.heap.size w w' := by
  have HN := hid h
  clear h
  obtain ⟨v1, v2, v3, v4, rfl, -⟩ := id HN.out
  have HB0 := hid ((Below.refl w.heap.size w).alloc (Nat.le_refl _) (.cells #[.int .i64 kd, v1, v2, v3, v4] 79))
  have HV0 : Hid ((w.alloc (.cells #[.int .i64 kd, v1, v2, v3, v4] 79)).heap[w.heap.size]? = some (.cells #[.int .i64 kd, v1, v2, v3, v4] 79 (0, 0))) := heap_alloc_new _ _
  go_enter Tryz.func98, Tryz.ntmps98
  go_wp2_with fail
  refine (well_any _ kd il cl pl ml _ (HN.out.below HB0.out)).mono ?_
  rintro r w1 ⟨rfl, hb1⟩
  have HB1 := hid (HB0.out.trans (hb1.mono (by simp)))
  have hsz1 := HB1.out.size
  obtain ⟨d0, d1, d2, d3, d4⟩ := node_cells ((hb1.block _ (Array.getElem?_eq_some_iff.1 HV0.out).1).trans HV0.out)
  clear hb1
  cases hw : Pg.well kd (plain il) cl (lists pl) (plainCh ml)
  · have HE : Hid (Pg.write kd (plain il) cl (lists pl) (plainCh ml) = ([], 1)) := by show _ = _; unfold Pg.write; rw [hw]; rfl
    clear hw
    go_wp2_with fail
    go_ret2
    exact ⟨by rw [HE.out]; rfl, HB1.out⟩
  · have HE : Hid (Pg.write kd (plain il) cl (lists pl) (plainCh ml) = (Pg.page kd (plain il) cl (lists pl) (plainCh ml), 0)) := by show _ = _; unfold Pg.write; rw [hw]; rfl
    have HW := hid hw
    clear hw
    go_wp2_with fail
    refine (page_any _ kd il cl pl ml _ (HN.out.below HB1.out) HW.out).mono ?_
    rintro r w2 ⟨rfl, hb2⟩
    have HB2 := hid (HB1.out.trans (hb2.mono hsz1))
    clear hb2
    go_wp2_with fail
    go_ret2
    exact ⟨by rw [HE.out]; rfl, HB2.out⟩
end Go.Proofs.YtolgpnaoaodepaaGreat
/- The walk of the cursor's changes. -/
namespace Go.Proofs.YtolgpnaoaodepaaGreat
open Go.RowKit
set_option maxHeartbeats 1000000 in
set_option maxRecDepth 100000 in
theorem changesR_any (b : Nat) (c : Pg.Cur) (w : World) (hc : Curs w b c) :
    Calls Tryz.prog 213 #[.pointer (some ⟨b, 0, none⟩)] w fun r w' => ChEnd w b c r w' := by
  have hbw : b < w.heap.size := by obtain ⟨s, a, h, _⟩ := hc; exact h.lt
  have HC := hid hc
  clear hc
  go_enter Tryz.func213, Tryz.ntmps213
  go_wp2_with fail
  refine (take_any b 1 c _ HC.out (by omega)).mono ?_
  rintro r w1 ⟨rfl, hc1, hb1⟩
  have HC1 := hid hc1
  have HB1 := hid hb1
  have hsz1 := hb1.size
  clear hc1 hb1
  go_wp2_with fail
  refine (high_any _ _ (by rw [byte_any]; omega)).mono ?_
  rintro r w2 ⟨rfl, rfl⟩
  rw [show Pg.high (⟨(c.take 1).1.toArray⟩ : ByteArray).data.toList = c.byte from rfl]
  have hn := Pg.byte_lt c
  generalize hn0 : c.byte = n at *
  generalize hn1 : (c.take 1).2 = c1 at *
  have HN0 := hid hn0
  have HN1 := hid hn1
  clear hn0 hn1
  go_wp2_with fail
  go_loopw [3, 5] (fun l i wr => ∃ (k : Nat) (ml : List (Int × ByteArray × ByteArray)) (ck : Pg.Cur), k ≤ n ∧ i = .int .i64 k ∧ ml.length = k ∧ OwnsC w.heap.size wr l ml ∧ Curs wr b ck ∧ But b w wr ∧ plainCh ml ++ (Pg.rdChanges (n - k) ck).1 = (Pg.rdChanges n c1).1 ∧ (Pg.rdChanges (n - k) ck).2 = (Pg.rdChanges n c1).2) (fun _ i _ => n - (intOf i).toNat)
  case atStart => exact ⟨0, [], c1, Nat.zero_le _, rfl, rfl, World.ownsRow_nil _ _ _ _, HC1.out, HB1.out, rfl, rfl⟩
  case round =>
    clear HC1 HB1 hsz1
    obtain ⟨k, ml, ck, hk, rfl, hml, hown, hcur, hbut, heq1, heq2⟩ := hrel
    have HOWN := hid hown
    have HCU := hid hcur
    have HBU := hid hbut
    have HE1 := hid heq1
    have HE2 := hid heq2
    have hszr := hbut.size
    have HML := hid hml
    obtain ⟨s, at_, hca, -, -, -⟩ := id HCU.out
    obtain ⟨d0, d1, d2, -, -⟩ := hca.cells
    obtain ⟨la, lc, rfl⟩ := rowShape hown
    clear hown
    clear hcur hbut heq1 heq2 hml hca
    by_cases hkn : k < n
    · cases hbad : ck.bad
      · rw [hbad] at d2
        obtain ⟨m, hm⟩ : ∃ m, n - k = m + 1 := ⟨n - k - 1, by omega⟩
        have HMK : Hid (m = n - (k + 1)) := by show _ = _; omega
        rw [hm, Pg.rdChanges, if_neg (by rw [hbad]; decide)] at HE1 HE2
        clear hm
        go_wp2_with fail
        refine (take_any b 1 ck _ HCU.out (by omega)).mono ?_
        rintro r w3 ⟨rfl, hc3, hb3⟩
        have HC3 := hid hc3
        have HB3 := hid (but_trans HBU.out hb3)
        have HO3 := hid (HOWN.out.but hb3 hbw)
        have hsz3 := HB3.out.size
        clear hc3 hb3 d0 d1 d2
        go_wp2_with fail
        refine (high_any _ _ (by rw [byte_any]; omega)).mono ?_
        rintro r w4 ⟨rfl, rfl⟩
        rw [show Pg.high (⟨(ck.take 1).1.toArray⟩ : ByteArray).data.toList = ck.byte from rfl]
        have hkb := Pg.byte_lt ck
        go_wp2_with fail
        have HM4 := hid (mid_new (kd := (ck.byte : Int)) hbw HC3.out HO3.out HB3.out)
        refine (text_c b 12 _ _ HM4.out.cur (by omega)).mono ?_
        rintro r w5 ⟨rfl, hc5, hb5⟩
        have HM5 := hid (HM4.out.step hc5 hb5)
        clear hc5 hb5 HM4 HC3 HO3 HB3
        obtain ⟨d0, d1, d2, d3, d4, hx5⟩ := HM5.out.cells
        generalize hxb : w4.heap.size = xb at *
        clear hxb
        have hkl := Pg.text_short (ck.take 1).2 12 (by omega)
        by_cases hc2 : ck.byte = 2
        · have HRD : Hid (Pg.rdChange ck = (((ck.byte : Int), ((ck.take 1).2.text 12).1, []), ((ck.take 1).2.text 12).2)) := by
            show _ = _; unfold Pg.rdChange; rw [if_pos hc2]
          have hne : ((ck.byte : Int) == 2) = true := by simp; omega
          clear hc2
          generalize ((ck.take 1).2.text 12).1 = key at *
          generalize ((ck.take 1).2.text 12).2 = c5 at *
          have HM6 := hid (HM5.out.set (key' := ⟨key.toArray⟩) (val' := ⟨#[]⟩) 1 (.string ⟨key.toArray⟩) rfl)
          go_wp2_with (first
            | (at_builtin; refine wpApG (w5.setCell ⟨xb, 1, none⟩ (.string ⟨key.toArray⟩)) rfl (.tmp 35) (.tmp 37) 77 34 Tryz.underlying77 _ 3 40 info_change rfl (by decide) (by decide) rfl w.heap.size (.slice la ml.length lc) ml.length (ccells ml) rfl HM6.out.own [.int .i64 (ck.byte : Int), .string ⟨key.toArray⟩, .string ⟨#[]⟩] rfl (one3 _ _ _) (by rw [setSize]; rfl) (by rw [HML.out]; omega) HM6.out.but.size ?_))
          intro v' w' ho' hg hat
          obtain ⟨hcz, hbz⟩ := HM6.out.ap hg
          have HOZ : Hid (OwnsC w.heap.size w' v' (ml ++ [((ck.byte : Int), ⟨key.toArray⟩, ⟨#[]⟩)])) := by
            show OwnsC _ _ _ _; unfold OwnsC; rw [List.length_append, ccells_snoc]; exact ho'
          have HCZ := hid hcz
          have HBZ := hid hbz
          obtain ⟨la', lc', rfl⟩ := rowShape ho'
          clear ho' hg hat hcz hbz d0 d1 d2 d3 d4 hx5
          go_wp2_with fail
          go_roundw
          case rel => exact ⟨k + 1, _, c5, by omega, by go_num, by rw [List.length_append, HML.out]; rfl, HOZ.out, HCZ.out, HBZ.out, by rw [← HMK.out, ← HE1.out, HRD.out, plainCh_snoc]; simp, by rw [← HMK.out, ← HE2.out, HRD.out]⟩
          case measure => simp [intOf]; omega
        · have HRD : Hid (Pg.rdChange ck = (((ck.byte : Int), ((ck.take 1).2.text 12).1, (((ck.take 1).2.text 12).2.text 16).1), (((ck.take 1).2.text 12).2.text 16).2)) := by
            show _ = _; unfold Pg.rdChange; rw [if_neg hc2]
          have hne : ((ck.byte : Int) == 2) = false := by simp; omega
          clear hc2
          generalize ((ck.take 1).2.text 12).1 = key at *
          generalize ((ck.take 1).2.text 12).2 = c5 at *
          have HM6 := hid (HM5.out.set (key' := ⟨key.toArray⟩) (val' := ⟨#[]⟩) 1 (.string ⟨key.toArray⟩) rfl)
          go_wp2_with fail
          refine (text_c b 16 _ _ HM6.out.cur (by omega)).mono ?_
          rintro r w6 ⟨rfl, hc7, hb7⟩
          have HM7 := hid (HM6.out.step hc7 hb7)
          clear hc7 hb7 HM6 HM5 d0 d1 d2 d3 d4 hx5
          obtain ⟨d0, d1, d2, d3, d4, hx5⟩ := HM7.out.cells
          have hvl := Pg.text_short c5 16 (by omega)
          generalize (c5.text 16).1 = val at *
          generalize (c5.text 16).2 = c7 at *
          have HM8 := hid (HM7.out.set (key' := ⟨key.toArray⟩) (val' := ⟨val.toArray⟩) 2 (.string ⟨val.toArray⟩) rfl)
          go_wp2_with (first
            | (at_builtin; refine wpApG (w6.setCell ⟨xb, 2, none⟩ (.string ⟨val.toArray⟩)) rfl (.tmp 35) (.tmp 37) 77 34 Tryz.underlying77 _ 3 40 info_change rfl (by decide) (by decide) rfl w.heap.size (.slice la ml.length lc) ml.length (ccells ml) rfl HM8.out.own [.int .i64 (ck.byte : Int), .string ⟨key.toArray⟩, .string ⟨val.toArray⟩] rfl (one3 _ _ _) (by rw [setSize]; rfl) (by rw [HML.out]; omega) HM8.out.but.size ?_))
          intro v' w' ho' hg hat
          obtain ⟨hcz, hbz⟩ := HM8.out.ap hg
          have HOZ : Hid (OwnsC w.heap.size w' v' (ml ++ [((ck.byte : Int), ⟨key.toArray⟩, ⟨val.toArray⟩)])) := by
            show OwnsC _ _ _ _; unfold OwnsC; rw [List.length_append, ccells_snoc]; exact ho'
          have HCZ := hid hcz
          have HBZ := hid hbz
          obtain ⟨la', lc', rfl⟩ := rowShape ho'
          clear ho' hg hat hcz hbz d0 d1 d2 d3 d4 hx5
          go_wp2_with fail
          go_roundw
          case rel => exact ⟨k + 1, _, c7, by omega, by go_num, by rw [List.length_append, HML.out]; rfl, HOZ.out, HCZ.out, HBZ.out, by rw [← HMK.out, ← HE1.out, HRD.out, plainCh_snoc]; simp, by rw [← HMK.out, ← HE2.out, HRD.out]⟩
          case measure => simp [intOf]; omega
      · rw [hbad] at d2
        have HS1 : Hid (Pg.rdChanges (n - k) ck = ([], ck)) := by
          show _ = _; rw [show n - k = (n - k - 1) + 1 by omega, Pg.rdChanges, if_pos hbad]
        rw [HS1.out] at HE1 HE2
        go_wp2_with fail
        go_ret
        exact ⟨_, ml, rfl, by rw [HN0.out, HN1.out, ← HE1.out]; simp, by rw [HML.out]; omega, HOWN.out, by rw [HN0.out, HN1.out, ← HE2.out]; exact HCU.out, HBU.out⟩
    · have HS1 : Hid (Pg.rdChanges (n - k) ck = ([], ck)) := by
        show _ = _; rw [show n - k = 0 by omega]; rfl
      rw [HS1.out] at HE1 HE2
      go_wp2_with fail
      go_ret
      exact ⟨_, ml, rfl, by rw [HN0.out, HN1.out, ← HE1.out]; simp, by rw [HML.out]; omega, HOWN.out, by rw [HN0.out, HN1.out, ← HE2.out]; exact HCU.out, HBU.out⟩
end Go.Proofs.YtolgpnaoaodepaaGreat
