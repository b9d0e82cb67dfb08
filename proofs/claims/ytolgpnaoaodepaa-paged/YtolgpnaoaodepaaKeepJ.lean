/- The walk of siltkeep's node. -/
import Derived.Test.YtolgpnaoaodepaaKeepGm
namespace Go.Proofs.Ytolgpnaoaodepaa
open Go.RowKit

/-- What siltkeep's node ends in: a node that may be. -/
def NodeK (w : World) (r : Ending) (w' : World) : Prop := ∃ n : Pr.NodeT, Pr.wellT n = true ∧ NodeQ w (some n) r w'
theorem well_leafT {il : List (ByteArray × ByteArray)} (hf : Pr.Fine (plain il)) (h16 : il.length ≤ 16) : Pr.wellT (1, plain il, [], lists [], plainCh []) = true := by
  unfold Pr.wellT Pg.well
  rw [if_pos rfl, (Pr.ok_fine _).2 hf]
  simp [plain, lists, plainCh, h16]
theorem well_branch {il : List (ByteArray × ByteArray)} {cl : List Nat} {ml : List (Int × ByteArray × ByteArray)} (j : Nat) (hf : Pr.Fine (plain il)) (hj : j ≤ il.length) (hj3 : j ≤ 3) (hcl : cl.length = j + 1) (hc : ∀ c ∈ cl, c ≤ 2147483647) (hm : ∀ c ∈ plainCh ml, Pg.okChange c = true) (hml : ml.length ≤ 8) : Pr.wellT (2, plain [], cl, lists ((il.take j).map Prod.fst), plainCh ml) = true := by
  have h1 : Pg.okPivots (lists ((il.take j).map Prod.fst)) none = true := by
    rw [Pr.okPivots_iff]
    have hs : (plain (il.take j)).Sublist (plain il) := by unfold plain; exact (List.take_sublist _ _).map _
    have hF := hf.sub hs
    have e : lists ((il.take j).map Prod.fst) = (plain (il.take j)).map Prod.fst := by unfold lists plain; rw [List.map_map, List.map_map]; rfl
    rw [e]
    refine ⟨⟨fun x hx => ?_, ?_⟩, fun x _ => by simp [Pg.rises]⟩
    · obtain ⟨y, hy, rfl⟩ := List.mem_map.1 hx
      exact (hF.1 y hy).1
    · rw [List.pairwise_map]; exact hF.2
  have h2 : (cl.map Int.ofNat).all Pg.okChild = true := by
    rw [List.all_eq_true]
    intro x hx
    obtain ⟨y, hy, rfl⟩ := List.mem_map.1 hx
    have := hc y hy
    simp [Pg.okChild]; omega
  have h3 : (plainCh ml).all Pg.okChange = true := List.all_eq_true.2 hm
  unfold Pr.wellT Pg.well
  rw [if_neg (by simp), h1, h2, h3]
  simp [plain, lists, plainCh, hcl, hml]
  omega

theorem brn_new (w : World) (c0 : Nat) : BrN w ((w.alloc (.cells #[.int .i64 (c0 : Int)] 3)).alloc (.cells #[.int .i64 2, .slice none 0 0, .slice (some ⟨w.heap.size, 0, none⟩) 1 1, .slice none 0 0, .slice none 0 0] 34)) [c0] [] [] (.slice (some ⟨w.heap.size, 0, none⟩) 1 1) (.slice none 0 0) (.slice none 0 0) := by
  have h1 := nodeB_new (w.alloc (.cells #[.int .i64 (c0 : Int)] 3)) (.int .i64 2) (.slice none 0 0) (.slice (some ⟨w.heap.size, 0, none⟩) 1 1) (.slice none 0 0) (.slice none 0 0)
  have e : (w.alloc (.cells #[.int .i64 (c0 : Int)] 3)).heap.size = w.heap.size + 1 := by simp
  rw [e] at h1
  have ho : (w.alloc (.cells #[.int .i64 (c0 : Int)] 3)).ownsRow w.heap.size 3 1 (.slice (some ⟨w.heap.size, 0, none⟩) 1 1) 1 (ncells [c0]) := World.ownsRow_lit (base := w.heap.size) (e := 3) (size := 1) w #[.int .i64 (c0 : Int)] 1 (Nat.le_refl _) (by unfold maxLen; omega) rfl
  have BA := (Below.refl (w.alloc (.cells #[.int .i64 (c0 : Int)] 3)).heap.size (w.alloc (.cells #[.int .i64 (c0 : Int)] 3))).alloc (Nat.le_refl _) (.cells #[.int .i64 2, .slice none 0 0, .slice (some ⟨w.heap.size, 0, none⟩) 1 1, .slice none 0 0, .slice none 0 0] 34)
  exact ⟨h1, row_below ho BA (Nat.le_refl _), World.ownsRow_nil _ _ _ _, World.ownsRow_nil _ _ _ _, fun k _ => by simp [Value.ownBlock], fun k _ => by simp [Value.ownBlock], fun k _ => by simp [Value.ownBlock], by simp [Value.ownBlock], by simp [Value.ownBlock], by simp [Value.ownBlock], ((Below.refl w.heap.size w).alloc (Nat.le_refl _) _).trans (BA.mono (by simp)), by simp⟩
theorem BrN.nodeV {ws wr : World} {cl : List Nat} {pl : List ByteArray} {ml : List (Int × ByteArray × ByteArray)} {vc vp vm : Value} (h : BrN ws wr cl pl ml vc vp vm) (h1 : cl.length ≤ 4) (h2 : pl.length ≤ 3) (h3 : ml.length ≤ 8) : NodeV ws.heap.size wr (.agg #[.int .i64 2, .slice none 0 0, vc, vp, vm]) 2 [] cl pl ml :=
  ⟨_, _, _, _, rfl, World.ownsRow_nil _ _ _ _, h.kids, h.pivs, h.chgs, by simp, by omega, by omega, by omega⟩

theorem raw_int (v : Value) (l : List Int) (i : Int) (w : World) (hv : IsInts w v l) (h0 : 0 ≤ i) (hi : i ≤ 1000000) :
    Calls Try.prog 22 #[v, .int .i64 i] w fun r w' => (∃ x : Int, r = .returned (.int .i64 x) ∧ -9223372036854775808 ≤ x ∧ x ≤ 9223372036854775807) ∧ w' = w := by
  have := raw_any v l i.toNat w hv (by omega)
  rwa [show ((i.toNat : Nat) : Int) = i by omega] at this

set_option maxHeartbeats 4000000 in
set_option maxRecDepth 20000 in
theorem node_any (v : Value) (l : List Int) (w : World) (hv : IsInts w v l) :
    Calls Try.prog 10 #[v] w fun r w' => NodeK w r w' := by
  have HV := hid hv
  obtain ⟨va, vc, rfl, hl18, -, -⟩ := hv
  have HN0 := hid (nodeB_new w (.int .i64 0) (.slice none 0 0) (.slice none 0 0) (.slice none 0 0) (.slice none 0 0))
  have HB0 := hid ((Below.refl w.heap.size w).alloc (Nat.le_refl _) (.cells #[.int .i64 0, .slice none 0 0, .slice none 0 0, .slice none 0 0, .slice none 0 0] 34))
  have hs0 : w.heap.size < (w.alloc (.cells #[.int .i64 0, .slice none 0 0, .slice none 0 0, .slice none 0 0, .slice none 0 0] 34)).heap.size := by simp
  go_enter Try.func10, Try.ntmps10
  go_wp2_with fail
  generalize w.alloc (.cells #[.int .i64 0, .slice none 0 0, .slice none 0 0, .slice none 0 0, .slice none 0 0] 34) = w0 at *
  refine (leaf_any _ l w0 (HV.out.below HB0.out)).mono ?_
  rintro r w1 ⟨⟨il, iv, rfl, ho, h16, hf⟩, hb1⟩
  have HO := hid ho
  have HF := hid hf
  have HN1 := hid (HN0.out.keep hb1)
  have HB1 := hid (HB0.out.trans (hb1.mono (by omega)))
  have HV1 := hid (HV.out.below HB1.out)
  have hs1 := hb1.size
  obtain ⟨ia, ic, rfl⟩ := rowShape ho
  clear ho hf hb1 HN0 HB0
  have CR0 := hid (raw_any _ l 0 w1 HV1.out (by omega))
  rw [show ((0 : Nat) : Int) = 0 from rfl] at CR0
  go_wp2_with fail
  refine CR0.out.mono ?_
  rintro r w2 ⟨⟨x0, rfl, x1, x2⟩, rfl⟩
  have CP0 := hid (pick_any x0 3 w2 x1 x2 (by decide) (by decide))
  have hpk := pk_lt x0 3 (by decide)
  generalize pk x0 3 = p at *
  rw [show ((3 : Nat) : Int) = 3 from rfl] at CP0
  go_wp2_with fail
  refine CP0.out.mono ?_
  rintro r w3 ⟨rfl, rfl⟩
  clear CR0 CP0
  by_cases hp : 0 < p
  · have hp' : (0 : Int) < (p : Int) := by omega
    have HEND := hid (node_end (o := some (1, plain il, [], lists [], plainCh [])) HB1.out rfl (show NodeV w0.heap.size w3 (.agg #[.int .i64 1, .slice ia il.length ic, .slice none 0 0, .slice none 0 0, .slice none 0 0]) 1 il [] [] [] from ⟨_, _, _, _, rfl, HO.out, World.ownsRow_nil _ _ _ _, World.ownsRow_nil _ _ _ _, World.ownsRow_nil _ _ _ _, by omega, by simp, by simp, by simp⟩) hs0)
    have HNF := hid (HN1.out.put (.int .i64 1) (.slice ia il.length ic) (.slice none 0 0) (.slice none 0 0) (.slice none 0 0))
    obtain ⟨r0, r1, r2, r3, r4, y0, y1, y2, y3, y4⟩ := HN1.out.cells
    go_wp2_with fail
    refine bodyPost_ret (v := .agg #[.int .i64 1, .slice ia il.length ic, .slice none 0 0, .slice none 0 0, .slice none 0 0]) ?_ rfl ⟨_, well_leafT HF.out h16, HEND.out⟩
    obtain ⟨q0, q1, q2, q3, q4⟩ := nodeB_result HNF.out
    unfold put5 at q0 q1 q2 q3 q4
    simp [results, Try.results10, go_sem, q0, q1, q2, q3, q4]
  · have hp' : ¬ (0 : Int) < (p : Int) := by omega
    have CR1 := hid (raw_any _ l 1 w3 HV1.out (by omega))
    rw [show ((1 : Nat) : Int) = 1 from rfl] at CR1
    go_wp2_with fail
    refine CR1.out.mono ?_
    rintro r w4 ⟨⟨x3, rfl, x4, x5⟩, rfl⟩
    have CP1 := hid (pick_any x3 2147483647 w4 x4 x5 (by decide) (by decide))
    have hpk1 := pk_lt x3 2147483647 (by decide)
    generalize pk x3 2147483647 = c0 at *
    rw [show ((2147483647 : Nat) : Int) = 2147483647 from rfl] at CP1
    go_wp2_with fail
    refine CP1.out.mono ?_
    rintro r w5 ⟨rfl, rfl⟩
    have HBN := hid (brn_new w5 c0)
    clear CR1 CP1 hp hp' hpk
    go_wp2_with fail
    generalize (w5.alloc (.cells #[.int .i64 (c0 : Int)] 3)).alloc (.cells #[.int .i64 2, .slice none 0 0, .slice (some ⟨w5.heap.size, 0, none⟩) 1 1, .slice none 0 0, .slice none 0 0] 34) = w6 at *
    go_loopw [5] (fun i wr => ∃ (j : Nat) (cl : List Nat) (vc vp : Value), j ≤ il.length ∧ j ≤ 3 ∧ i = .int .i64 j ∧ cl.length = j + 1 ∧ (∀ c ∈ cl, c ≤ 2147483647) ∧ BrN w5 wr cl ((il.take j).map Prod.fst) [] vc vp (.slice none 0 0)) (fun i _ => 3 - (intOf i).toNat)
    case atStart => exact ⟨0, [c0], _, _, Nat.zero_le _, Nat.zero_le _, rfl, rfl, fun c hc => by rw [List.mem_singleton.1 hc]; omega, HBN.out⟩
    case round =>
      obtain ⟨j, cl, vc, vp, hj, hj3, rfl, hcl, hcb, hbn⟩ := hrel
      have HBR := hid hbn
      have HCL := hid hcl
      have HCB := hid hcb
      have hclb : cl.length ≤ 4 := by omega
      obtain ⟨ca, cc, rfl⟩ := rowShape hbn.kids
      obtain ⟨pa, pc, rfl⟩ := rowShape hbn.pivs
      have hpl : ((il.take j).map Prod.fst).length ≤ 3 := by rw [List.length_map, List.length_take]; omega
      clear hbn hcl hcb
      by_cases hgo : j < il.length ∧ j < 3
      · obtain ⟨hjl, hjt⟩ := hgo
        have HSN : Hid ((il.take (j + 1)).map Prod.fst = (il.take j).map Prod.fst ++ [(il[j]'hjl).1]) := by show _ = _; rw [List.take_add_one, List.getElem?_eq_getElem hjl, List.map_append]; rfl
        obtain ⟨g, cap, hge, hgc, hgb, hgw, hia⟩ := HO.out.isItems.resolve_left (by rintro ⟨_, _, _, rfl⟩; simp at hjl)
        injection hge with q1 q2 q3
        subst q1 q3
        obtain ⟨k0, -⟩ := hia j hjl
        simp only [Nat.zero_add] at k0
        clear hia
        generalize (il[j]'hjl).1 = kb at *
        generalize hpe : (il.take j).map Prod.fst = pl at *
        clear hpe
        obtain ⟨m0, m1, m2, m3, m4, z0, z1, z2, z3, z4⟩ := HBR.out.var.cells
        have kr := (HBR.out.bel.cell (p := ⟨g, j * 2, none⟩) hgw).trans k0
        have H8 := hid (HBR.out.below (((Below.refl _ wr).alloc (Nat.le_refl _) (.cells #[.string kb] 9)).drew))
        have HCE : Hid (((wr.alloc (.cells #[.string kb] 9)).drew).cell? ⟨wr.heap.size, 0, none⟩ = some (.string kb)) := cell_new wr _ _
        obtain ⟨-, -, -, m3a, -, -, -, -, z3a, -⟩ := H8.out.var.cells
        have hlt8 := H8.out.lt
        have hi1 : (0 : Int) ≤ (j : Int) := by omega
        have hi2 : (j : Int) < (il.length : Int) := by omega
        have hi3 : (j : Int) < 3 := by omega
        go_wp2_with fail
        go_cut [] (fun wx => ∃ vp', BrN w5 wx cl (pl ++ [kb]) [] (.slice ca cl.length cc) vp' (.slice none 0 0))
        case first =>
          go_region_law (refine stepApT _ (by rfl) (.tmp 31) (.tmp 37) (by rfl) w5.heap.size (.slice pa pl.length pc) pl (by simp [Act.eval]) H8.out.pivs kb wr.heap.size (by simp [Act.eval]) HCE.out (by omega) (by omega) ?_; intro v9 w9 ho9 hg9 hat9; obtain ⟨a9, c9, rfl⟩ := ho9.shape; generalize hl9 : (pl ++ [kb]).length = l9 at *; clear hl9; have HA := hid (H8.out.apP ho9 hg9 hat9); obtain ⟨d0, d1, d2, d3, d4, y0, y1, y2, y3, y4⟩ := HA.out.1.cells; clear ho9 hg9 hat9)
          all_goals
            go_wp2_with fail
            go_meet
            exact ⟨_, HA.out.2⟩
        case rest =>
          obtain ⟨vp', hbn⟩ := hcut
          have HC := hid hbn
          obtain ⟨pa', pc', rfl⟩ := rowShape hbn.pivs
          clear hbn H8 HCE m0 m1 m2 m3 m4 z0 z1 z2 z3 z4 m3a z3a hlt8 k0 kr HBR
          have CR2 := hid (raw_any _ l (j + 2) (World.drew wc) (HV1.out.below (HC.out.bel.drew)) (by omega))
          rw [show ((j + 2 : Nat) : Int) = (j : Int) + 2 by omega] at CR2
          obtain ⟨m0, m1, m2, m3, m4, z0, z1, z2, z3, z4⟩ := HC.out.var.cells
          generalize hl9 : (pl ++ [kb]).length = l9 at *
          have hw2 : IntKind.i64.wrap ((j : Int) + 2) = (j : Int) + 2 := IntWalk.i64_in _ ⟨by omega, by omega⟩
          go_wp2_with fail
          go_region_law (first
            | (refine stepApN _ (by rfl) (.tmp 41) (.tmp 47) (by rfl) w5.heap.size (.slice ca cl.length cc) cl (by simp [Act.eval]) H9.out.kids n wc.heap.size (by simp [Act.eval]) HCE9.out (by omega) (by omega) ?_
               intro v9 w9 ho9 hg9 hat9
               obtain ⟨a9, c9, rfl⟩ := rowShape ho9
               have HA := hid (H9.out.apC ho9 hg9 hat9)
               obtain ⟨d0, d1, d2, d3, d4, y0, y1, y2, y3, y4⟩ := HA.out.1.cells
               clear ho9 hg9 hat9)
            | (go_simp
               go_at_call 22
               refine CR2.out.mono ?_
               rintro r w7 ⟨⟨x6, rfl, x7, x8⟩, rfl⟩)
            | (go_simp
               go_at_call 7
               refine (pick_any x6 1000 (World.drew wc) x7 x8 (by decide) (by decide)).mono ?_
               have hpk2 := pk_lt x6 1000 (by decide)
               generalize pk x6 1000 = n at *
               rintro r w8 ⟨rfl, rfl⟩
               have H9 := hid (HC.out.below (((Below.refl _ wc).alloc (Nat.le_refl _) (.cells #[.int .i64 (n : Int)] 3)).drew))
               have HCE9 : Hid (((wc.alloc (.cells #[.int .i64 (n : Int)] 3)).drew).cell? ⟨wc.heap.size, 0, none⟩ = some (.int .i64 (n : Int))) := by show (wc.alloc _).cell? _ = _; simp
               obtain ⟨-, -, m2a, -, -, -, -, z2a, -, -⟩ := H9.out.var.cells
               have hlt9 := H9.out.lt))
          all_goals
            have HCN : Hid ((cl ++ [n]).length = (j + 1) + 1) := by show _ = _; rw [List.length_append, HCL.out]; rfl
            have HBN2 := hid HA.out.2
            rw [← HSN.out] at HBN2
            clear HSN HA
            go_wp2_with fail
            go_roundw
            case rel =>
              refine ⟨j + 1, cl ++ [n], _, _, by omega, by omega, by go_num, HCN.out, fun c hc => ?_, HBN2.out⟩
              rcases List.mem_append.1 hc with h | h
              · exact HCB.out c h
              · rw [List.mem_singleton.1 h]; omega
            case measure => simp [intOf]; omega
      · have HCB2 := hid HCB.out
        have hpl2 : ((il.take j).map Prod.fst).length ≤ 3 := hpl
        have HWB : Hid (∀ ml : List (Int × ByteArray × ByteArray), (∀ c ∈ plainCh ml, Pg.okChange c = true) → ml.length ≤ 8 → Pr.wellT (2, plain [], cl, lists ((il.take j).map Prod.fst), plainCh ml) = true) := fun ml h1 h2 => well_branch j HF.out hj hj3 HCL.out HCB.out h1 h2
        generalize hpe : (il.take j).map Prod.fst = pl at *
        clear hpe
        have hsp : (¬ (j : Int) < (il.length : Int)) ∨ ((j : Int) < (il.length : Int) ∧ ¬ (j : Int) < 3) := by omega
        clear hgo
        go_upto_region 6 with fail
        go_cut [27] (fun c wx => c = .bool false ∧ wx = wr)
        case first =>
          rcases hsp with hx | ⟨hx, hy⟩
          all_goals
            go_wp2_with fail
            go_meet
            exact ⟨rfl, rfl⟩
        case rest =>
          obtain ⟨rfl, rfl⟩ := hcut
          clear hsp
          go_wp2_with fail
          go_loopw [6] (fun i wr => ∃ (k : Nat) (ml : List (Int × ByteArray × ByteArray)) (vm : Value), k ≤ 8 ∧ i = .int .i64 k ∧ ml.length = k ∧ (∀ c ∈ plainCh ml, Pg.okChange c = true) ∧ BrN w5 wr cl pl ml (.slice ca cl.length cc) (.slice pa pl.length pc) vm) (fun i _ => 8 - (intOf i).toNat)
          case atStart => exact ⟨0, [], _, Nat.zero_le _, rfl, rfl, by simp [plainCh], HBR.out⟩
          case round =>
            obtain ⟨k, ml, vm, hk8, rfl, hml, hok, hbn⟩ := hrel
            have HMR := hid hbn
            have HML := hid hml
            have HOK := hid hok
            have hmb : ml.length ≤ 8 := by omega
            obtain ⟨ma, mc, rfl⟩ := rowShape hbn.chgs
            obtain ⟨m0, m1, m2, m3, m4, z0, z1, z2, z3, z4⟩ := hbn.var.cells
            clear hbn hml hok
            by_cases hgo : k < 8 ∧ k < l.length
            · obtain ⟨hk1, hk2⟩ := hgo
              have HVR := hid (HV1.out.below HMR.out.bel.drew)
              obtain ⟨b, off, rfl, hbl, c0', xa, xb⟩ := HV1.out.at k hk2
              generalize l[k]'hk2 = x at *
              have cr := (HMR.out.bel.cell (p := ⟨b, off + k, none⟩) hbl).trans c0'
              have hi1 : (0 : Int) ≤ (k : Int) := by omega
              have hi2 : (k : Int) < (l.length : Int) := by omega
              have hi3 : (k : Int) < 8 := by omega
              have hw1 : IntKind.i64.wrap ((k : Int) + 1) = (k : Int) + 1 := IntWalk.i64_in _ ⟨by omega, by omega⟩
              have hw2 : IntKind.i64.wrap ((k : Int) + 2) = (k : Int) + 2 := IntWalk.i64_in _ ⟨by omega, by omega⟩
              go_wp2_with fail
              go_region_law (first
                | (refine stepApC _ (by rfl) (.tmp 61) (.tmp 75) (by rfl) w5.heap.size (.slice ma ml.length mc) ml (by simp [Act.eval]) H9.out.chgs (ck, cs, cv) w8.heap.size (by simp [Act.eval]) HCE9.out (by omega) (by omega) ?_
                   intro v9 w9 ho9 hg9 hat9
                   obtain ⟨a9, c9, rfl⟩ := rowShape ho9
                   generalize hl9 : (ml ++ [(ck, cs, cv)]).length = l9 at *
                   have HA := hid (H9.out.apM ho9 hg9 hat9)
                   obtain ⟨d0, d1, d2, d3, d4, y0, y1, y2, y3, y4⟩ := HA.out.1.cells
                   clear ho9 hg9 hat9 hl9)
                | (go_simp
                   go_at_call 22
                   refine (raw_int _ l _ _ HVR.out (by omega) (by omega)).mono ?_
                   rintro r w7 ⟨⟨x6, rfl, x7, x8⟩, rfl⟩)
                | (go_simp
                   go_at_call 23
                   refine (change_any _ _ _ _ xa xb (by assumption) (by assumption) (by assumption) (by assumption)).mono ?_
                   rintro r w8 ⟨⟨ck, cs, cv, rfl, hck⟩, hb8⟩
                   have hb8' := below_drew hb8
                   have H9 := hid ((HMR.out.below hb8').below ((Below.refl _ w8).alloc (Nat.le_refl _) (.cells #[.int .i64 ck, .string cs, .string cv] 52)))
                   have HCE9 : Hid ((w8.alloc (.cells #[.int .i64 ck, .string cs, .string cv] 52)).heap[w8.heap.size]? = some (.cells #[.int .i64 ck, .string cs, .string cv] 52 (0, 0))) := heap_alloc_new _ _
                   have HCK := hid hck
                   obtain ⟨g0, g1, g2, g3, g4, f0, f1, f2, f3, f4⟩ := (HMR.out.below hb8').var.cells
                   obtain ⟨-, -, -, -, m4a, -, -, -, -, z4a⟩ := H9.out.var.cells
                   have hlt9 := H9.out.lt
                   clear hb8 hb8' hck))
              all_goals
                have HBN2 := hid HA.out.2
                clear HA
                have HL2 : Hid ((ml ++ [(ck, cs, cv)]).length = k + 1) := by show _ = _; rw [List.length_append, HML.out]; rfl
                have HO2 : Hid (∀ c ∈ plainCh (ml ++ [(ck, cs, cv)]), Pg.okChange c = true) := fun c hc => by
                  unfold plainCh at hc
                  rw [List.map_append] at hc
                  rcases List.mem_append.1 hc with h | h
                  · exact HOK.out c h
                  · rw [List.mem_singleton.1 h]; exact HCK.out
                go_wp2_with fail
                go_roundw
                case rel => exact ⟨k + 1, ml ++ [(ck, cs, cv)], _, by omega, by go_num, HL2.out, HO2.out, HBN2.out⟩
                case measure => simp [intOf]; omega
            · have hsp2 : (¬ (k : Int) < 8) ∨ ((k : Int) < 8 ∧ ¬ (k : Int) < (l.length : Int)) := by omega
              have HNR := hid (HN1.out.below HMR.out.bel HN1.out.lt)
              have HEND := hid (node_end (o := some (2, plain [], cl, lists pl, plainCh ml)) (HB1.out.trans (HMR.out.bel.mono HB1.out.size)) rfl (HMR.out.nodeV hclb hpl2 hmb) HN1.out.lt)
              have HNF := hid (HNR.out.put (.int .i64 2) (.slice none 0 0) (.slice ca cl.length cc) (.slice pa pl.length pc) (.slice ma ml.length mc))
              obtain ⟨r0, r1, r2, r3, r4, y0, y1, y2, y3, y4⟩ := HNR.out.cells
              have HWW := hid (HWB.out ml HOK.out hmb)
              clear hgo HWB HOK HCB HCB2
              rcases hsp2 with hx | ⟨hx, hy⟩
              all_goals
                go_wp2_with fail
                refine bodyPost_ret (v := .agg #[.int .i64 2, .slice none 0 0, .slice ca cl.length cc, .slice pa pl.length pc, .slice ma ml.length mc]) ?_ rfl ⟨_, HWW.out, HEND.out⟩
                obtain ⟨q0, q1, q2, q3, q4⟩ := nodeB_result HNF.out
                unfold put5 at q0 q1 q2 q3 q4
                simp [results, Try.results10, go_sem, q0, q1, q2, q3, q4]
end Go.Proofs.Ytolgpnaoaodepaa
