/- The walk of siltkeep's Told. -/
import Derived.Test.YtolgpnaoaodepaaKeepT
import Derived.Test.YtolgpnaoaodepaaMathQ
import Derived.Test.YtolgpnaoaodepaaWalkAK
namespace Go.Proofs.Ytolgpnaoaodepaa
open Go.RowKit

theorem write_leaf {il : List (ByteArray × ByteArray)} (hf : Pr.Fine (plain il)) (h16 : il.length ≤ 16) : Pg.write 1 (plain il) [] [] [] = (Pg.leaf (plain il), 0) := by
  have hw : Pg.well 1 (plain il) [] [] [] = true := by
    unfold Pg.well
    rw [if_pos rfl]
    simp only [Bool.and_eq_true, decide_eq_true_eq]
    exact ⟨⟨⟨⟨(Pr.ok_fine _).2 hf, by simpa [plain] using h16⟩, rfl⟩, rfl⟩, rfl⟩
  unfold Pg.write
  rw [if_pos hw]; rfl
theorem leaf_node {B : Nat} {w : World} {v : Value} {il : List (ByteArray × ByteArray)} (h : OwnsI B w v il) (h16 : il.length ≤ 16) : IsNode w (.agg #[.int .i64 1, v, .slice none 0 0, .slice none 0 0, .slice none 0 0]) 1 il [] [] [] :=
  ⟨_, _, _, _, rfl, ownsI_items h, by omega, ⟨none, 0, rfl, by simp, .inl rfl⟩, ⟨none, 0, rfl, by simp, .inl rfl⟩, ⟨none, 0, rfl, by simp, .inl rfl⟩⟩

theorem w64 (x : Int) (h : -9223372036854775808 ≤ x) (h2 : x ≤ 9223372036854775807) : wrap64 x = x := by unfold wrap64; omega
theorem end_is (u a b n : Nat) (hu : u ≤ 1000000) (ha : a < 256) (hb : b < 256) (h : u + (a + 256 * b) = n) : wrap64 (wrap64 ((u : Int) + wrap64 (a : Int)) + wrap64 (256 * wrap64 (b : Int))) = (n : Int) := by
  rw [w64 (a : Int) (by omega) (by omega), w64 (b : Int) (by omega) (by omega), w64 ((u : Int) + a) (by omega) (by omega), w64 (256 * (b : Int)) (by omega) (by omega), w64 _ (by omega) (by omega)]
  omega
set_option maxHeartbeats 4000000 in
set_option maxRecDepth 20000 in
theorem told_any (v : Value) (l : List Int) (where_ from_ bits : Int) (w : World) (hv : IsInts w v l) (a1 : -9223372036854775808 ≤ where_) (a2 : where_ ≤ 9223372036854775807) (b1 : -9223372036854775808 ≤ from_) (b2 : from_ ≤ 9223372036854775807) :
    Calls Try.prog 5 #[v, .int .i64 where_, .int .i64 from_, .int .i64 bits] w fun r w' => r = .returned (.bool true) ∧ Below w.heap.size w w' := by
  have HV := hid hv
  obtain ⟨va, vc, rfl, hl18, -, -⟩ := hv
  go_enter Try.func5, Try.ntmps5
  go_wp2_with fail
  refine (head_any _).mono ?_
  rintro r w1 ⟨rfl, hb1⟩
  have HV1 := hid (HV.out.below hb1)
  have HB1 := hid hb1
  have hs1 := hb1.size
  clear hb1
  go_wp2_with fail
  refine (leaf_any _ l _ HV1.out).mono ?_
  rintro r w2 ⟨⟨il, v2, rfl, ho2, h16, hf2⟩, hb2⟩
  have BA := (Below.refl w2.heap.size w2).alloc (Nat.le_refl _)
  obtain ⟨ia, ic, rfl⟩ := rowShape ho2
  have hs2 := hb2.size
  have BN := (Below.refl w2.heap.size w2).alloc (Nat.le_refl _) (.cells #[.int .i64 1, .slice ia il.length ic, .slice none 0 0, .slice none 0 0, .slice none 0 0] 34)
  have HB3 := hid (HB1.out.trans ((hb2.trans (BN.mono hs2)).mono hs1))
  have HO3 : Hid (OwnsI w1.heap.size (w2.alloc (.cells #[.int .i64 1, .slice ia il.length ic, .slice none 0 0, .slice none 0 0, .slice none 0 0] 34)) (.slice ia il.length ic) il) := row_below ho2 BN (Nat.le_refl _)
  have HN3 := hid (nodeB_new w2 (.int .i64 1) (.slice ia il.length ic) (.slice none 0 0) (.slice none 0 0) (.slice none 0 0))
  have hs3 : w2.heap.size < (w2.alloc (.cells #[.int .i64 1, .slice ia il.length ic, .slice none 0 0, .slice none 0 0, .slice none 0 0] 34)).heap.size := by simp
  have HF := hid hf2
  have HW := hid (write_leaf hf2 h16)
  have hl68 : 68 ≤ (Pg.leaf (plain il)).length := by rw [Pr.leaf_len68 hf2 (by simpa [plain] using h16)]; omega
  clear BA BN hb2 ho2 hf2
  go_wp2_with fail
  generalize w2.alloc (.cells #[.int .i64 1, .slice ia il.length ic, .slice none 0 0, .slice none 0 0, .slice none 0 0] 34) = w3 at *
  generalize w2.heap.size = nb at *
  have HWR := hid (siltWrite_any _ 1 il [] [] [] w3 (leaf_node HO3.out h16))
  refine HWR.out.mono ?_
  rintro r w4 ⟨rfl, hb4⟩
  rw [show lists [] = [] from rfl, show plainCh [] = [] from rfl, HW.out]
  have HB4 := hid (HB3.out.trans (hb4.mono (by omega)))
  have HO4 : Hid (OwnsI w1.heap.size w4 (.slice ia il.length ic) il) := row_below HO3.out hb4 (Nat.le_refl _)
  have HN4 := hid (HN3.out.keep hb4)
  have hs4 := hb4.size
  have HPG : Hid (∃ pg, pg = Pg.leaf (plain il)) := ⟨_, rfl⟩
  have hgl : (Pg.leaf (plain il)).length ≤ 1000000 := Pr.leaf_small HF.out (by simpa [plain] using h16)
  generalize hpg : Pg.leaf (plain il) = pg at *
  have HPE := hid hpg
  have hzp := size_mk pg
  have h68 : 68 ≤ pg.length := by omega
  have hd68 : ¬ (pg.length : Int) < 68 := by omega
  clear hb4 HWR HPG hpg HB3 HO3 HN3
  obtain ⟨n0, n1, n2, n3, n4, -⟩ := HN4.out.cells
  have hmy : ((il.length : Int) + 3).tdiv 4 = (((il.length + 3) / 4 : Nat) : Int) := by rw [Int.tdiv_eq_ediv_of_nonneg (by omega)]; omega
  obtain ⟨M, hM⟩ : ∃ M, M = (il.length + 3) / 4 := ⟨_, rfl⟩
  have hMi : ((il.length : Int) + 3) / 4 = (M : Int) := by omega
  have hM4 : M ≤ 4 := by omega
  have HPL : Hid ((Pr.parts (plain il)).length = M) := by show _ = _; rw [Pr.parts_length, hM]; simp [plain]
  clear hmy hM
  have hmy : ((il.length : Int) + 3).tdiv 4 = (M : Int) := by rw [Int.tdiv_eq_ediv_of_nonneg (by omega)]; exact hMi
  have HCP := hid (pick_any where_ (M + 1) w4 a1 a2 (by omega) (by omega))
  have hK := pk_lt where_ (M + 1) (by omega)
  rw [show ((M + 1 : Nat) : Int) = (M : Int) + 1 by omega] at HCP
  generalize pk where_ (M + 1) = K at *
  go_wp2_with fail
  refine HCP.out.mono ?_
  rintro r w5 ⟨rfl, rfl⟩
  clear HCP
  go_wp2_with fail
  go_loopw [15, 16, 17] (fun a e i wr => ∃ (k A : Nat), k ≤ K ∧ i = .int .i64 k ∧ e = .int .i64 ((68 + Pr.upto (plain il) k : Nat) : Int) ∧ a = .int .i64 (A : Int) ∧ (k = 0 → A = 0) ∧ (∀ j, k = j + 1 → A = 68 + Pr.upto (plain il) j) ∧ Below w.heap.size w wr ∧ OwnsI w1.heap.size wr (.slice ia il.length ic) il ∧ NodeB wr nb (.int .i64 1) (.slice ia il.length ic) (.slice none 0 0) (.slice none 0 0) (.slice none 0 0) ∧ w5.heap.size ≤ wr.heap.size) (fun _ _ i _ => K - (intOf i).toNat)
  case atStart => exact ⟨0, 0, Nat.zero_le _, rfl, by simp [Pr.upto_zero], rfl, fun _ => rfl, fun j hj => by omega, HB4.out, HO4.out, HN4.out, Nat.le_refl _⟩
  case round =>
    obtain ⟨k, A, hk, rfl, rfl, rfl, hA0, hA1, hb, ho, hn, hsr⟩ := hrel
    have HA0 := hid hA0
    have HA1 := hid hA1
    have HB := hid hb
    have HO := hid ho
    have HN := hid hn
    clear hA0 hA1 hb ho hn n0 n1 n2 n3 n4
    have hup : 68 + Pr.upto (plain il) k ≤ pg.length := by have := Pr.upto_le (plain il) HF.out (by simpa [plain] using h16) k; rw [HPE.out] at this; exact this
    by_cases hkK : k < K
    · have hkp : k < (Pr.parts (plain il)).length := by rw [HPL.out]; omega
      obtain ⟨ba, bb, e1, e2, e3⟩ := Pr.entry_bytes HF.out k hkp
      rw [HPE.out] at e1 e2
      have HUS := hid (Pr.upto_succ (plain il) k hkp)
      have hup1 : 68 + Pr.upto (plain il) (k + 1) ≤ pg.length := by have := Pr.upto_le (plain il) HF.out (by simpa [plain] using h16) (k + 1); rw [HPE.out] at this; exact this
      have hi1 : (k : Int) ≤ (K : Int) - 1 := by omega
      have hw0 : IntKind.i64.wrap (15 * (k : Int)) = 15 * (k : Int) := IntWalk.i64_in _ ⟨by omega, by omega⟩
      have hw1 : IntKind.i64.wrap (4 + 15 * (k : Int)) = 4 + 15 * (k : Int) := IntWalk.i64_in _ ⟨by omega, by omega⟩
      have hw2 : IntKind.i64.wrap (5 + 15 * (k : Int)) = 5 + 15 * (k : Int) := IntWalk.i64_in _ ⟨by omega, by omega⟩
      obtain ⟨l1, f1⟩ := List.getElem?_eq_some_iff.1 e1
      obtain ⟨l2, f2⟩ := List.getElem?_eq_some_iff.1 e2
      have l1' : (4 : Int) + 15 * (k : Int) < (pg.length : Int) := by omega
      have l2' : (5 : Int) + 15 * (k : Int) < (pg.length : Int) := by omega
      have p1' : (0 : Int) ≤ 4 + 15 * (k : Int) := by omega
      have p2' : (0 : Int) ≤ 5 + 15 * (k : Int) := by omega
      go_wp2_with fail
      go_quiet (fail)
      have hlt1 : 4 + 15 * k < (⟨pg.toArray⟩ : ByteArray).size := by rw [hzp]; exact l1
      have hlt2 : 5 + 15 * k < (⟨pg.toArray⟩ : ByteArray).size := by rw [hzp]; exact l2
      have g1 : (⟨pg.toArray⟩ : ByteArray)[4 + 15 * k]'hlt1 = ba := by rw [← f1]; rfl
      have g2 : (⟨pg.toArray⟩ : ByteArray)[5 + 15 * k]'hlt2 = bb := by rw [← f2]; rfl
      have hend := end_is (68 + Pr.upto (plain il) k) ba.toNat bb.toNat (68 + Pr.upto (plain il) (k + 1)) (by omega) ba.toNat_lt bb.toNat_lt (by rw [HUS.out, e3]; omega)
      have HEND := hid hend
      clear hend hw0 hw1 hw2 e1 e2
      have HBD := hid (below_drewN HB.out nq)
      have HOD : Hid (OwnsI w1.heap.size (wr.drewN nq) (.slice ia il.length ic) il) := HO.out
      have HND : Hid (NodeB (wr.drewN nq) nb (.int .i64 1) (.slice ia il.length ic) (.slice none 0 0) (.slice none 0 0) (.slice none 0 0)) := HN.out
      have hsd : w5.heap.size ≤ (wr.drewN nq).heap.size := hsr
      go_wp2_with fail
      go_roundw
      case rel =>
        refine ⟨k + 1, 68 + Pr.upto (plain il) k, by omega, by go_num, ?_, rfl, fun h => by omega, fun j hj => by rw [show j = k by omega], HBD.out, HOD.out, HND.out, hsd⟩
        rw [← HEND.out, g1, g2]
        simp
      case measure => simp [intOf]; omega
    · have hkE : K ≤ k := by omega
      have HKE : Hid (K = k) := by show _ = _; omega
      have hi1 : ¬ (k : Int) ≤ (K : Int) - 1 := by omega
      obtain ⟨E, hE⟩ : ∃ E, E = 68 + Pr.upto (plain il) k := ⟨_, rfl⟩
      have HE := hid hE
      rw [← hE] at hup ⊢
      have hAE : A < E := by
        rcases Nat.eq_zero_or_pos k with h0 | h0
        · have := HA0.out h0; omega
        · obtain ⟨j, rfl⟩ : ∃ j, k = j + 1 := ⟨k - 1, by omega⟩
          have h1 := HA1.out j rfl
          have hjp : j < (Pr.parts (plain il)).length := by rw [HPL.out]; omega
          have h2 := Pr.upto_succ (plain il) j hjp
          have h3 := Pr.sec_pos ((Pr.parts (plain il))[j]'hjp)
          omega
      have hg1 : ¬ (pg.length : Int) < (E : Int) := by omega
      have hg2 : ¬ (E : Int) ≤ (A : Int) := by omega
      have HCP := hid (pick_any from_ (8 * (E - A)) wr b1 b2 (by omega) (by omega))
      have hP := pk_lt from_ (8 * (E - A)) (by omega)
      rw [show ((8 * (E - A) : Nat) : Int) = 8 * ((E : Int) - (A : Int)) by omega] at HCP
      generalize pk from_ (8 * (E - A)) = P at *
      have HCT := hid (turned_any pg (8 * A + P) (8 * E) bits wr (by omega) (by omega) hgl)
      rw [show ((8 * A + P : Nat) : Int) = 8 * (A : Int) + (P : Int) by omega, show ((8 * E : Nat) : Int) = 8 * (E : Int) by omega] at HCT
      clear hE
      go_wp2_with fail
      refine HCP.out.mono ?_
      rintro r w6 ⟨rfl, rfl⟩
      clear HCP
      go_wp2_with fail
      refine HCT.out.mono ?_
      rintro r w7 ⟨⟨y, e, rfl, hyl, hyh, heo, he32, hyb⟩, hb7⟩
      clear HCT
      have HTA := hid (Pr.told_all HF.out (by simpa [plain] using h16) k A P e y (by rw [HPL.out]; omega) HA0.out HA1.out (by rw [HPE.out]; exact hyl) (by rw [HPE.out]; exact hyh) heo he32 (by rw [← HE.out]; exact hyb))
      have HB7 := hid (HB.out.trans (hb7.mono (by have := HB.out.size; omega)))
      have HO7 : Hid (OwnsI w1.heap.size w7 (.slice ia il.length ic) il) := row_below HO.out hb7 (Nat.le_refl _)
      have HN7 := hid (HN.out.keep hb7)
      have hs7 := hb7.size
      clear hyl hyh heo he32 hyb hb7
      go_wp2_with fail
      refine (siltRead_any y w7).mono ?_
      rintro r w8 ⟨hb8, ⟨hn8, rfl⟩ | ⟨kd, il8, cl8, pl8, ml8, v8, he8, -⟩⟩
      rotate_left
      · rw [HTA.out.1] at he8; simp at he8
      have BN := (Below.refl w8.heap.size w8).alloc (Nat.le_refl _) (.cells #[.int .i64 0, .slice none 0 0, .slice none 0 0, .slice none 0 0, .slice none 0 0] 34)
      have hs8 := hb8.size
      have HB9 := hid (HB7.out.trans ((hb8.trans (BN.mono hs8)).mono (by have := HB7.out.size; omega)))
      have HO9 : Hid (OwnsI w1.heap.size (w8.alloc (.cells #[.int .i64 0, .slice none 0 0, .slice none 0 0, .slice none 0 0, .slice none 0 0] 34)) (.slice ia il.length ic) il) := row_below HO7.out (hb8.trans (BN.mono hs8)) (Nat.le_refl _)
      have HN9 := hid (HN7.out.keep (hb8.trans (BN.mono hs8)))
      clear hb8 hn8 BN
      go_wp2_with fail
      generalize w8.alloc (.cells #[.int .i64 0, .slice none 0 0, .slice none 0 0, .slice none 0 0, .slice none 0 0] 34) = w9 at *
      go_loopw [21] (fun i wr => ∃ j : Nat, j ≤ il.length ∧ i = .int .i64 j ∧ Below w.heap.size w wr ∧ OwnsI w1.heap.size wr (.slice ia il.length ic) il ∧ NodeB wr nb (.int .i64 1) (.slice ia il.length ic) (.slice none 0 0) (.slice none 0 0) (.slice none 0 0)) (fun i _ => il.length - (intOf i).toNat)
      case atStart => exact ⟨0, Nat.zero_le _, rfl, HB9.out, HO9.out, HN9.out⟩
      case round =>
        obtain ⟨j, hj, rfl, hb, ho, hn⟩ := hrel
        have HBJ := hid hb
        have HOJ := hid ho
        have HNJ := hid hn
        obtain ⟨n0, n1, n2, n3, n4, -⟩ := hn.cells
        clear hb ho hn
        by_cases hjl : j < il.length
        · obtain ⟨g, cap, hge, hgc, hgb, hgw, hia⟩ := HOJ.out.isItems.resolve_left (by rintro ⟨_, _, _, rfl⟩; simp at hjl)
          injection hge with q1 q2 q3
          subst q1 q3
          obtain ⟨k0, k1⟩ := hia j hjl
          simp only [Nat.zero_add] at k0 k1
          clear hia
          have hjp : j < (plain il).length := by simpa [plain] using hjl
          have hT := HTA.out.2 j hjp
          have hpj : (plain il)[j]'hjp = ((il[j]'hjl).1.data.toList, (il[j]'hjl).2.data.toList) := by simp [plain]
          rw [hpj] at hT
          generalize il[j]'hjl = xx at *
          obtain ⟨kb, vb⟩ := xx
          simp only at k0 k1 hT
          have hi2 : (0 : Int) ≤ (j : Int) := by omega
          have hi3 : (j : Int) < (il.length : Int) := by omega
          have HCF := hid (siltFetch_any y kb wr)
          by_cases hc : k ≠ 0 ∧ j / 4 + 1 ≠ k
          · have hfr := hT.1 hc
            rw [hfr, show fetchV (some (some vb.data.toList)) = vb from mk_data vb, show fetchN (some (some vb.data.toList)) = 0 from rfl] at HCF
            have hq : (j : Int).tdiv 4 = ((j / 4 : Nat) : Int) := by rw [Int.tdiv_eq_ediv_of_nonneg (by omega)]; omega
            have hw1 : (0 : Int) ≤ (K : Int) - 1 := by have := HKE.out; omega
            have hw2 : ¬ (j : Int) / 4 = (K : Int) - 1 := by have := HKE.out; omega
            have hw3 : ¬ ((j / 4 : Nat) : Int) = (K : Int) - 1 := by have := HKE.out; omega
            clear hT hfr hpj
            go_wp2_with fail
            refine HCF.out.mono ?_
            rintro r wf ⟨rfl, hbf⟩
            have HBF := hid (HBJ.out.trans (hbf.mono (by have := HBJ.out.size; omega)))
            have HOF : Hid (OwnsI w1.heap.size wf (.slice (some ⟨g, 0, none⟩) il.length ic) il) := row_below HOJ.out hbf (Nat.le_refl _)
            have HNF := hid (HNJ.out.keep hbf)
            have k1' := (hbf.cell (p := ⟨g, j * 2 + 1, none⟩) hgw).trans k1
            clear k0 k1 n0 n1 n2 n3 n4 hbf HCF
            obtain ⟨n0, n1, n2, n3, n4, -⟩ := HNF.out.cells
            go_wp2_with fail
            go_roundw
            case rel => exact ⟨j + 1, by omega, by go_num, HBF.out, HOF.out, HNF.out⟩
            case measure => simp [intOf]; omega
          · have hfr := hT.2 (by omega)
            rw [hfr, show fetchV none = ⟨#[]⟩ from rfl, show fetchN none = 2 from rfl] at HCF
            have hq : (j : Int).tdiv 4 = ((j / 4 : Nat) : Int) := by rw [Int.tdiv_eq_ediv_of_nonneg (by omega)]; omega
            clear hT hfr hpj
            by_cases hK0 : K = 0
            · have hw1 : ¬ (0 : Int) ≤ (K : Int) - 1 := by omega
              clear hK0
              go_wp2_with fail
              refine HCF.out.mono ?_
              rintro r wf ⟨rfl, hbf⟩
              have HBF := hid (HBJ.out.trans (hbf.mono (by have := HBJ.out.size; omega)))
              have HOF : Hid (OwnsI w1.heap.size wf (.slice (some ⟨g, 0, none⟩) il.length ic) il) := row_below HOJ.out hbf (Nat.le_refl _)
              have HNF := hid (HNJ.out.keep hbf)
              clear k0 k1 n0 n1 n2 n3 n4 hbf HCF
              go_wp2_with fail
              go_roundw
              case rel => exact ⟨j + 1, by omega, by go_num, HBF.out, HOF.out, HNF.out⟩
              case measure => simp [intOf]; omega
            · have hw1 : (0 : Int) ≤ (K : Int) - 1 := by omega
              have hw2 : (j : Int) / 4 = (K : Int) - 1 := by have := HKE.out; omega
              have hw3 : ((j / 4 : Nat) : Int) = (K : Int) - 1 := by have := HKE.out; omega
              clear hK0
              go_wp2_with fail
              refine HCF.out.mono ?_
              rintro r wf ⟨rfl, hbf⟩
              have HBF := hid (HBJ.out.trans (hbf.mono (by have := HBJ.out.size; omega)))
              have HOF : Hid (OwnsI w1.heap.size wf (.slice (some ⟨g, 0, none⟩) il.length ic) il) := row_below HOJ.out hbf (Nat.le_refl _)
              have HNF := hid (HNJ.out.keep hbf)
              clear k0 k1 n0 n1 n2 n3 n4 hbf HCF
              go_wp2_with fail
              go_roundw
              case rel => exact ⟨j + 1, by omega, by go_num, HBF.out, HOF.out, HNF.out⟩
              case measure => simp [intOf]; omega
        · have hi3 : ¬ (j : Int) < (il.length : Int) := by omega
          go_wp2_with fail
          go_ret
          exact ⟨rfl, HBJ.out⟩
end Go.Proofs.Ytolgpnaoaodepaa
