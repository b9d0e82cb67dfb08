/- The walk of header. -/
import Derived.Test.YtolgpnaoaodepaaGreatRefFm
import Derived.Test.YtolgpnaoaodepaaGreatMathEm
import Derived.Lib.QuietBelow
namespace Go.Proofs.YtolgpnaoaodepaaGreat
open Go.RowKit
/-- What header tells. -/
def HeadE (w : World) (l : List UInt8) (r : Ending) (w' : World) : Prop := Below w.heap.size w w' ∧ ((Pg.header l = none ∧ ∃ a1 n1 c1 a2 n2 c2, r = .returned (.tuple #[.agg #[.slice a1 n1 c1, .slice a2 n2 c2], .bool false])) ∨ ∃ ks ss vk vs B, Pg.header l = some (lists ks, lists ss) ∧ r = .returned (.tuple #[.agg #[vk, vs], .bool true]) ∧ OwnsS B w' vk ks ∧ OwnsS B w' vs ss)
set_option maxHeartbeats 2000000 in
set_option maxRecDepth 100000 in
theorem header_any (s : ByteArray) (w : World) (hs : s.size ≤ 1000000000) :
    Calls Tryz.prog 152 #[.string s] w fun r w' => HeadE w s.data.toList r w' := by
  have HH0 := hid (hdr_start w)
  by_cases h68 : s.size < 68
  · have HN := hid (header_no (l := s.data.toList) (by unfold Pg.hdrHead; rw [decide_eq_false (by rw [len_size]; omega)]; rfl))
    go_enter Tryz.func152, Tryz.ntmps152
    go_wp2_with fail
    exact bodyPost_ret (v := .tuple #[.agg #[.slice none 0 0, .slice none 0 0], .bool false]) (by simp [results, Tryz.results152, go_sem]) rfl ⟨HH0.out.bel, .inl ⟨HN.out, _, _, _, _, _, _, rfl⟩⟩
  · have h3 : 3 < s.size := by omega
    have hm : (s[3]'h3).toNat < 256 := (s[3]'h3).toNat_lt
    have HM3 : Hid (Pg.hdrMany s.data.toList = (s[3]'h3).toNat) := by
      show _ = _; unfold Pg.hdrMany; rw [List.getD_eq_getElem?_getD, at_list s 3 h3]; rfl
    have HSL : Hid ((s.extract 0 64).data.toList = s.data.toList.take 64) := by show _ = _; rw [Lib.extract_data]; simp
    go_enter Tryz.func152, Tryz.ntmps152
    go_wp2_with fail
    refine (sealed_any (s.extract 0 64) _ (by rw [ByteArray.size_extract]; omega)).mono ?_
    rintro r w1 ⟨rfl, hb1⟩
    have HH1 := hid (HH0.out.below hb1)
    clear hb1
    rw [HSL.out]
    obtain ⟨d0, d1, z0, z1, y0, y1, e0, e1⟩ := HH1.out.cells
    have hi3 : (3 : Int) < (s.size : Int) := by omega
    by_cases hq : Pg.hdrHead s.data.toList = true
    · have HHD : Hid (Pg.header s.data.toList = Pg.hdrLoop s.data.toList (s[3]'h3).toNat 4 0 68 [] []) := by
        show _ = _; unfold Pg.header; rw [if_pos hq, HM3.out]
      have hqq : (s.extract 0 3).data.toList = [83, 50, 76] ∧ Pg.sealed (s.data.toList.take 64) = (s.extract 0 68).data.toList ∧ (s[3]'h3).toNat ≤ 4 := by
        rw [Lib.extract_data, Lib.extract_data, ← HM3.out]
        simp only [List.drop_zero, Nat.sub_zero]
        unfold Pg.hdrHead at hq
        simp only [Bool.and_eq_true, decide_eq_true_eq] at hq
        exact ⟨hq.1.1.2, hq.1.2, hq.2⟩
      have ha' : (!(s.extract 0 3).toList == [83, 50, 76]) = false := by rw [toList_is, hqq.1]; rfl
      have hb' : (!Pg.sealed (s.data.toList.take 64) == (s.extract 0 68).toList) = false := by rw [toList_is, hqq.2.1]; simp
      have hc4 := hqq.2.2
      clear hqq hq
      generalize Pg.sealed (s.data.toList.take 64) = se at *
      generalize hmn : (s[3]'h3).toNat = mn at *
      go_wp2_with fail
      have HMN := hid hmn
      clear ha' hb' hmn d0 d1 z0 z1 y0 y1 e0 e1
      go_loopw [7, 8] (fun at_ i wr => ∃ (j a : Nat) (ks ss : List ByteArray) (vk vs : Value), j ≤ 4 ∧ a ≤ s.size ∧ i = .int .i64 j ∧ at_ = .int .i64 a ∧ ks.length = min j mn ∧ ss.length = min j mn ∧ Hdr w wr ks ss vk vs ∧ Pg.hdrLoop s.data.toList mn (4 - j) j a (lists ks) (lists ss) = Pg.header s.data.toList) (fun _ i _ => 4 - (intOf i).toNat)
      case atStart => exact ⟨0, 68, [], [], _, _, by omega, by omega, rfl, rfl, by simp, by simp, HH1.out, HHD.out.symm⟩
      case round =>
        obtain ⟨j, a, ks, ss, vk, vs, hj, has, rfl, rfl, hkl, hsl, hh, heq⟩ := hrel
        obtain ⟨ka, kc, hvk⟩ := hh.keys.shape
        obtain ⟨sa, sc, hvs⟩ := hh.secs.shape
        subst hvk hvs
        have HHR := hid hh
        have HEQ := hid heq
        have HKL := hid hkl
        have HSLN := hid hsl
        have HOUT := hid hh.out
        obtain ⟨d0, d1, z0, z1, y0, y1, e0, e1⟩ := hh.cells
        clear hh heq hkl hsl
        by_cases hj4 : j < 4
        · obtain ⟨f, hf⟩ : ∃ f, 4 - j = f + 1 := ⟨3 - j, by omega⟩
          rw [hf] at HEQ
          have HF4 : Hid (f = 4 - (j + 1)) := by show _ = _; omega
          clear hf
          have hez : (s.extract (4 + 15 * j) (19 + 15 * j)).size = 15 := by rw [ByteArray.size_extract]; omega
          have HED : Hid ((s.extract (4 + 15 * j) (19 + 15 * j)).data.toList = Pg.ent s.data.toList j) := by
            show _ = _; unfold Pg.ent; rw [Lib.extract_data, show 19 + 15 * j - (4 + 15 * j) = 15 by omega]
          have hi1 : (0 : Int) ≤ 4 + 15 * (j : Int) := by omega
          have hi2 : (19 : Int) + 15 * (j : Int) ≤ (s.size : Int) := by omega
          go_wp2_with fail
          generalize s.extract (4 + 15 * j) (19 + 15 * j) = e at *
          refine (high_any (e.extract 0 2) _ (by rw [ByteArray.size_extract]; omega)).mono ?_
          rintro r w2 ⟨rfl, rfl⟩
          have HSI : Hid (Pg.entSize (Pg.ent s.data.toList j) = Pg.high (e.extract 0 2).data.toList) := by
            show _ = _; unfold Pg.entSize; rw [← HED.out, Lib.extract_data]; simp
          have hsi := Pg.high_lt (e.extract 0 2).data.toList 2 (by rw [len_size, ByteArray.size_extract]; omega)
          rw [show (256 : Nat) ^ 2 = 65536 from rfl] at hsi
          generalize Pg.high (e.extract 0 2).data.toList = sz at *
          have he2 : 2 < e.size := by omega
          have hk2 : (e[2]'he2).toNat < 256 := (e[2]'he2).toNat_lt
          have HEK : Hid (Pg.entK (Pg.ent s.data.toList j) = (e[2]'he2).toNat) := by
            show _ = _; unfold Pg.entK; rw [← HED.out, List.getD_eq_getElem?_getD, at_list e 2 he2]; rfl
          generalize hkk : (e[2]'he2).toNat = k at *
          have hi5 : (2 : Int) < (e.size : Int) := by omega
          by_cases hmj : mn ≤ j
          · go_wp2_with fail
            refine (noughts_any 15 _ (by omega)).mono ?_
            rintro r w3 ⟨rfl, hb3⟩
            have HH3 := hid (HHR.out.below hb3)
            have HO3 := hid HH3.out.out
            obtain ⟨d0, d1, z0, z1, y0, y1, e0, e1⟩ := HH3.out.cells
            clear hb3
            by_cases hen : Pg.ent s.data.toList j = List.replicate 15 0
            · have HX := hid ((Pg.hdr_past _ _ _ _ _ _ _ hmj hen).symm.trans HEQ.out)
              have hne : (!e.toList == List.replicate 15 0) = false := by rw [toList_is, HED.out, hen]; simp
              clear hen
              generalize List.replicate 15 (0 : UInt8) = ns at *
              go_wp2_with fail
              go_roundw
              case rel => exact ⟨j + 1, a, ks, ss, _, _, by omega, has, by go_num, rfl, by rw [HKL.out]; omega, by rw [HSLN.out]; omega, HH3.out, by rw [← HF4.out]; exact HX.out⟩
              case measure => simp [intOf]; omega
            · have HN := hid (HEQ.out.symm.trans (Pg.hdr_past_no _ _ _ _ _ _ _ hmj hen))
              have hne : (!e.toList == List.replicate 15 0) = true := by rw [toList_is, HED.out]; simpa using hen
              clear hen
              generalize List.replicate 15 (0 : UInt8) = ns at *
              go_wp2_with fail
              refine bodyPost_ret (v := .tuple #[.agg #[.slice ka ks.length kc, .slice sa ss.length sc], .bool false]) ?_ rfl ⟨HO3.out.2.2.1, .inl ⟨HN.out, _, _, _, _, _, _, rfl⟩⟩
              have q1 := HO3.out.1
              have q2 := HO3.out.2.1
              simp [results, Tryz.results152, go_sem, q1, q2]
          · by_cases hk0 : k < 1
            · have HN := hid (HEQ.out.symm.trans (Pg.hdr_bad _ _ _ _ _ _ _ hmj (by unfold Pg.entBad; rw [HEK.out, decide_eq_true hk0]; rfl)))
              have hk1 : decide ((k : Int) < 1) = true := by simp; omega
              go_wp2_with fail
              go_quiet (fail)
              have HO3 := hid (HHR.out.drewN nq).out
              go_wp2_with fail
              refine bodyPost_ret (v := .tuple #[.agg #[.slice ka ks.length kc, .slice sa ss.length sc], .bool false]) ?_ rfl ⟨HO3.out.2.2.1, .inl ⟨HN.out, _, _, _, _, _, _, rfl⟩⟩
              have q1 := HO3.out.1
              have q2 := HO3.out.2.1
              simp [results, Tryz.results152, go_sem, q1, q2]
            · by_cases hk12 : 12 < k
              · have HN := hid (HEQ.out.symm.trans (Pg.hdr_bad _ _ _ _ _ _ _ hmj (by unfold Pg.entBad; rw [HEK.out, decide_eq_true hk12]; simp)))
                have hk1 : decide ((k : Int) < 1) = false := by simp; omega
                have hk3 : decide ((12 : Int) < (k : Int)) = true := by simp; omega
                go_wp2_with fail
                go_quiet (fail)
                have HO3 := hid (HHR.out.drewN nq).out
                go_wp2_with fail
                refine bodyPost_ret (v := .tuple #[.agg #[.slice ka ks.length kc, .slice sa ss.length sc], .bool false]) ?_ rfl ⟨HO3.out.2.2.1, .inl ⟨HN.out, _, _, _, _, _, _, rfl⟩⟩
                have q1 := HO3.out.1
                have q2 := HO3.out.2.1
                simp [results, Tryz.results152, go_sem, q1, q2]
              · have hk1 : decide ((k : Int) < 1) = false := by simp; omega
                have hk3 : decide ((12 : Int) < (k : Int)) = false := by simp; omega
                have hi6 : (0 : Int) ≤ 3 + (k : Int) := by omega
                have hi7 : (3 : Int) + (k : Int) ≤ 15 := by omega
                have hw1 : IntKind.i64.wrap (3 + (k : Int)) = 3 + (k : Int) := IntWalk.i64_in _ ⟨by omega, by omega⟩
                have hw2 : IntKind.i64.wrap (12 - (k : Int)) = ((12 - k : Nat) : Int) := by rw [IntWalk.i64_in _ ⟨by omega, by omega⟩]; omega
                have hw3 : IntKind.i64.wrap ((a : Int) + (sz : Int)) = (a : Int) + (sz : Int) := IntWalk.i64_in _ ⟨by omega, by omega⟩
                have ht1 : (3 + (k : Int)).toNat = 3 + k := by omega
                have CN : ∀ W, Calls Tryz.prog 90 #[.int .i64 ((12 - k : Nat) : Int)] W fun r w' => r = .returned (.string ⟨(List.replicate (12 - k) (0 : UInt8)).toArray⟩) ∧ Below W.heap.size W w' := fun W => noughts_any (12 - k) W (by omega)
                have HDE : Hid ((e.extract (3 + k) 15).data.toList = (Pg.ent s.data.toList j).drop (3 + k)) := by
                  show _ = _; rw [← hez, drop_data, HED.out]
                generalize hnk : (12 - k : Nat) = nk at *
                have HNK := hid hnk
                clear hnk
                generalize hns : List.replicate nk (0 : UInt8) = ns at *
                have HNS := hid hns
                clear hns
                by_cases hnq : (Pg.ent s.data.toList j).drop (3 + k) = ns
                · have hne : (!(e.extract (3 + k) 15).toList == ns) = false := by rw [toList_is, HDE.out]; simpa using hnq
                  by_cases hbig : s.size < a + sz
                  · have HN := hid (HEQ.out.symm.trans (Pg.hdr_bad _ _ _ _ _ _ _ hmj (by unfold Pg.entBad; rw [HSI.out, len_size, decide_eq_true hbig]; simp)))
                    have hbi : decide ((s.size : Int) < (a : Int) + (sz : Int)) = true := by simp; omega
                    go_wp2_with fail
                    refine wp_region_quiet_below (by kernel_rfl) (by kernel_rfl) ?_
                    repeat (quiet_step (exact Calls.regrown_of (CN _)))
                    refine wpQuiet_nil ?_
                    intro wx hw'
                    obtain ⟨⟨dq, osq⟩, hw''⟩ := hw'
                    have HH3 := hid (HHR.out.below (hw'' ▸ below_regrown _ dq osq))
                    have HO3 := hid HH3.out.out
                    clear hw'' d0 d1 z0 z1 y0 y1 e0 e1
                    obtain ⟨d0, d1, z0, z1, y0, y1, e0, e1⟩ := HH3.out.cells
                    go_wp2_with fail
                    refine bodyPost_ret (v := .tuple #[.agg #[.slice ka ks.length kc, .slice sa ss.length sc], .bool false]) ?_ rfl ⟨HO3.out.2.2.1, .inl ⟨HN.out, _, _, _, _, _, _, rfl⟩⟩
                    have q1 := HO3.out.1
                    have q2 := HO3.out.2.1
                    simp [results, Tryz.results152, go_sem, q1, q2]
                  · have HBAD : Hid (Pg.entBad (Pg.ent s.data.toList j) a s.data.toList.length = false) := by
                      show _ = _; unfold Pg.entBad; rw [HEK.out, HNK.out, HNS.out, HSI.out, len_size, decide_eq_false hk0, decide_eq_false hk12, decide_eq_false hbig, decide_eq_false (by simpa using hnq)]; rfl
                    have hbi : decide ((s.size : Int) < (a : Int) + (sz : Int)) = false := by simp; omega
                    go_wp2_with fail
                    refine wp_region_quiet_below (by kernel_rfl) (by kernel_rfl) ?_
                    repeat (quiet_step (exact Calls.regrown_of (CN _)))
                    refine wpQuiet_nil ?_
                    intro wx hw'
                    obtain ⟨⟨dq, osq⟩, hw''⟩ := hw'
                    have HH3 := hid (HHR.out.below (hw'' ▸ below_regrown _ dq osq))
                    have HO3 := hid HH3.out.out
                    clear hw'' d0 d1 z0 z1 y0 y1 e0 e1
                    obtain ⟨d0, d1, z0, z1, y0, y1, e0, e1⟩ := HH3.out.cells
                    clear hne hnq CN
                    have HKE : Hid ((e.extract 3 (3 + k)).data.toList = Pg.entKey (Pg.ent s.data.toList j)) := by
                      show _ = _; unfold Pg.entKey; rw [HEK.out, ← HED.out, Lib.extract_data, show 3 + k - 3 = k by omega]
                    have hkj : ks.length = j := by rw [HKL.out]; omega
                    by_cases hj0 : j = 0
                    · have HORD : Hid (Pg.ordBad j (lists ks) (Pg.entKey (Pg.ent s.data.toList j)) = false) := by
                        show _ = _; unfold Pg.ordBad; rw [decide_eq_false (by omega)]; rfl
                      have hd0 : decide ((0 : Int) < (j : Int)) = false := by simp; omega
                      have HX : Hid (Pg.hdrLoop s.data.toList mn (4 - (j + 1)) (j + 1) (a + sz) (lists (ks ++ [e.extract 3 (3 + k)])) (lists (ss ++ [s.extract a (a + sz)])) = Pg.header s.data.toList) := by
                        show _ = _
                        rw [← HEQ.out, Pg.hdr_next _ _ _ _ _ _ _ hmj HBAD.out HORD.out, ← HF4.out, HSI.out, lists_snoc, lists_snoc, HKE.out, Lib.extract_data, show a + sz - a = sz by omega]
                      have HKJ := hid hkj
                      have hj0' : ¬ 0 < j := by omega
                      clear hkj hj0
                      go_wp2_with (first
                        | (at_builtin; refine wpApT wx rfl (.tmp 105) (.tmp 107) rfl (w.heap.size + 2) (.slice ka ks.length kc) ks rfl HH3.out.keys (e.extract 3 (3 + k)) rfl (by rw [HKJ.out]; omega) HH3.out.sz ?_))
                      intro v1 w4 ho1 hg1 hat1
                      obtain ⟨a1, c1, rfl⟩ := ho1.shape
                      generalize hl1 : (ks ++ [e.extract 3 (3 + k)]).length = l1 at *
                      clear hl1
                      have HA := hid (HH3.out.apK ho1 hg1 hat1)
                      clear ho1 hg1 hat1 d0 d1 z0 z1 y0 y1 e0 e1
                      obtain ⟨d0, d1, z0, z1⟩ := HH3.out.mid HA.out.1
                      go_wp2_with fail
                      have HH4 := hid HA.out.2
                      clear HA d0 d1 z0 z1 HO3 HH3 HOUT HHR
                      generalize w4.setCell ⟨w.heap.size + 1, 0, none⟩ (.slice a1 l1 c1) = w5 at *
                      obtain ⟨d0, d1, z0, z1, -, -, -, -⟩ := HH4.out.cells
                      have hi8 : (a : Int) ≤ (a : Int) + (sz : Int) := by omega
                      have hi9 : (a : Int) + (sz : Int) ≤ (s.size : Int) := by omega
                      have hi10 : (0 : Int) ≤ (a : Int) + (sz : Int) := by omega
                      have ht2 : ((a : Int) + (sz : Int)).toNat = a + sz := by omega
                      have HH5 := hid (HH4.out.below (((Below.refl _ w5).alloc (Nat.le_refl _) (.cells #[.string (s.extract a (a + sz))] 9)).drew))
                      have HCE : Hid (((w5.alloc (.cells #[.string (s.extract a (a + sz))] 9)).drew).cell? ⟨w5.heap.size, 0, none⟩ = some (.string (s.extract a (a + sz)))) := by
                        exact cell_new w5 _ _
                      obtain ⟨-, d1a, -, z1a, -, -, -, -⟩ := HH5.out.cells
                      go_region_law (refine stepApT _ (by rfl) (.tmp 111) (.tmp 118) (by rfl) (w.heap.size + 2) (.slice sa ss.length sc) ss (by simp [Act.eval]) HH5.out.secs (s.extract a (a + sz)) w5.heap.size (by simp [Act.eval]) HCE.out (by rw [HSLN.out]; omega) HH5.out.sz ?_; intro v2 w6 ho2 hg2 hat2; obtain ⟨a2, c2, rfl⟩ := ho2.shape; generalize hl2 : (ss ++ [s.extract a (a + sz)]).length = l2 at *; clear hl2; have HB := hid (HH5.out.apS ho2 hg2 hat2); obtain ⟨d0', d1', z0', z1'⟩ := HH5.out.mid HB.out.1; clear ho2 hg2 hat2)
                      all_goals
                        go_wp2_with fail
                        go_roundw
                        case rel => exact ⟨j + 1, a + sz, ks ++ [e.extract 3 (3 + k)], ss ++ [s.extract a (a + sz)], _, _, by omega, by omega, by go_num, by go_num, by rw [List.length_append, HKL.out]; simp; omega, by rw [List.length_append, HSLN.out]; simp; omega, HB.out.2, HX.out⟩
                        case measure => simp [intOf]; omega
                    · obtain ⟨g, cap, hge, hg1, hg2, hg3⟩ := HH3.out.keys.shape_pos (by omega)
                      injection hge with hge1 hge2 hge3
                      subst hge1 hge3
                      obtain ⟨sp, hsp⟩ : ∃ sp, ks[j - 1]? = some sp := ⟨_, List.getElem?_eq_getElem (by omega)⟩
                      have hcl := HH3.out.keys.cellAt (j - 1) sp hsp
                      have hwj : IntKind.i64.wrap ((j : Int) - 1) = ((j - 1 : Nat) : Int) := by rw [IntWalk.i64_in _ ⟨by omega, by omega⟩]; omega
                      have hd0 : decide ((0 : Int) < (j : Int)) = true := by simp; omega
                      have HOE : Hid (Pg.ordBad j (lists ks) (Pg.entKey (Pg.ent s.data.toList j)) = !decide (sp.data.toList < (e.extract 3 (3 + k)).data.toList)) := by
                        show _ = _; unfold Pg.ordBad; rw [decide_eq_true (by omega), HKE.out, List.getD_eq_getElem?_getD, lists, List.getElem?_map, hsp]; rfl
                      have hlj : ((j - 1 : Nat) : Int) < (ks.length : Int) := by omega
                      have HKJ := hid hkj
                      have HSP := hid hsp
                      have hj1 : 0 < j := by omega
                      clear hkj hsp hj0
                      generalize hjp : j - 1 = jp at *
                      have HJP := hid hjp
                      clear hjp
                      by_cases hlt : sp.data.toList < (e.extract 3 (3 + k)).data.toList
                      · have HORD : Hid (Pg.ordBad j (lists ks) (Pg.entKey (Pg.ent s.data.toList j)) = false) := by
                          show _ = _; rw [HOE.out, decide_eq_true hlt]; rfl
                        have hcmp : Op.bytesLess sp.toList (e.extract 3 (3 + k)).toList = true := by rw [toList_is, toList_is, less_is]; exact decide_eq_true hlt
                        clear hlt
                        have HX : Hid (Pg.hdrLoop s.data.toList mn (4 - (j + 1)) (j + 1) (a + sz) (lists (ks ++ [e.extract 3 (3 + k)])) (lists (ss ++ [s.extract a (a + sz)])) = Pg.header s.data.toList) := by
                          show _ = _
                          rw [← HEQ.out, Pg.hdr_next _ _ _ _ _ _ _ hmj HBAD.out HORD.out, ← HF4.out, HSI.out, lists_snoc, lists_snoc, HKE.out, Lib.extract_data, show a + sz - a = sz by omega]
                        go_wp2_with (first
                          | (at_builtin; refine wpApT wx rfl (.tmp 105) (.tmp 107) rfl (w.heap.size + 2) (.slice (some ⟨g, 0, none⟩) ks.length kc) ks rfl HH3.out.keys (e.extract 3 (3 + k)) rfl (by rw [HKJ.out]; omega) HH3.out.sz ?_))
                        intro v1 w4 ho1 hg1 hat1
                        obtain ⟨a1, c1, rfl⟩ := ho1.shape
                        generalize hl1 : (ks ++ [e.extract 3 (3 + k)]).length = l1 at *
                        clear hl1
                        have HA := hid (HH3.out.apK ho1 hg1 hat1)
                        clear ho1 hg1 hat1 d0 d1 z0 z1 y0 y1 e0 e1
                        obtain ⟨d0, d1, z0, z1⟩ := HH3.out.mid HA.out.1
                        go_wp2_with fail
                        have HH4 := hid HA.out.2
                        clear HA d0 d1 z0 z1 HO3 HH3 HOUT HHR
                        generalize w4.setCell ⟨w.heap.size + 1, 0, none⟩ (.slice a1 l1 c1) = w5 at *
                        obtain ⟨d0, d1, z0, z1, -, -, -, -⟩ := HH4.out.cells
                        have hi8 : (a : Int) ≤ (a : Int) + (sz : Int) := by omega
                        have hi9 : (a : Int) + (sz : Int) ≤ (s.size : Int) := by omega
                        have hi10 : (0 : Int) ≤ (a : Int) + (sz : Int) := by omega
                        have ht2 : ((a : Int) + (sz : Int)).toNat = a + sz := by omega
                        have HH5 := hid (HH4.out.below (((Below.refl _ w5).alloc (Nat.le_refl _) (.cells #[.string (s.extract a (a + sz))] 9)).drew))
                        have HCE : Hid (((w5.alloc (.cells #[.string (s.extract a (a + sz))] 9)).drew).cell? ⟨w5.heap.size, 0, none⟩ = some (.string (s.extract a (a + sz)))) := by
                          exact cell_new w5 _ _
                        obtain ⟨-, d1a, -, z1a, -, -, -, -⟩ := HH5.out.cells
                        go_region_law (refine stepApT _ (by rfl) (.tmp 111) (.tmp 118) (by rfl) (w.heap.size + 2) (.slice sa ss.length sc) ss (by simp [Act.eval]) HH5.out.secs (s.extract a (a + sz)) w5.heap.size (by simp [Act.eval]) HCE.out (by rw [HSLN.out]; omega) HH5.out.sz ?_; intro v2 w6 ho2 hg2 hat2; obtain ⟨a2, c2, rfl⟩ := ho2.shape; generalize hl2 : (ss ++ [s.extract a (a + sz)]).length = l2 at *; clear hl2; have HB := hid (HH5.out.apS ho2 hg2 hat2); obtain ⟨d0', d1', z0', z1'⟩ := HH5.out.mid HB.out.1; clear ho2 hg2 hat2)
                        all_goals
                          go_wp2_with fail
                          go_roundw
                          case rel => exact ⟨j + 1, a + sz, ks ++ [e.extract 3 (3 + k)], ss ++ [s.extract a (a + sz)], _, _, by omega, by omega, by go_num, by go_num, by rw [List.length_append, HKL.out]; simp; omega, by rw [List.length_append, HSLN.out]; simp; omega, HB.out.2, HX.out⟩
                          case measure => simp [intOf]; omega
                      · have HN := hid (HEQ.out.symm.trans (Pg.hdr_ord _ _ _ _ _ _ _ hmj HBAD.out (by rw [HOE.out, decide_eq_false hlt]; rfl)))
                        have hcmp : Op.bytesLess sp.toList (e.extract 3 (3 + k)).toList = false := by rw [toList_is, toList_is, less_is]; exact decide_eq_false hlt
                        clear hlt
                        go_wp2_with fail
                        refine bodyPost_ret (v := .tuple #[.agg #[.slice (some ⟨g, 0, none⟩) ks.length kc, .slice sa ss.length sc], .bool false]) ?_ rfl ⟨HO3.out.2.2.1, .inl ⟨HN.out, _, _, _, _, _, _, rfl⟩⟩
                        have q1 := HO3.out.1
                        have q2 := HO3.out.2.1
                        simp [results, Tryz.results152, go_sem, q1, q2]
                · have HN := hid (HEQ.out.symm.trans (Pg.hdr_bad _ _ _ _ _ _ _ hmj (by unfold Pg.entBad; rw [HEK.out, HNK.out, HNS.out, decide_eq_true hnq]; simp)))
                  have hne : (!(e.extract (3 + k) 15).toList == ns) = true := by rw [toList_is, HDE.out]; simpa using hnq
                  go_wp2_with fail
                  refine wp_region_quiet_below (by kernel_rfl) (by kernel_rfl) ?_
                  repeat (quiet_step (exact Calls.regrown_of (CN _)))
                  refine wpQuiet_nil ?_
                  intro wx hw'
                  obtain ⟨⟨dq, osq⟩, hw''⟩ := hw'
                  have HH3 := hid (HHR.out.below (hw'' ▸ below_regrown _ dq osq))
                  have HO3 := hid HH3.out.out
                  clear hw'' d0 d1 z0 z1 y0 y1 e0 e1
                  obtain ⟨d0, d1, z0, z1, y0, y1, e0, e1⟩ := HH3.out.cells
                  go_wp2_with fail
                  refine bodyPost_ret (v := .tuple #[.agg #[.slice ka ks.length kc, .slice sa ss.length sc], .bool false]) ?_ rfl ⟨HO3.out.2.2.1, .inl ⟨HN.out, _, _, _, _, _, _, rfl⟩⟩
                  have q1 := HO3.out.1
                  have q2 := HO3.out.2.1
                  simp [results, Tryz.results152, go_sem, q1, q2]
        · obtain rfl : j = 4 := by omega
          have HEQ' := hid (HEQ.out.symm.trans (Pg.hdr_end _ _ _ _ _ _))
          by_cases hal : a = s.size
          · have HY : Hid (Pg.header s.data.toList = some (lists ks, lists ss)) := by
              show _ = _; rw [HEQ'.out, if_pos (by rw [len_size]; exact hal)]
            have hde : decide ((a : Int) = (s.size : Int)) = true := by simp; omega
            go_wp2_with fail
            refine bodyPost_ret (v := .tuple #[.agg #[.slice ka ks.length kc, .slice sa ss.length sc], .bool true]) ?_ rfl ⟨HOUT.out.2.2.1, .inr ⟨ks, ss, _, _, w.heap.size + 2, HY.out, rfl, HOUT.out.2.2.2.1, HOUT.out.2.2.2.2⟩⟩
            have q1 := HOUT.out.1
            have q2 := HOUT.out.2.1
            simp [results, Tryz.results152, go_sem, q1, q2]
          · have HN : Hid (Pg.header s.data.toList = none) := by
              show _ = _; rw [HEQ'.out, if_neg (by rw [len_size]; exact hal)]
            have hde : decide ((a : Int) = (s.size : Int)) = false := by simp; omega
            go_wp2_with fail
            refine bodyPost_ret (v := .tuple #[.agg #[.slice ka ks.length kc, .slice sa ss.length sc], .bool false]) ?_ rfl ⟨HOUT.out.2.2.1, .inl ⟨HN.out, _, _, _, _, _, _, rfl⟩⟩
            have q1 := HOUT.out.1
            have q2 := HOUT.out.2.1
            simp [results, Tryz.results152, go_sem, q1, q2]
            omega
    · have hq' : Pg.hdrHead s.data.toList = false := by simpa using hq
      have HN := hid (header_no hq')
      have hqq : (s.extract 0 3).data.toList ≠ [83, 50, 76] ∨ Pg.sealed (s.data.toList.take 64) ≠ (s.extract 0 68).data.toList ∨ 4 < (s[3]'h3).toNat := by
        rw [Lib.extract_data, Lib.extract_data, ← HM3.out]
        simp only [List.drop_zero, Nat.sub_zero]
        unfold Pg.hdrHead at hq'
        simp only [Bool.and_eq_false_iff, decide_eq_false_iff_not, len_size] at hq'
        rcases hq' with ((h | h) | h) | h
        · omega
        · exact .inl h
        · exact .inr (.inl h)
        · exact .inr (.inr (by omega))
      clear hq hq'
      generalize Pg.sealed (s.data.toList.take 64) = se at *
      have HOUT := hid HH1.out.out
      by_cases ha : (s.extract 0 3).data.toList = [83, 50, 76]
      · have ha' : (!(s.extract 0 3).toList == [83, 50, 76]) = false := by rw [toList_is, ha]; rfl
        by_cases hb : se = (s.extract 0 68).data.toList
        · have hb' : (!se == (s.extract 0 68).toList) = false := by rw [toList_is, hb]; simp
          have hc : 4 < (s[3]'h3).toNat := by
            rcases hqq with h | h | h
            · exact absurd ha h
            · exact absurd hb h
            · exact h
          clear hqq ha hb
          go_wp2_with fail
          exact bodyPost_ret (v := .tuple #[.agg #[.slice none 0 0, .slice none 0 0], .bool false]) (by simp [results, Tryz.results152, go_sem, HOUT.out.1, HOUT.out.2.1]) rfl ⟨HOUT.out.2.2.1, .inl ⟨HN.out, _, _, _, _, _, _, rfl⟩⟩
        · have hb' : (!se == (s.extract 0 68).toList) = true := by rw [toList_is]; simpa using hb
          clear hqq ha hb
          go_wp2_with fail
          exact bodyPost_ret (v := .tuple #[.agg #[.slice none 0 0, .slice none 0 0], .bool false]) (by simp [results, Tryz.results152, go_sem, HOUT.out.1, HOUT.out.2.1]) rfl ⟨HOUT.out.2.2.1, .inl ⟨HN.out, _, _, _, _, _, _, rfl⟩⟩
      · have ha' : (!(s.extract 0 3).toList == [83, 50, 76]) = true := by rw [toList_is]; simpa using ha
        clear hqq ha
        go_wp2_with fail
        exact bodyPost_ret (v := .tuple #[.agg #[.slice none 0 0, .slice none 0 0], .bool false]) (by simp [results, Tryz.results152, go_sem, HOUT.out.1, HOUT.out.2.1]) rfl ⟨HOUT.out.2.2.1, .inl ⟨HN.out, _, _, _, _, _, _, rfl⟩⟩
end Go.Proofs.YtolgpnaoaodepaaGreat
/- The walks of Key, Change and Well (of leaves). -/
namespace Go.Proofs.YtolgpnaoaodepaaGreat
open Go.RowKit
set_option maxHeartbeats 400000 in
theorem key_any (s : ByteArray) (w : World) :
    Calls Tryz.prog 206 #[.string s] w fun r w' => r = .returned (.bool (Pg.isKey s.size)) ∧ w' = w := by
  go_enter Tryz.func206, Tryz.ntmps206
  go_wp2_with fail
  all_goals
    go_ret
    refine ⟨?_, rfl⟩
    by_cases h1 : 1 ≤ s.size <;> by_cases h2 : s.size ≤ 12 <;> simp [Pg.isKey, h1, h2] <;> omega
set_option maxHeartbeats 400000 in
theorem change_any (k : Int) (s v : ByteArray) (w : World) :
    Calls Tryz.prog 161 #[.agg #[.int .i64 k, .string s, .string v]] w fun r w' => r = .returned (.bool (Pg.isChange k s.size v.size)) ∧ Below w.heap.size w w' := by
  go_enter Tryz.func161, Tryz.ntmps161
  go_wp2_with fail
  refine (key_any s _).mono ?_
  rintro r w1 ⟨rfl, rfl⟩
  generalize hkk : Pg.isKey s.size = kk
  have HEM : Hid (v.toList.isEmpty = decide (v.size = 0)) := by
    show _ = _; rw [toList_is, ← len_size]; cases v.data.toList <;> simp
  cases kk
  · go_wp2_with fail
    all_goals
      go_ret
      exact ⟨by simp [Pg.isChange, hkk], (Below.refl _ w).alloc (Nat.le_refl _) _⟩
  · go_wp2_with fail
    all_goals
      go_ret
      refine ⟨?_, (Below.refl _ w).alloc (Nat.le_refl _) _⟩
      simp [Pg.isChange, HEM.out, *]
      try omega
end Go.Proofs.YtolgpnaoaodepaaGreat
/- The walk of Well, of leaves. -/
namespace Go.Proofs.YtolgpnaoaodepaaGreat
open Go.RowKit
set_option maxHeartbeats 1000000 in
set_option maxRecDepth 100000 in
theorem wellLeaf_any (v : Value) (a2 a3 a4 : Option Addr) (n2 n3 n4 p2 p3 p4 : Nat) (l : List (ByteArray × ByteArray)) (w : World) (hv : IsItems w v l) (hl : l.length ≤ 1000000000) :
    Calls Tryz.prog 151 #[.agg #[.int .i64 1, v, .slice a2 n2 p2, .slice a3 n3 p3, .slice a4 n4 p4]] w fun r w' => r = .returned (.bool (Pg.okFrom none (plain l) && decide (l.length ≤ 16) && decide (n2 = 0) && decide (n3 = 0) && decide (n4 = 0))) ∧ Below w.heap.size w w' := by
  rcases hv with ⟨va, vc, rfl, rfl⟩ | ⟨b, off, cap, rfl, hcap, hcap2, hbw, hit⟩
  · have HB0 := hid ((Below.refl w.heap.size w).alloc (Nat.le_refl _) (.cells #[.int .i64 1, .slice va 0 vc, .slice a2 n2 p2, .slice a3 n3 p3, .slice a4 n4 p4] 79))
    have HV0 : Hid ((w.alloc (.cells #[.int .i64 1, .slice va 0 vc, .slice a2 n2 p2, .slice a3 n3 p3, .slice a4 n4 p4] 79)).heap[w.heap.size]? = some (.cells #[.int .i64 1, .slice va 0 vc, .slice a2 n2 p2, .slice a3 n3 p3, .slice a4 n4 p4] 79 (0, 0))) := heap_alloc_new _ _
    go_enter Tryz.func151, Tryz.ntmps151
    go_wp2_with fail
    go_loopw [3] (fun i wr => i = .int .i64 0 ∧ wr.heap[w.heap.size]? = some (.cells #[.int .i64 1, .slice va 0 vc, .slice a2 n2 p2, .slice a3 n3 p3, .slice a4 n4 p4] 79 (0, 0)) ∧ Below w.heap.size w wr) (fun _ _ => 0)
    case atStart => exact ⟨rfl, HV0.out, HB0.out⟩
    case round =>
      obtain ⟨rfl, hnode, hbel⟩ := hrel
      have HBE := hid hbel
      obtain ⟨n0, n1, n2', n3', n4'⟩ := node_cells hnode
      clear hbel hnode
      have HT : Hid (Pg.okFrom none (plain []) = true) := rfl
      go_wp2_with fail
      all_goals
        go_ret
        refine ⟨?_, HBE.out⟩
        rw [HT.out]
        by_cases q2 : n2 = 0 <;> by_cases q3 : n3 = 0 <;> by_cases q4 : n4 = 0 <;> simp [q2, q3, q4] <;> omega
  · have HIT := hid hit
    clear hit
    have HB0 := hid ((Below.refl w.heap.size w).alloc (Nat.le_refl _) (.cells #[.int .i64 1, .slice (some ⟨b, off, none⟩) l.length cap, .slice a2 n2 p2, .slice a3 n3 p3, .slice a4 n4 p4] 79))
    have HV0 : Hid ((w.alloc (.cells #[.int .i64 1, .slice (some ⟨b, off, none⟩) l.length cap, .slice a2 n2 p2, .slice a3 n3 p3, .slice a4 n4 p4] 79)).heap[w.heap.size]? = some (.cells #[.int .i64 1, .slice (some ⟨b, off, none⟩) l.length cap, .slice a2 n2 p2, .slice a3 n3 p3, .slice a4 n4 p4] 79 (0, 0))) := heap_alloc_new _ _
    go_enter Tryz.func151, Tryz.ntmps151
    go_wp2_with fail
    go_loopw [3] (fun i wr => ∃ k : Nat, k ≤ l.length ∧ i = .int .i64 k ∧ Pg.okFrom (prevKey (plain l) k) (plain (l.drop k)) = Pg.okFrom none (plain l) ∧ wr.heap[w.heap.size]? = some (.cells #[.int .i64 1, .slice (some ⟨b, off, none⟩) l.length cap, .slice a2 n2 p2, .slice a3 n3 p3, .slice a4 n4 p4] 79 (0, 0)) ∧ Below w.heap.size w wr) (fun i _ => l.length - (intOf i).toNat)
    case atStart => exact ⟨0, Nat.zero_le _, rfl, rfl, HV0.out, HB0.out⟩
    case round =>
      obtain ⟨k, hk, rfl, heq, hnode, hbel⟩ := hrel
      have HEQ := hid heq
      have HND := hid hnode
      have HBE := hid hbel
      have hszr := hbel.size
      obtain ⟨n0, n1, n2', n3', n4'⟩ := node_cells hnode
      clear heq hbel hnode
      by_cases hkl : k < l.length
      · obtain ⟨c0, c1⟩ := HIT.out.below HBE.out hbw k hkl
        generalize hx : l[k]'hkl = x at *
        obtain ⟨kb, vb⟩ := x
        simp only at c0 c1
        have HNX : Hid (plain (l.drop k) = (kb.data.toList, vb.data.toList) :: plain (l.drop (k + 1))) := by
          show _ = _; rw [List.drop_eq_getElem_cons hkl, hx]; rfl
        have HPK : Hid (prevKey (plain l) (k + 1) = some kb.data.toList) := by
          show _ = _; unfold prevKey plain; rw [if_neg (by omega), Nat.add_sub_cancel, List.getElem?_map, List.getElem?_eq_getElem hkl, hx]; rfl
        clear hx
        rw [HNX.out, Pg.ok_cons, len_size, len_size] at HEQ
        have hi1 : (0 : Int) ≤ (k : Int) := by omega
        have hi2 : (k : Int) < (l.length : Int) := by omega
        go_wp2_with fail
        refine (key_any kb _).mono ?_
        rintro r w1 ⟨rfl, rfl⟩
        generalize hkk : Pg.isKey kb.size = kk at *
        cases kk
        · have HF : Hid (Pg.okFrom none (plain l) = false) := by
            show _ = _; rw [← HEQ.out]; rfl
          go_wp2_with fail
          go_quiet (fail)
          go_wp2_with fail
          go_ret
          exact ⟨by rw [HF.out]; rfl, below_drewN HBE.out _⟩
        · by_cases hv16 : 16 < vb.size
          · have HF : Hid (Pg.okFrom none (plain l) = false) := by
              show _ = _; rw [← HEQ.out, decide_eq_false (by omega)]; rfl
            have hd1 : decide ((16 : Int) < (vb.size : Int)) = true := by simp; omega
            go_wp2_with fail
            go_quiet (fail)
            go_wp2_with fail
            go_ret
            exact ⟨by rw [HF.out]; rfl, below_drewN HBE.out _⟩
          · have hd1 : decide ((16 : Int) < (vb.size : Int)) = false := by simp; omega
            by_cases hk0 : k = 0
            · have HG : Hid (Pg.okFrom (prevKey (plain l) (k + 1)) (plain (l.drop (k + 1))) = Pg.okFrom none (plain l)) := by
                show _ = _; rw [← HEQ.out, decide_eq_true (by omega), HPK.out, hk0]; rfl
              have hd2 : decide (0 < k) = false := by simp; omega
              clear hk0
              go_wp2_with fail
              go_quiet (fail)
              go_wp2_with fail
              go_roundw
              case rel => exact ⟨k + 1, by omega, by go_num, HG.out, HND.out, below_drewN HBE.out _⟩
              case measure => simp [intOf]; omega
            · have hd2 : decide (0 < k) = true := by simp; omega
              have hkp : k - 1 < l.length := by omega
              obtain ⟨e0, e1⟩ := HIT.out.below HBE.out hbw (k - 1) hkp
              have HPP : Hid (prevKey (plain l) k = some (l[k - 1]'hkp).1.data.toList) := by
                show _ = _; unfold prevKey plain; rw [if_neg hk0, List.getElem?_map, List.getElem?_eq_getElem hkp]; rfl
              generalize l[k - 1]'hkp = y at *
              obtain ⟨yb, yv⟩ := y
              simp only at e0 e1
              have hw1 : IntKind.i64.wrap ((k : Int) - 1) = ((k - 1 : Nat) : Int) := by rw [IntWalk.i64_in _ ⟨by omega, by omega⟩]; omega
              have hi3 : ((k - 1 : Nat) : Int) < (l.length : Int) := by omega
              have HKP : Hid (k - 1 < l.length) := hkp
              generalize hjp : k - 1 = jp at *
              clear hjp hkp
              by_cases hlt : yb.data.toList < kb.data.toList
              · have HG : Hid (Pg.okFrom (prevKey (plain l) (k + 1)) (plain (l.drop (k + 1))) = Pg.okFrom none (plain l)) := by
                  show _ = _; rw [← HEQ.out, decide_eq_true (by omega), HPK.out, HPP.out]; simp [Pg.rises, hlt]
                have hcmp : Op.bytesLess yb.toList kb.toList = true := by rw [toList_is, toList_is, less_is]; exact decide_eq_true hlt
                clear hlt
                go_wp2_with fail
                go_quiet (fail)
                go_wp2_with fail
                go_roundw
                case rel => exact ⟨k + 1, by omega, by go_num, HG.out, HND.out, below_drewN HBE.out _⟩
                case measure => simp [intOf]; omega
              · have HF : Hid (Pg.okFrom none (plain l) = false) := by
                  show _ = _; rw [← HEQ.out, HPP.out]; simp [Pg.rises, hlt]
                have hcmp : Op.bytesLess yb.toList kb.toList = false := by rw [toList_is, toList_is, less_is]; exact decide_eq_false hlt
                clear hlt
                go_wp2_with fail
                go_quiet (fail)
                go_wp2_with fail
                go_ret
                exact ⟨by rw [HF.out]; rfl, below_drewN HBE.out _⟩
      · obtain rfl : k = l.length := by omega
        have HT : Hid (Pg.okFrom none (plain l) = true) := by
          show _ = _; rw [← HEQ.out, List.drop_length]; rfl
        go_wp2_with fail
        all_goals
          go_ret
          refine ⟨?_, HBE.out⟩
          rw [HT.out]
          by_cases q1 : l.length ≤ 16 <;> by_cases q2 : n2 = 0 <;> by_cases q3 : n3 = 0 <;> by_cases q4 : n4 = 0 <;> simp [q1, q2, q3, q4] <;> omega
end Go.Proofs.YtolgpnaoaodepaaGreat
