/- The walks of high and of a cursor's methods. -/
import Derived.Test.YtolgpnaoaodepaaGreatRefCm
import Derived.Test.YtolgpnaoaodepaaGreatMathBm
namespace Go.Proofs.YtolgpnaoaodepaaGreat
open Go.RowKit
set_option maxHeartbeats 1000000 in
theorem high_any (s : ByteArray) (w : World) (hs : s.size ≤ 7) :
    Calls Tryz.prog 207 #[.string s] w fun r w' => r = .returned (.int .i64 (Pg.high s.data.toList)) ∧ w' = w := by
  go_enter Tryz.func207, Tryz.ntmps207
  go_wp2_with fail
  go_loop [3, 4] (fun n i => ∃ k : Nat, k ≤ s.size ∧ i = .int .i64 ((k : Int) - 1) ∧ n = .int .i64 (Pg.high (s.data.toList.drop k))) (fun _ i => (intOf i + 1).toNat)
  case atStart => exact ⟨s.size, Nat.le_refl _, rfl, by rw [List.drop_eq_nil_of_le (by rw [len_size]; exact Nat.le_refl _)]; rfl⟩
  case round =>
    obtain ⟨k, hk, rfl, rfl⟩ := hrel
    by_cases h0 : 0 < k
    · obtain ⟨j, rfl⟩ : ∃ j, k = j + 1 := ⟨k - 1, by omega⟩
      have hj : j < s.size := by omega
      have HS := hid (high_step s j hj)
      have hlt := Pg.high_lt (s.data.toList.drop (j + 1)) 6 (by rw [List.length_drop, len_size]; omega)
      rw [show (256 : Nat) ^ 6 = 281474976710656 from rfl] at hlt
      have hb : (s[j]'hj).toNat < 256 := (s[j]'hj).toNat_lt
      generalize Pg.high (s.data.toList.drop (j + 1)) = n at *
      rw [show (((j + 1 : Nat) : Int) - 1) = (j : Int) by omega]
      go_wp2_with fail
      go_round
      case rel => exact ⟨j, by omega, int_eq (by omega), by rw [HS.out]; exact int_eq (by omega)⟩
      case measure => simp [intOf]
    · obtain rfl : k = 0 := by omega
      go_wp2_with fail
      go_ret
      exact ⟨rfl, rfl⟩
set_option maxHeartbeats 1000000 in
theorem take_any (b n : Nat) (c : Pg.Cur) (w : World) (hc : Curs w b c) (hn : n ≤ 1000000000) :
    Calls Tryz.prog 209 #[.pointer (some ⟨b, 0, none⟩), .int .i64 n] w fun r w' => r = .returned (.string ⟨(c.take n).1.toArray⟩) ∧ Curs w' b (c.take n).2 ∧ But b w w' := by
  obtain ⟨s, a, hca, has, hss, hrem⟩ := hc
  have hrl := rem_len hrem has
  have HCA := hid hca
  have HREM := hid hrem
  obtain ⟨c0, c1, c2, z1, z2⟩ := hca.cells
  clear hca hrem
  obtain ⟨rem, bad⟩ := c
  simp only at *
  cases bad with
  | true =>
    have HT := hid (Pg.take_no (c := ⟨rem, true⟩) (n := n) (fun h => by cases h.1))
    by_cases h300 : n ≤ 300
    · go_enter Tryz.func209, Tryz.ntmps209
      go_wp2_with fail
      go_quiet (fail)
      have HB2 := hid (HCA.out.drewN nq).setBad
      have HU2 := hid (but_trans (but_drewN b w nq) (but_set b 2 (w.drewN nq) (.bool true)))
      go_wp2_with (first
        | (at_make; refine wpMk _ rfl (.tmp 36) (.tmp 36) rfl n rfl rfl (by omega) ?_))
      intro w3 ho hb3 _
      have hcv := ho.str
      have HC3 := hid (HB2.out.belowAt hb3 HCA.out.lt)
      have HU3 := hid (but_trans HU2.out (but_belowAt hb3 (by simp [World.setCell])))
      clear ho hb3
      generalize List.replicate n (0 : UInt8) = l at *
      go_wp2_with fail
      go_ret
      rw [HT.out, if_pos h300]
      exact ⟨rfl, ⟨s, a, HC3.out, has, hss, HREM.out⟩, HU3.out⟩
    · go_enter Tryz.func209, Tryz.ntmps209
      go_wp2_with fail
      go_quiet (fail)
      have HB2 := hid (HCA.out.drewN nq).setBad
      have HU2 := hid (but_trans (but_drewN b w nq) (but_set b 2 (w.drewN nq) (.bool true)))
      go_wp2_with fail
      go_ret
      rw [HT.out, if_neg h300]
      exact ⟨rfl, ⟨s, a, HB2.out, has, hss, HREM.out⟩, HU2.out⟩
  | false =>
    by_cases hlt : n ≤ rem.length
    · have HT := hid (Pg.take_yes (c := ⟨rem, false⟩) rfl hlt)
      have hd : decide ((n : Int) < 0) = false := by simp
      have hle : (n : Int) ≤ (s.size : Int) - (a : Int) := by omega
      go_enter Tryz.func209, Tryz.ntmps209
      go_wp2_with fail
      go_quiet (fail)
      go_wp2_with fail
      have HB2 := hid ((HCA.out.drewN nq).setAt (a + n) ((a : Int) + (n : Int)) (by omega))
      have HU2 := hid (but_trans (but_drewN b w nq) (but_set b 1 (w.drewN nq) (.int .i64 ((a : Int) + (n : Int)))))
      generalize (w.drewN nq).setCell ⟨b, 1, none⟩ (.int .i64 ((a : Int) + (n : Int))) = w2 at *
      obtain ⟨d0, d1, d2, _, _⟩ := HB2.out.cells
      have hi1 : (0 : Int) ≤ ((a + n : Nat) : Int) - (n : Int) := by omega
      have hi2 : ((a + n : Nat) : Int) - (n : Int) ≤ ((a + n : Nat) : Int) := by omega
      have hi3 : ((a + n : Nat) : Int) ≤ (s.size : Int) := by omega
      have ew : IntKind.i64.wrap (((a + n : Nat) : Int) - (n : Int)) = (a : Int) := by rw [IntWalk.i64_in _ ⟨by omega, by omega⟩]; omega
      clear c0 c1 c2 z1 z2
      go_quiet (fail)
      go_wp2_with fail
      go_ret
      rw [HT.out]
      refine ⟨ret_str ?_, ⟨s, a + n, HB2.out.drewN _, by omega, hss, ?_⟩, but_trans HU2.out (but_drewN _ _ _)⟩
      · rw [HREM.out, Lib.extract_data, show a + n - a = n by omega]
      · rw [HREM.out, List.drop_drop]
    · have HT := hid (Pg.take_no (c := ⟨rem, false⟩) (n := n) (fun h => hlt h.2))
      have hd : decide ((n : Int) < 0) = false := by simp
      have hle : (s.size : Int) - (a : Int) < (n : Int) := by omega
      by_cases h300 : n ≤ 300
      · go_enter Tryz.func209, Tryz.ntmps209
        go_wp2_with fail
        go_quiet (fail)
        have HB2 := hid (HCA.out.drewN nq).setBad
        have HU2 := hid (but_trans (but_drewN b w nq) (but_set b 2 (w.drewN nq) (.bool true)))
        go_wp2_with (first
          | (at_make; refine wpMk _ rfl (.tmp 36) (.tmp 36) rfl n rfl rfl (by omega) ?_))
        intro w3 ho hb3 _
        have hcv := ho.str
        have HC3 := hid (HB2.out.belowAt hb3 HCA.out.lt)
        have HU3 := hid (but_trans HU2.out (but_belowAt hb3 (by simp [World.setCell])))
        clear ho hb3
        generalize List.replicate n (0 : UInt8) = l at *
        go_wp2_with fail
        go_ret
        rw [HT.out, if_pos h300]
        exact ⟨rfl, ⟨s, a, HC3.out, has, hss, HREM.out⟩, HU3.out⟩
      · go_enter Tryz.func209, Tryz.ntmps209
        go_wp2_with fail
        go_quiet (fail)
        have HB2 := hid (HCA.out.drewN nq).setBad
        have HU2 := hid (but_trans (but_drewN b w nq) (but_set b 2 (w.drewN nq) (.bool true)))
        go_wp2_with fail
        go_ret
        rw [HT.out, if_neg h300]
        exact ⟨rfl, ⟨s, a, HB2.out, has, hss, HREM.out⟩, HU2.out⟩
end Go.Proofs.YtolgpnaoaodepaaGreat
/- The walks of a cursor's number, text and ends. -/
namespace Go.Proofs.YtolgpnaoaodepaaGreat
open Go.RowKit
set_option maxHeartbeats 4000000 in
set_option maxRecDepth 100000 in
theorem number_c (b : Nat) (c0 : Pg.Cur) (w : World) (hc : Curs w b c0) :
    Calls Tryz.prog 212 #[.pointer (some ⟨b, 0, none⟩)] w fun r w' => r = .returned (.int .i64 c0.number.1) ∧ Curs w' b c0.number.2 ∧ But b w w' := by
  have HC0 := hid hc
  clear hc
  go_enter Tryz.func212, Tryz.ntmps212
  go_wp2_with fail
  go_loopw [3, 4, 5] (fun n t i wr => ∃ (k m : Nat) (c : Pg.Cur), k ≤ 5 ∧ i = .int .i64 k ∧ n = .int .i64 m ∧ t = .int .i64 (128 ^ k : Nat) ∧ m < 128 ^ k ∧ Curs wr b c ∧ But b w wr ∧ Pg.numberF (5 - k) c m (128 ^ k) (decide (k = 0)) = c0.number) (fun _ _ i _ => 5 - (intOf i).toNat)
  case atStart => exact ⟨0, 0, c0, by omega, rfl, rfl, rfl, by decide, HC0.out, but_refl _ _, rfl⟩
  case round =>
    obtain ⟨k, m, c, hk, rfl, rfl, rfl, hm, hcu, hbu, heq⟩ := hrel
    have HCU := hid hcu
    have HBU := hid hbu
    clear hcu hbu
    have hbl := Pg.byte_lt c
    rcases (show k = 5 ∨ k = 0 ∨ k = 1 ∨ k = 2 ∨ k = 3 ∨ k = 4 by omega) with rfl | rfl | rfl | rfl | rfl | rfl
    · obtain ⟨d2, z2⟩ := HCU.out.cells
      have HF : Hid (c0.number = (0, ⟨c.rem, true⟩)) := heq.symm
      clear heq
      go_wp2_with fail
      go_ret
      rw [HF.out]
      exact ⟨rfl, HCU.out.bad, but_trans HBU.out (but_set _ _ _ _)⟩
    · simp only [Nat.reducePow, Nat.reduceSub] at hm heq ⊢
      have HEQ : Hid (Pg.numberF (4 + 1) c m 1 true = c0.number) := heq
      clear heq
      go_wp2_with fail
      refine (take_any b 1 c _ HCU.out (by omega)).mono ?_
      rintro r w1 ⟨rfl, hc1, hb1⟩
      have HC1 := hid hc1
      have HB1 := hid (but_trans HBU.out hb1)
      clear hc1 hb1
      go_wp2_with fail
      refine (high_any _ _ (by rw [byte_any c]; omega)).mono ?_
      rintro r w2 ⟨rfl, rfl⟩
      rw [show (Pg.high (⟨(c.take 1).1.toArray⟩ : ByteArray).data.toList) = c.byte by simp [Pg.Cur.byte]]
      obtain ⟨d2, z2⟩ := HC1.out.cells
      by_cases hb128 : c.byte < 128
      · by_cases hbad : (c.take 1).2.bad = true
        · have HF := hid (HEQ.out.symm.trans (number_bad _ _ _ _ _ hb128 (.inl hbad)))
          rw [hbad] at d2
          generalize c.byte = bt at *
          generalize (c.take 1).2 = c1 at *
          go_wp2_with fail
          go_ret
          rw [HF.out]
          exact ⟨rfl, HC1.out.bad, but_trans HB1.out (but_set _ _ _ _)⟩
        · have hbad' : (c.take 1).2.bad = false := by simpa using hbad
          rw [hbad'] at d2
          by_cases hq : (c.byte = 0 ∧ true = false) ∨ 2147483647 < m + c.byte % 128 * 1
          · exfalso
            rcases hq with h | h
            · cases h.2
            · omega
          · have HF := hid (HEQ.out.symm.trans (number_end _ _ _ _ _ hb128 (fun h' => h'.elim (fun e => hbad e) hq)))
            generalize c.byte = bt at *
            generalize (c.take 1).2 = c1 at *
            by_cases hz : bt = 0
            · have hz' : ((bt : Int) == 0) = true := by simpa using hz
              have hsm : m + bt % 128 * 1 ≤ 2147483647 := by omega
              have HQ := hid hq
              clear hq
              go_wp2_with fail
              go_ret
              rw [HF.out]
              exact ⟨ret_int (by omega), HC1.out, HB1.out⟩
            · have hz' : ((bt : Int) == 0) = false := by simpa using hz
              have hsm : m + bt % 128 * 1 ≤ 2147483647 := by omega
              clear hq
              go_wp2_with fail
              go_ret
              rw [HF.out]
              exact ⟨ret_int (by omega), HC1.out, HB1.out⟩
      · have HF := hid (HEQ.out.symm.trans (number_go _ _ _ _ _ hb128))
        generalize c.byte = bt at *
        generalize (c.take 1).2 = c1 at *
        go_wp2_with fail
        go_roundw
        case rel => exact ⟨1, m + bt % 128 * 1, c1, by omega, rfl, int_eq (by omega), rfl, by show _ < 128; omega, HC1.out, HB1.out, HF.out.symm⟩
        case measure => simp [intOf]
    · simp only [Nat.reducePow, Nat.reduceSub] at hm heq ⊢
      have HEQ : Hid (Pg.numberF (3 + 1) c m 128 false = c0.number) := heq
      clear heq
      go_wp2_with fail
      refine (take_any b 1 c _ HCU.out (by omega)).mono ?_
      rintro r w1 ⟨rfl, hc1, hb1⟩
      have HC1 := hid hc1
      have HB1 := hid (but_trans HBU.out hb1)
      clear hc1 hb1
      go_wp2_with fail
      refine (high_any _ _ (by rw [byte_any c]; omega)).mono ?_
      rintro r w2 ⟨rfl, rfl⟩
      rw [show (Pg.high (⟨(c.take 1).1.toArray⟩ : ByteArray).data.toList) = c.byte by simp [Pg.Cur.byte]]
      obtain ⟨d2, z2⟩ := HC1.out.cells
      by_cases hb128 : c.byte < 128
      · by_cases hbad : (c.take 1).2.bad = true
        · have HF := hid (HEQ.out.symm.trans (number_bad _ _ _ _ _ hb128 (.inl hbad)))
          rw [hbad] at d2
          generalize c.byte = bt at *
          generalize (c.take 1).2 = c1 at *
          go_wp2_with fail
          go_ret
          rw [HF.out]
          exact ⟨rfl, HC1.out.bad, but_trans HB1.out (but_set _ _ _ _)⟩
        · have hbad' : (c.take 1).2.bad = false := by simpa using hbad
          rw [hbad'] at d2
          by_cases hq : (c.byte = 0 ∧ false = false) ∨ 2147483647 < m + c.byte % 128 * 128
          · have HF := hid (HEQ.out.symm.trans (number_bad _ _ _ _ _ hb128 (.inr hq)))
            generalize c.byte = bt at *
            generalize (c.take 1).2 = c1 at *
            by_cases hz : bt = 0
            · have hz' : ((bt : Int) == 0) = true := by simpa using hz
              go_wp2_with fail
              go_ret
              rw [HF.out]
              exact ⟨rfl, HC1.out.bad, but_trans HB1.out (but_set _ _ _ _)⟩
            · exfalso
              rcases hq with h | h
              · exact hz h.1
              · omega
          · have HF := hid (HEQ.out.symm.trans (number_end _ _ _ _ _ hb128 (fun h' => h'.elim (fun e => hbad e) hq)))
            generalize c.byte = bt at *
            generalize (c.take 1).2 = c1 at *
            by_cases hz : bt = 0
            · have hz' : ((bt : Int) == 0) = true := by simpa using hz
              have hsm : m + bt % 128 * 128 ≤ 2147483647 := by omega
              have HQ := hid hq
              clear hq
              exact absurd (.inl ⟨hz, rfl⟩) HQ.out
            · have hz' : ((bt : Int) == 0) = false := by simpa using hz
              have hsm : m + bt % 128 * 128 ≤ 2147483647 := by omega
              clear hq
              go_wp2_with fail
              go_ret
              rw [HF.out]
              exact ⟨ret_int (by omega), HC1.out, HB1.out⟩
      · have HF := hid (HEQ.out.symm.trans (number_go _ _ _ _ _ hb128))
        generalize c.byte = bt at *
        generalize (c.take 1).2 = c1 at *
        go_wp2_with fail
        go_roundw
        case rel => exact ⟨2, m + bt % 128 * 128, c1, by omega, rfl, int_eq (by omega), rfl, by show _ < 16384; omega, HC1.out, HB1.out, HF.out.symm⟩
        case measure => simp [intOf]
    · simp only [Nat.reducePow, Nat.reduceSub] at hm heq ⊢
      have HEQ : Hid (Pg.numberF (2 + 1) c m 16384 false = c0.number) := heq
      clear heq
      go_wp2_with fail
      refine (take_any b 1 c _ HCU.out (by omega)).mono ?_
      rintro r w1 ⟨rfl, hc1, hb1⟩
      have HC1 := hid hc1
      have HB1 := hid (but_trans HBU.out hb1)
      clear hc1 hb1
      go_wp2_with fail
      refine (high_any _ _ (by rw [byte_any c]; omega)).mono ?_
      rintro r w2 ⟨rfl, rfl⟩
      rw [show (Pg.high (⟨(c.take 1).1.toArray⟩ : ByteArray).data.toList) = c.byte by simp [Pg.Cur.byte]]
      obtain ⟨d2, z2⟩ := HC1.out.cells
      by_cases hb128 : c.byte < 128
      · by_cases hbad : (c.take 1).2.bad = true
        · have HF := hid (HEQ.out.symm.trans (number_bad _ _ _ _ _ hb128 (.inl hbad)))
          rw [hbad] at d2
          generalize c.byte = bt at *
          generalize (c.take 1).2 = c1 at *
          go_wp2_with fail
          go_ret
          rw [HF.out]
          exact ⟨rfl, HC1.out.bad, but_trans HB1.out (but_set _ _ _ _)⟩
        · have hbad' : (c.take 1).2.bad = false := by simpa using hbad
          rw [hbad'] at d2
          by_cases hq : (c.byte = 0 ∧ false = false) ∨ 2147483647 < m + c.byte % 128 * 16384
          · have HF := hid (HEQ.out.symm.trans (number_bad _ _ _ _ _ hb128 (.inr hq)))
            generalize c.byte = bt at *
            generalize (c.take 1).2 = c1 at *
            by_cases hz : bt = 0
            · have hz' : ((bt : Int) == 0) = true := by simpa using hz
              go_wp2_with fail
              go_ret
              rw [HF.out]
              exact ⟨rfl, HC1.out.bad, but_trans HB1.out (but_set _ _ _ _)⟩
            · exfalso
              rcases hq with h | h
              · exact hz h.1
              · omega
          · have HF := hid (HEQ.out.symm.trans (number_end _ _ _ _ _ hb128 (fun h' => h'.elim (fun e => hbad e) hq)))
            generalize c.byte = bt at *
            generalize (c.take 1).2 = c1 at *
            by_cases hz : bt = 0
            · have hz' : ((bt : Int) == 0) = true := by simpa using hz
              have hsm : m + bt % 128 * 16384 ≤ 2147483647 := by omega
              have HQ := hid hq
              clear hq
              exact absurd (.inl ⟨hz, rfl⟩) HQ.out
            · have hz' : ((bt : Int) == 0) = false := by simpa using hz
              have hsm : m + bt % 128 * 16384 ≤ 2147483647 := by omega
              clear hq
              go_wp2_with fail
              go_ret
              rw [HF.out]
              exact ⟨ret_int (by omega), HC1.out, HB1.out⟩
      · have HF := hid (HEQ.out.symm.trans (number_go _ _ _ _ _ hb128))
        generalize c.byte = bt at *
        generalize (c.take 1).2 = c1 at *
        go_wp2_with fail
        go_roundw
        case rel => exact ⟨3, m + bt % 128 * 16384, c1, by omega, rfl, int_eq (by omega), rfl, by show _ < 2097152; omega, HC1.out, HB1.out, HF.out.symm⟩
        case measure => simp [intOf]
    · simp only [Nat.reducePow, Nat.reduceSub] at hm heq ⊢
      have HEQ : Hid (Pg.numberF (1 + 1) c m 2097152 false = c0.number) := heq
      clear heq
      go_wp2_with fail
      refine (take_any b 1 c _ HCU.out (by omega)).mono ?_
      rintro r w1 ⟨rfl, hc1, hb1⟩
      have HC1 := hid hc1
      have HB1 := hid (but_trans HBU.out hb1)
      clear hc1 hb1
      go_wp2_with fail
      refine (high_any _ _ (by rw [byte_any c]; omega)).mono ?_
      rintro r w2 ⟨rfl, rfl⟩
      rw [show (Pg.high (⟨(c.take 1).1.toArray⟩ : ByteArray).data.toList) = c.byte by simp [Pg.Cur.byte]]
      obtain ⟨d2, z2⟩ := HC1.out.cells
      by_cases hb128 : c.byte < 128
      · by_cases hbad : (c.take 1).2.bad = true
        · have HF := hid (HEQ.out.symm.trans (number_bad _ _ _ _ _ hb128 (.inl hbad)))
          rw [hbad] at d2
          generalize c.byte = bt at *
          generalize (c.take 1).2 = c1 at *
          go_wp2_with fail
          go_ret
          rw [HF.out]
          exact ⟨rfl, HC1.out.bad, but_trans HB1.out (but_set _ _ _ _)⟩
        · have hbad' : (c.take 1).2.bad = false := by simpa using hbad
          rw [hbad'] at d2
          by_cases hq : (c.byte = 0 ∧ false = false) ∨ 2147483647 < m + c.byte % 128 * 2097152
          · have HF := hid (HEQ.out.symm.trans (number_bad _ _ _ _ _ hb128 (.inr hq)))
            generalize c.byte = bt at *
            generalize (c.take 1).2 = c1 at *
            by_cases hz : bt = 0
            · have hz' : ((bt : Int) == 0) = true := by simpa using hz
              go_wp2_with fail
              go_ret
              rw [HF.out]
              exact ⟨rfl, HC1.out.bad, but_trans HB1.out (but_set _ _ _ _)⟩
            · exfalso
              rcases hq with h | h
              · exact hz h.1
              · omega
          · have HF := hid (HEQ.out.symm.trans (number_end _ _ _ _ _ hb128 (fun h' => h'.elim (fun e => hbad e) hq)))
            generalize c.byte = bt at *
            generalize (c.take 1).2 = c1 at *
            by_cases hz : bt = 0
            · have hz' : ((bt : Int) == 0) = true := by simpa using hz
              have hsm : m + bt % 128 * 2097152 ≤ 2147483647 := by omega
              have HQ := hid hq
              clear hq
              exact absurd (.inl ⟨hz, rfl⟩) HQ.out
            · have hz' : ((bt : Int) == 0) = false := by simpa using hz
              have hsm : m + bt % 128 * 2097152 ≤ 2147483647 := by omega
              clear hq
              go_wp2_with fail
              go_ret
              rw [HF.out]
              exact ⟨ret_int (by omega), HC1.out, HB1.out⟩
      · have HF := hid (HEQ.out.symm.trans (number_go _ _ _ _ _ hb128))
        generalize c.byte = bt at *
        generalize (c.take 1).2 = c1 at *
        go_wp2_with fail
        go_roundw
        case rel => exact ⟨4, m + bt % 128 * 2097152, c1, by omega, rfl, int_eq (by omega), rfl, by show _ < 268435456; omega, HC1.out, HB1.out, HF.out.symm⟩
        case measure => simp [intOf]
    · simp only [Nat.reducePow, Nat.reduceSub] at hm heq ⊢
      have HEQ : Hid (Pg.numberF (0 + 1) c m 268435456 false = c0.number) := heq
      clear heq
      go_wp2_with fail
      refine (take_any b 1 c _ HCU.out (by omega)).mono ?_
      rintro r w1 ⟨rfl, hc1, hb1⟩
      have HC1 := hid hc1
      have HB1 := hid (but_trans HBU.out hb1)
      clear hc1 hb1
      go_wp2_with fail
      refine (high_any _ _ (by rw [byte_any c]; omega)).mono ?_
      rintro r w2 ⟨rfl, rfl⟩
      rw [show (Pg.high (⟨(c.take 1).1.toArray⟩ : ByteArray).data.toList) = c.byte by simp [Pg.Cur.byte]]
      obtain ⟨d2, z2⟩ := HC1.out.cells
      by_cases hb128 : c.byte < 128
      · by_cases hbad : (c.take 1).2.bad = true
        · have HF := hid (HEQ.out.symm.trans (number_bad _ _ _ _ _ hb128 (.inl hbad)))
          rw [hbad] at d2
          generalize c.byte = bt at *
          generalize (c.take 1).2 = c1 at *
          go_wp2_with fail
          go_ret
          rw [HF.out]
          exact ⟨rfl, HC1.out.bad, but_trans HB1.out (but_set _ _ _ _)⟩
        · have hbad' : (c.take 1).2.bad = false := by simpa using hbad
          rw [hbad'] at d2
          by_cases hq : (c.byte = 0 ∧ false = false) ∨ 2147483647 < m + c.byte % 128 * 268435456
          · have HF := hid (HEQ.out.symm.trans (number_bad _ _ _ _ _ hb128 (.inr hq)))
            generalize c.byte = bt at *
            generalize (c.take 1).2 = c1 at *
            by_cases hz : bt = 0
            · have hz' : ((bt : Int) == 0) = true := by simpa using hz
              go_wp2_with fail
              go_ret
              rw [HF.out]
              exact ⟨rfl, HC1.out.bad, but_trans HB1.out (but_set _ _ _ _)⟩
            · have hz' : ((bt : Int) == 0) = false := by simpa using hz
              have hbig : 2147483647 < m + bt % 128 * 268435456 := by omega
              clear hq
              go_wp2_with fail
              go_ret
              rw [HF.out]
              exact ⟨rfl, HC1.out.bad, but_trans HB1.out (but_set _ _ _ _)⟩
          · have HF := hid (HEQ.out.symm.trans (number_end _ _ _ _ _ hb128 (fun h' => h'.elim (fun e => hbad e) hq)))
            generalize c.byte = bt at *
            generalize (c.take 1).2 = c1 at *
            by_cases hz : bt = 0
            · have hz' : ((bt : Int) == 0) = true := by simpa using hz
              have hsm : m + bt % 128 * 268435456 ≤ 2147483647 := by omega
              have HQ := hid hq
              clear hq
              exact absurd (.inl ⟨hz, rfl⟩) HQ.out
            · have hz' : ((bt : Int) == 0) = false := by simpa using hz
              have hsm : m + bt % 128 * 268435456 ≤ 2147483647 := by omega
              clear hq
              go_wp2_with fail
              go_ret
              rw [HF.out]
              exact ⟨ret_int (by omega), HC1.out, HB1.out⟩
      · have HF := hid (HEQ.out.symm.trans (number_go _ _ _ _ _ hb128))
        generalize c.byte = bt at *
        generalize (c.take 1).2 = c1 at *
        go_wp2_with fail
        go_roundw
        case rel => exact ⟨5, m + bt % 128 * 268435456, c1, by omega, rfl, int_eq (by omega), rfl, by show _ < 34359738368; omega, HC1.out, HB1.out, HF.out.symm⟩
        case measure => simp [intOf]
set_option maxHeartbeats 1000000 in
theorem text_c (b most : Nat) (c : Pg.Cur) (w : World) (hc : Curs w b c) (hm : most ≤ 1000000000) :
    Calls Tryz.prog 210 #[.pointer (some ⟨b, 0, none⟩), .int .i64 most] w fun r w' => r = .returned (.string ⟨(c.text most).1.toArray⟩) ∧ Curs w' b (c.text most).2 ∧ But b w w' := by
  have HC := hid hc
  clear hc
  have hnl := number_lt c
  go_enter Tryz.func210, Tryz.ntmps210
  go_wp2_with fail
  refine (number_c b c _ HC.out).mono ?_
  rintro r w1 ⟨rfl, hc1, hb1⟩
  have HC1 := hid hc1
  have HB1 := hid hb1
  obtain ⟨d2, z2⟩ := hc1.cells
  clear hc1 hb1
  by_cases hgt : most < c.number.1
  · have HT : Hid (c.text most = ([], ⟨c.number.2.rem, true⟩)) := by show _ = _; unfold Pg.Cur.text; rw [if_pos hgt]
    generalize c.number.1 = n at *
    generalize c.number.2 = c1 at *
    go_wp2_with fail
    go_ret
    rw [HT.out]
    exact ⟨rfl, HC1.out.bad, but_trans HB1.out (but_set _ _ _ _)⟩
  · have HT : Hid (c.text most = c.number.2.take c.number.1) := by show _ = _; unfold Pg.Cur.text; rw [if_neg hgt]
    generalize c.number.1 = n at *
    generalize c.number.2 = c1 at *
    go_wp2_with fail
    refine (take_any b n c1 _ HC1.out (by omega)).mono ?_
    rintro r w2 ⟨rfl, hc2, hb2⟩
    go_wp2_with fail
    go_ret
    rw [HT.out]
    exact ⟨rfl, hc2, but_trans HB1.out hb2⟩
set_option maxHeartbeats 1000000 in
theorem ends_c (b : Nat) (c : Pg.Cur) (w : World) (hc : Curs w b c) :
    Calls Tryz.prog 211 #[.pointer (some ⟨b, 0, none⟩)] w fun r w' => r = .returned (.bool c.ends) ∧ ∃ q, w' = w.drewN q := by
  obtain ⟨s, a, hca, has, hss, hrem⟩ := hc
  have hrl := rem_len hrem has
  obtain ⟨c0, c1, c2, z1, z2⟩ := hca.cells
  clear hca hrem
  obtain ⟨rem, bad⟩ := c
  simp only at *
  cases bad with
  | true =>
    have hd : (!true) = false := rfl
    go_enter Tryz.func211, Tryz.ntmps211
    go_wp2_with fail
    go_quiet (fail)
    go_wp2_with fail
    go_ret
    exact ⟨rfl, _, rfl⟩
  | false =>
    have HE : Hid ((⟨rem, false⟩ : Pg.Cur).ends = ((a : Int) == (s.size : Int))) := by
      show _ = _
      unfold Pg.Cur.ends
      by_cases h : a = s.size
      · have h0 : rem = [] := List.length_eq_zero_iff.1 (by omega)
        subst h0; simp [h]
      · have h0 : rem ≠ [] := fun e => by subst e; simp at hrl; omega
        have h1 : ((a : Int) == (s.size : Int)) = false := by simp; omega
        rw [h1]; simp [h0]
    go_enter Tryz.func211, Tryz.ntmps211
    go_wp2_with fail
    go_quiet (fail)
    go_wp2_with fail
    go_ret
    rw [HE.out]
    exact ⟨rfl, _, rfl⟩
end Go.Proofs.YtolgpnaoaodepaaGreat
/- The walk of content. -/
namespace Go.Proofs.YtolgpnaoaodepaaGreat
open Go.RowKit
set_option maxHeartbeats 2000000 in
set_option maxRecDepth 20000 in
theorem content_any (k s : ByteArray) (w : World) (hk : k.size ≤ 1000) (hs : s.size ≤ 1000000000) :
    Calls Tryz.prog 208 #[.string k, .string s] w fun r w' => r = .returned (.tuple #[.string ⟨(Pg.content k.data.toList s.data.toList).1.toArray⟩, .bool (Pg.content k.data.toList s.data.toList).2]) ∧ Below w.heap.size w w' := by
  have hnn := number_lt (Pg.secB s.data.toList).2
  have htl : (Pg.secT s.data.toList).1.length ≤ 1000000000 := Pg.text_short _ _ (by rw [len_size]; exact hs)
  have HLS := hid (len_size s)
  go_enter Tryz.func208, Tryz.ntmps208
  go_wp2_with fail
  refine (take_any w.heap.size 1 ⟨s.data.toList, false⟩ _ (curs_new s w hs) (by omega)).mono ?_
  rintro r w1 ⟨rfl, hc1, hb1⟩
  rw [show (⟨s.data.toList, false⟩ : Pg.Cur).take 1 = Pg.secA s.data.toList from rfl] at *
  have HC1 := hid hc1
  have HB1 := hid hb1
  clear hc1 hb1
  go_wp2_with fail
  refine (take_any w.heap.size 1 _ _ HC1.out (by omega)).mono ?_
  rintro r w2 ⟨rfl, hc2, hb2⟩
  rw [show (Pg.secA s.data.toList).2.take 1 = Pg.secB s.data.toList from rfl] at *
  have HC2 := hid hc2
  have HB2 := hid (but_trans HB1.out hb2)
  clear hc2 hb2
  go_wp2_with fail
  refine (high_any _ _ (by rw [size_mk]; unfold Pg.secB; rw [Pg.take_len _ 1 (by decide)]; omega)).mono ?_
  rintro r w3 ⟨rfl, rfl⟩
  rw [show Pg.high (⟨(Pg.secB s.data.toList).1.toArray⟩ : ByteArray).data.toList = Pg.high (Pg.secB s.data.toList).1 by simp]
  have hm : Pg.high (Pg.secB s.data.toList).1 < 256 := Pg.byte_lt (Pg.secA s.data.toList).2
  go_wp2_with fail
  refine (number_c w.heap.size _ _ HC2.out).mono ?_
  rintro r w4 ⟨rfl, hc4, hb4⟩
  rw [show (Pg.secB s.data.toList).2.number = Pg.secN s.data.toList from rfl] at *
  have HC4 := hid hc4
  have HB4 := hid (but_trans HB2.out hb4)
  clear hc4 hb4
  go_wp2_with fail
  refine (text_c w.heap.size s.size _ _ HC4.out (by omega)).mono ?_
  rintro r w5 ⟨rfl, hc5, hb5⟩
  rw [show (Pg.secN s.data.toList).2.text s.size = Pg.secT s.data.toList by unfold Pg.secT; rw [len_size]] at *
  have HC5 := hid hc5
  have HB5 := hid (but_trans HB4.out hb5)
  clear hc5 hb5
  go_wp2_with fail
  refine (take_any w.heap.size 4 _ _ HC5.out (by omega)).mono ?_
  rintro r w6 ⟨rfl, hc6, hb6⟩
  rw [show (Pg.secT s.data.toList).2.take 4 = Pg.secE s.data.toList from rfl] at *
  have HC6 := hid hc6
  have HB6 := hid (but_trans HB5.out hb6)
  clear hc6 hb6
  go_wp2_with fail
  refine (ends_c w.heap.size _ _ HC6.out).mono ?_
  rintro r w7 ⟨rfl, q, rfl⟩
  have HB7 := hid (below_of_but (but_trans HB6.out (but_drewN _ _ q)))
  have hsz7 := HB7.out.size
  generalize hw7 : w6.drewN q = w7 at *
  clear hw7
  clear HC1 HC2 HC4 HC5 HC6 HB1 HB2 HB4 HB5 HB6
  by_cases hq : (Pg.secE s.data.toList).2.ends = false ∨ (Pg.secA s.data.toList).1 ≠ k.data.toList ∨ 1 < Pg.high (Pg.secB s.data.toList).1
  · have HCN := hid (Pg.content_no hq)
    by_cases he : (Pg.secE s.data.toList).2.ends = false
    · rw [he]
      generalize (Pg.secA s.data.toList).1 = A at *
      generalize Pg.high (Pg.secB s.data.toList).1 = m at *
      generalize (Pg.secT s.data.toList).1 = t at *
      generalize (Pg.secN s.data.toList).1 = n at *
      clear hq
      go_wp2_with fail
      go_ret2
      rw [HCN.out]
      exact ⟨rfl, HB7.out⟩
    · have he' : (Pg.secE s.data.toList).2.ends = true := by simpa using he
      rw [he']
      by_cases ha : (Pg.secA s.data.toList).1 = k.data.toList
      · have hm1 : 1 < Pg.high (Pg.secB s.data.toList).1 := by
          rcases hq with h | h | h
          · exact absurd h he
          · exact absurd ha h
          · exact h
        have hab : (!(Pg.secA s.data.toList).1 == k.toList) = false := by rw [toList_is, ha]; simp
        clear hq ha he
        generalize (Pg.secA s.data.toList).1 = A at *
        generalize Pg.high (Pg.secB s.data.toList).1 = m at *
        generalize (Pg.secT s.data.toList).1 = t at *
        generalize (Pg.secN s.data.toList).1 = n at *
        go_wp2_with fail
        go_ret2
        rw [HCN.out]
        exact ⟨rfl, HB7.out⟩
      · have hab : (!(Pg.secA s.data.toList).1 == k.toList) = true := by rw [toList_is]; simpa using ha
        clear hq ha he
        generalize (Pg.secA s.data.toList).1 = A at *
        generalize Pg.high (Pg.secB s.data.toList).1 = m at *
        generalize (Pg.secT s.data.toList).1 = t at *
        generalize (Pg.secN s.data.toList).1 = n at *
        go_wp2_with fail
        go_ret2
        rw [HCN.out]
        exact ⟨rfl, HB7.out⟩
  · have he' : (Pg.secE s.data.toList).2.ends = true := by
      cases h : (Pg.secE s.data.toList).2.ends with
      | true => rfl
      | false => exact absurd (.inl h) hq
    have ha : (Pg.secA s.data.toList).1 = k.data.toList := Classical.byContradiction fun h => hq (.inr (.inl h))
    have hm1 : ¬ 1 < Pg.high (Pg.secB s.data.toList).1 := fun h => hq (.inr (.inr h))
    have hab : (!(Pg.secA s.data.toList).1 == k.toList) = false := by rw [toList_is, ha]; simp
    rw [he']
    clear ha he'
    by_cases h1 : Pg.high (Pg.secB s.data.toList).1 = 1
    · rcases spread_cases (Pg.secT s.data.toList).1 with ⟨e1, e2, e3⟩ | ⟨u, e1, e2, e3⟩
      · have HCN := hid (Pg.content_none hq h1 e1)
        have HE2 := hid e2
        have HE3 := hid e3
        clear hq e1 e2 e3
        generalize (Pg.secA s.data.toList).1 = A at *
        generalize Pg.high (Pg.secB s.data.toList).1 = m at *
        generalize (Pg.secT s.data.toList).1 = t at *
        generalize (Pg.secN s.data.toList).1 = n at *
        subst h1
        go_wp2_with fail
        refine (refSpread_any ⟨t.toArray⟩ _ (by rw [size_mk]; omega)).mono ?_
        rintro r w8 ⟨rfl, hb8⟩
        have HB8 := hid (HB7.out.trans (hb8.mono hsz7))
        clear hb8
        rw [show (⟨t.toArray⟩ : ByteArray).data.toList = t by simp, HE2.out, HE3.out]
        go_wp2_with fail
        go_ret2
        rw [HCN.out]
        exact ⟨rfl, HB8.out⟩
      · have hul : u.length ≤ 66 * (Pg.secT s.data.toList).1.length := by
          unfold Sq.spread at e1
          split at e1
          · rename_i t' ht'
            have := Sq.decode_le _ _ _ ht'
            split at e1
            · simp at e1; subst e1; simpa using this
            · simp at e1
          · simp at e1
        have HE2 := hid e2
        have HE3 := hid e3
        by_cases hl : u.length = (Pg.secN s.data.toList).1
        · have HCN := hid (Pg.content_some hq h1 e1 hl)
          clear hq e1 e2 e3
          generalize (Pg.secA s.data.toList).1 = A at *
          generalize Pg.high (Pg.secB s.data.toList).1 = m at *
          generalize (Pg.secT s.data.toList).1 = t at *
          generalize (Pg.secN s.data.toList).1 = n at *
          subst h1
          subst hl
          go_wp2_with fail
          refine (refSpread_any ⟨t.toArray⟩ _ (by rw [size_mk]; omega)).mono ?_
          rintro r w8 ⟨rfl, hb8⟩
          have HB8 := hid (HB7.out.trans (hb8.mono hsz7))
          have hsz8 := HB8.out.size
          clear hb8
          rw [show (⟨t.toArray⟩ : ByteArray).data.toList = t by simp, HE2.out, HE3.out]
          go_wp2_with fail
          refine (section_any k ⟨u.toArray⟩ _ hk (by rw [size_mk]; omega)).mono ?_
          rintro r w9 ⟨rfl, hb9⟩
          have HB9 := hid (HB8.out.trans (hb9.mono hsz8))
          clear hb9
          rw [show (⟨u.toArray⟩ : ByteArray).data.toList = u by simp]
          by_cases hse : Pg.section_ k.data.toList u = s.data.toList
          · have HSE := hid hse
            have hsb : (Pg.section_ k.data.toList u == s.toList) = true := by rw [toList_is]; simpa using hse
            clear hse
            generalize Pg.section_ k.data.toList u = se at *
            go_wp2_with fail
            go_ret2
            rw [HCN.out, decide_eq_true HSE.out]
            exact ⟨rfl, HB9.out⟩
          · have HSE := hid hse
            have hsb : (Pg.section_ k.data.toList u == s.toList) = false := by rw [toList_is]; simpa using hse
            clear hse
            generalize Pg.section_ k.data.toList u = se at *
            go_wp2_with fail
            go_ret2
            rw [HCN.out, decide_eq_false HSE.out]
            exact ⟨rfl, HB9.out⟩
        · have HCN := hid (Pg.content_long hq h1 e1 hl)
          have hlb : (((u.length : Int)) != (((Pg.secN s.data.toList).1 : Nat) : Int)) = true := by rw [bne_iff_ne]; omega
          clear hq e1 e2 e3 hl
          generalize (Pg.secA s.data.toList).1 = A at *
          generalize Pg.high (Pg.secB s.data.toList).1 = m at *
          generalize (Pg.secT s.data.toList).1 = t at *
          generalize (Pg.secN s.data.toList).1 = n at *
          subst h1
          go_wp2_with fail
          refine (refSpread_any ⟨t.toArray⟩ _ (by rw [size_mk]; omega)).mono ?_
          rintro r w8 ⟨rfl, hb8⟩
          have HB8 := hid (HB7.out.trans (hb8.mono hsz7))
          have hsz8 := HB8.out.size
          clear hb8
          rw [show (⟨t.toArray⟩ : ByteArray).data.toList = t by simp, HE2.out, HE3.out]
          go_wp2_with fail
          go_ret2
          rw [HCN.out]
          exact ⟨rfl, HB8.out⟩
    · have HCN := hid (Pg.content_plain hq h1)
      have h1b : ((Pg.high (Pg.secB s.data.toList).1 : Int) == 1) = false := by simp; omega
      clear hq
      generalize (Pg.secA s.data.toList).1 = A at *
      generalize Pg.high (Pg.secB s.data.toList).1 = m at *
      generalize (Pg.secT s.data.toList).1 = u at *
      generalize (Pg.secN s.data.toList).1 = n at *
      go_wp2_with fail
      refine (section_any k ⟨u.toArray⟩ _ hk (by rw [size_mk]; omega)).mono ?_
      rintro r w9 ⟨rfl, hb9⟩
      have HB9 := hid (HB7.out.trans (hb9.mono hsz7))
      clear hb9
      rw [show (⟨u.toArray⟩ : ByteArray).data.toList = u by simp]
      by_cases hse : Pg.section_ k.data.toList u = s.data.toList
      · have HSE := hid hse
        have hsb : (Pg.section_ k.data.toList u == s.toList) = true := by rw [toList_is]; simpa using hse
        clear hse
        generalize Pg.section_ k.data.toList u = se at *
        go_wp2_with fail
        go_ret2
        rw [HCN.out, decide_eq_true HSE.out]
        exact ⟨rfl, HB9.out⟩
      · have HSE := hid hse
        have hsb : (Pg.section_ k.data.toList u == s.toList) = false := by rw [toList_is]; simpa using hse
        clear hse
        generalize Pg.section_ k.data.toList u = se at *
        go_wp2_with fail
        go_ret2
        rw [HCN.out, decide_eq_false HSE.out]
        exact ⟨rfl, HB9.out⟩
end Go.Proofs.YtolgpnaoaodepaaGreat
