/- The walk of the reference's Spread. -/
import Derived.Test.YtolgpnaoaodepaaGreatWalkH
import Derived.Test.YtolgpnaoaodepaaGreatWalkE
namespace Go.Proofs.YtolgpnaoaodepaaGreat
open Go.RowKit

theorem end_no {l : List UInt8} (h : Sq.decode l [] = none) : spreadS l = ⟨#[]⟩ ∧ spreadE l = 2 := by
  unfold spreadS spreadE Sq.spread; rw [h]; exact ⟨rfl, rfl⟩
theorem end_some {l t : List UInt8} (h : Sq.decode l [] = some t) : (Sq.squeeze t = l → spreadS l = ⟨t.toArray⟩ ∧ spreadE l = 0) ∧ (Sq.squeeze t ≠ l → spreadS l = ⟨#[]⟩ ∧ spreadE l = 2) := by
  unfold spreadS spreadE Sq.spread; rw [h]
  exact ⟨fun e => by simp only [if_pos e]; exact ⟨trivial, trivial⟩, fun e => by simp only [if_neg e]; exact ⟨trivial, trivial⟩⟩
theorem at_run {s : ByteArray} {o : List UInt8} {a : Nat} (h : a < s.size) (he : Sq.decode (s.data.toList.drop a) o = Sq.decode s.data.toList []) (h1 : (s[a]'h).toNat < 128) (h2 : a + (s[a]'h).toNat + 2 ≤ s.size) :
    Sq.decode (s.data.toList.drop (a + (s[a]'h).toNat + 2)) (o ++ (s.data.toList.drop (a + 1)).take ((s[a]'h).toNat + 1)) = Sq.decode s.data.toList [] := by
  rw [← he, drop_at s a h, Sq.decode_run _ _ _ h1 (by rw [List.length_drop, len_size]; omega), List.drop_drop, show a + 1 + ((s[a]'h).toNat + 1) = a + (s[a]'h).toNat + 2 by omega]
theorem at_run_no {s : ByteArray} {o : List UInt8} {a : Nat} (h : a < s.size) (he : Sq.decode (s.data.toList.drop a) o = Sq.decode s.data.toList []) (h1 : (s[a]'h).toNat < 128) (h2 : s.size < a + (s[a]'h).toNat + 2) : Sq.decode s.data.toList [] = none := by
  rw [← he, drop_at s a h, Sq.decode_run_no _ _ _ h1 (by rw [List.length_drop, len_size]; omega)]
theorem at_mat {s : ByteArray} {o : List UInt8} {a : Nat} (h : a + 1 < s.size) (he : Sq.decode (s.data.toList.drop a) o = Sq.decode s.data.toList []) (h1 : ¬ (s[a]'(by omega)).toNat < 128) (h2 : (s[a]'(by omega)).toNat ≤ 191 ∧ 1 ≤ (s[a + 1]'h).toNat ∧ (s[a + 1]'h).toNat ≤ o.length) :
    Sq.decode (s.data.toList.drop (a + 2)) (Sq.copyN o (s[a + 1]'h).toNat ((s[a]'(by omega)).toNat - 125)) = Sq.decode s.data.toList [] := by
  rw [← he, drop_at s a (by omega), drop_at s (a + 1) h, Sq.decode_match _ _ _ _ h1 h2]
theorem at_mat_no {s : ByteArray} {o : List UInt8} {a : Nat} (h : a + 1 < s.size) (he : Sq.decode (s.data.toList.drop a) o = Sq.decode s.data.toList []) (h1 : ¬ (s[a]'(by omega)).toNat < 128) (h2 : ¬ ((s[a]'(by omega)).toNat ≤ 191 ∧ 1 ≤ (s[a + 1]'h).toNat ∧ (s[a + 1]'h).toNat ≤ o.length)) : Sq.decode s.data.toList [] = none := by
  rw [← he, drop_at s a (by omega), drop_at s (a + 1) h, Sq.decode_match_no _ _ _ _ h1 h2]
theorem at_mat_end {s : ByteArray} {o : List UInt8} {a : Nat} (h : a < s.size) (hs : ¬ a + 1 < s.size) (he : Sq.decode (s.data.toList.drop a) o = Sq.decode s.data.toList []) (h1 : ¬ (s[a]'h).toNat < 128) : Sq.decode s.data.toList [] = none := by
  rw [← he, drop_at s a h, List.drop_eq_nil_of_le (by rw [len_size]; omega), Sq.decode_match_end _ _ h1]

set_option maxHeartbeats 4000000 in
set_option maxRecDepth 20000 in
theorem refSpread_any (s : ByteArray) (w : World) (hs : s.size ≤ 68719476736) :
    Calls Tryz.prog 95 #[.string s] w fun r w' => r = .returned (.tuple #[.string (spreadS s.data.toList), .int .i64 (spreadE s.data.toList)]) ∧ Below w.heap.size w w' := by
  go_enter Tryz.func95, Tryz.ntmps95
  go_wp2_with fail
  go_loopw [4, 5] (fun u i wr => ∃ (o : List UInt8) (a : Nat), a ≤ s.size ∧ i = .int .i64 a ∧ Owns w.heap.size wr u o ∧ Below w.heap.size w wr ∧ o.length + 66 * (s.size - a) ≤ 66 * s.size ∧ Sq.decode (s.data.toList.drop a) o = Sq.decode s.data.toList []) (fun _ i _ => s.size - (intOf i).toNat)
  case atStart => exact ⟨[], 0, Nat.zero_le _, rfl, Owns.nil _ _, Below.refl _ _, by simp, rfl⟩
  case round =>
    obtain ⟨o, a, ha, rfl, ho, hb, hol, heq⟩ := hrel
    have HEQ := hid heq
    have HO := hid ho
    have HB := hid hb
    have hsz := hb.size
    clear heq ho hb
    by_cases h0 : a < s.size
    · have hc0 : (s[a]'h0).toNat < 256 := (s[a]'h0).toNat_lt
      by_cases h128 : (s[a]'h0).toNat < 128
      · by_cases hle : a + (s[a]'h0).toNat + 2 ≤ s.size
        · have HE := hid (at_run h0 HEQ.out h128 hle)
          generalize hn : (s[a]'h0).toNat = n at *
          go_wp2_with (first
            | (at_builtin; refine wpApS wr rfl (.tmp 29) (.tmp 36) rfl w.heap.size u4 o rfl HO.out (s.extract (a + 1) (a + 1 + n + 1)) rfl (by rw [ByteArray.size_extract]; omega) hsz ?_))
          intro v1 w1 ho1 hb1
          have ho1' : Owns w.heap.size w1 v1 (o ++ List.take (n + 1) (List.drop (a + 1) s.data.toList)) := by
            rw [show a + 1 + n - a = n + 1 by omega] at ho1; exact ho1
          have HO1 := hid ho1'
          have HB1 := hid (HB.out.trans hb1)
          clear ho1 hb1 ho1'
          go_wp2_with fail
          go_roundw
          case rel => exact ⟨_, a + n + 2, hle, int_eq (by omega), HO1.out, HB1.out, by simp; omega, HE.out⟩
          case measure => simp [intOf]; omega
        · have HE := hid (end_no (at_run_no h0 HEQ.out h128 (by omega)))
          generalize hn : (s[a]'h0).toNat = n at *
          go_wp2_with fail
          go_ret2
          rw [HE.out.1, HE.out.2]
          exact ⟨rfl, HB.out⟩
      · by_cases h1 : a + 1 < s.size
        · by_cases hok : (s[a]'h0).toNat ≤ 191 ∧ 1 ≤ (s[a + 1]'h1).toNat ∧ (s[a + 1]'h1).toNat ≤ o.length
          · have HE := hid (at_mat h1 HEQ.out h128 hok)
            have hc1 : (s[a + 1]'h1).toNat < 256 := (s[a + 1]'h1).toNat_lt
            obtain ⟨va, vc, hv⟩ := HO.out.shape
            subst hv
            generalize hn : (s[a]'h0).toNat = n at *
            generalize hd : (s[a + 1]'h1).toNat = d at *
            have hz : ((d : Int) == 0) = false := by simp; omega
            have hi1 : (a : Int) + 1 < (s.size : Int) := by omega
            have b1 : decide ((n : Int) < 128) = false := by simp; omega
            have b2 : decide ((191 : Int) < (n : Int)) = false := by simp; omega
            have b3 : decide ((s.size : Int) ≤ (a : Int) + 1) = false := by simp; omega
            have b4 : decide (o.length < d) = false := by simp; omega
            go_wp2_with fail
            clear b1 b2 b3 b4 hz
            go_loopw [4, 8] (fun u i wi => ∃ k : Nat, k + 125 ≤ n ∧ i = .int .i64 k ∧ Owns w.heap.size wi u (Sq.copyN o d k) ∧ Below w.heap.size w wi) (fun _ i _ => n - (intOf i).toNat)
            case atStart => exact ⟨0, by omega, rfl, HO.out, HB.out⟩
            case round =>
              obtain ⟨k, hk, rfl, hoi, hbi⟩ := hrel
              have HLEN := hid (Sq.copyN_len k o d)
              have HOI := hid hoi
              have HBI := hid hbi
              have hszi := hbi.size
              clear hoi hbi
              by_cases hlt : k + 125 < n
              · have HS := hid (Sq.copyN_succ k o d)
                generalize hcy : Sq.copyN o d k = cy at *
                have hl1 : d ≤ cy.length ∧ cy.length ≤ 140737488355000 ∧ 1 ≤ cy.length := by have := HLEN.out; omega
                obtain ⟨b, hb⟩ : ∃ b, cy[cy.length - d]? = some b := ⟨cy[cy.length - d]'(by omega), List.getElem?_eq_getElem _⟩
                obtain ⟨g, c, hv, hg1, hg2⟩ := HOI.out.shape_pos (by omega)
                subst hv
                have hcell := HOI.out.cellAt (cy.length - d) b hb
                have HBB := hid hb
                clear hb hcy
                generalize hcl : cy.length = m at *
                have HCL := hid hcl
                clear hcl
                have hi3 : (0 : Int) ≤ (m : Int) - (d : Int) := by omega
                have hi4 : (m : Int) - (d : Int) < (m : Int) := by omega
                go_wp2_with (first
                  | (at_builtin; refine wpAp1 wr rfl (.tmp 77) (.tmp 85) rfl w.heap.size (.slice (some ⟨g, 0, none⟩) m c) cy rfl HOI.out b _ rfl rfl (by rw [HCL.out]; omega) (by omega) ?_))
                intro v2 w2 ho2 hg2 _
                have HO2 := hid ho2
                have HB2 := hid (HBI.out.trans (below_of_grown HOI.out (by omega) hg2))
                clear ho2 hg2
                go_wp2_with fail
                go_roundw
                case rel =>
                  refine ⟨k + 1, by omega, by go_num, ?_, HB2.out⟩
                  rw [HS.out, List.getD_eq_getElem?_getD, HBB.out]
                  exact HO2.out
                case measure => simp [intOf]; omega
              · have hkn : n - 125 = k := by omega
                rw [hkn] at HE
                clear hkn
                go_wp2_with fail
                go_roundw
                case rel => exact ⟨_, a + 2, by omega, int_eq (by omega), HOI.out, HBI.out, by rw [HLEN.out]; omega, HE.out⟩
                case measure => simp [intOf]; omega
          · have HE := hid (end_no (at_mat_no h1 HEQ.out h128 hok))
            have hc1 : (s[a + 1]'h1).toNat < 256 := (s[a + 1]'h1).toNat_lt
            obtain ⟨va, vc, hv⟩ := HO.out.shape
            subst hv
            generalize hn : (s[a]'h0).toNat = n at *
            generalize hd : (s[a + 1]'h1).toNat = d at *
            have hi1 : (a : Int) + 1 < (s.size : Int) := by omega
            by_cases h191 : 191 < n
            · go_wp2_with fail
              go_ret2
              rw [HE.out.1, HE.out.2]
              exact ⟨rfl, HB.out⟩
            · by_cases hz : d = 0
              · subst hz
                go_wp2_with fail
                go_ret2
                rw [HE.out.1, HE.out.2]
                exact ⟨rfl, HB.out⟩
              · have hz : ((d : Int) == 0) = false := by simp; omega
                go_wp2_with fail
                go_ret2
                rw [HE.out.1, HE.out.2]
                exact ⟨rfl, HB.out⟩
        · have HE := hid (end_no (at_mat_end h0 h1 HEQ.out h128))
          generalize hn : (s[a]'h0).toNat = n at *
          by_cases h191 : 191 < n
          · go_wp2_with fail
            go_ret2
            rw [HE.out.1, HE.out.2]
            exact ⟨rfl, HB.out⟩
          · go_wp2_with fail
            go_ret2
            rw [HE.out.1, HE.out.2]
            exact ⟨rfl, HB.out⟩
    · have hcv := HO.out.str
      have HD : Hid (Sq.decode s.data.toList [] = some o) := by
        rw [← HEQ.out, List.drop_eq_nil_of_le (by rw [len_size]; omega), Sq.decode_nil]; exact rfl
      have hlen := Sq.decode_le _ _ _ HD.out
      rw [len_size] at hlen
      have HES := hid (end_some HD.out)
      go_wp2_with fail
      refine (refSqueeze_any ⟨o.toArray⟩ _ (by show o.toArray.size ≤ _; simp at hlen ⊢; omega)).mono ?_
      rintro r w2 ⟨rfl, hb2⟩
      have HB2 := hid (HB.out.trans (hb2.mono hsz))
      have hcv2 := (HO.out.below hb2 (fun k hk => (World.ownsRow.lt HO.out k hk).2)).str
      clear hb2 hcv
      by_cases he : Sq.squeeze o = s.data.toList
      · have HF := hid (HES.out.1 he)
        go_wp2_with fail
        go_ret2
        rw [HF.out.1, HF.out.2]
        exact ⟨rfl, HB2.out⟩
      · have HF := hid (HES.out.2 he)
        have hne : (!Sq.squeeze o == s.toList) = true := by rw [toList_is]; simpa using he
        clear hcv2
        go_wp2_with fail
        go_ret2
        rw [HF.out.1, HF.out.2]
        exact ⟨rfl, HB2.out⟩
end Go.Proofs.YtolgpnaoaodepaaGreat
