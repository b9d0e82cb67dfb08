/- The walks of common and basement. -/
import Derived.Test.YtolgpnaoaodepaaGreatRefB
import Derived.Deep.RegionHeld3
namespace Go.Proofs.YtolgpnaoaodepaaGreat
open Go.RowKit
set_option maxHeartbeats 400000 in
theorem refCommon_any (s t : ByteArray) (w : World) (hs : s.size ≤ 35184372088832) :
    Calls Tryz.prog 145 #[.string s, .string t] w fun r w' => r = .returned (.int .i64 (Pg.common s.data.toList t.data.toList)) ∧ ∃ q, w' = w.drewN q := by
  go_enter Tryz.func145, Tryz.ntmps145
  go_wp2
  go_loopw [5] (fun i wr => ∃ k : Nat, k ≤ s.size ∧ k ≤ t.size ∧ i = .int .i64 k ∧ (∀ j, j < k → ∃ x, s.data.toList[j]? = some x ∧ t.data.toList[j]? = some x) ∧ ∃ q, wr = w.drewN q) (fun i _ => s.size - (intOf i).toNat)
  case atStart => exact ⟨0, Nat.zero_le _, Nat.zero_le _, rfl, fun j h => by omega, 0, rfl⟩
  case round =>
    obtain ⟨k, hk1, hk2, rfl, hj, q, rfl⟩ := hrel
    have HJ := hid hj
    clear hj
    by_cases hlt : k < s.size
    · by_cases hlt2 : k < t.size
      · have h1 : (k : Int) < (s.size : Int) := by omega
        have h2 : (k : Int) < (t.size : Int) := by omega
        go_wp2
        go_quiet (fail)
        go_wp2
        · have hb := byte_eq2 s t k hlt hlt2 (by assumption)
          go_roundw
          case rel =>
            refine ⟨k + 1, by omega, by omega, by go_num, fun j hj => ?_, _, rfl⟩
            by_cases ej : j = k
            · rw [ej]; exact hb
            · exact HJ.out j (by omega)
          case measure => simp [intOf]; omega
        · have hb := byte_ne2 s t k hlt hlt2 (by assumption)
          go_ret
          exact ⟨ret_int (by rw [Pg.common_stop k _ _ HJ.out (.inr (.inr hb))]), _, World.drewN_drewN _ _ _⟩
      · have h1 : (k : Int) < (s.size : Int) := by omega
        have hd : decide ((k : Int) < (t.size : Int)) = false := by simp; omega
        have HF := hid (Pg.common_stop k s.data.toList t.data.toList HJ.out (.inr (.inl (by rw [len_size]; omega))))
        go_wp2
        go_quiet (fail)
        go_wp2
        go_ret
        exact ⟨ret_int (by rw [HF.out]), _, World.drewN_drewN _ _ _⟩
    · have hd : decide ((k : Int) < (s.size : Int)) = false := by simp; omega
      have HF := hid (Pg.common_stop k s.data.toList t.data.toList HJ.out (.inl (by rw [len_size]; omega)))
      go_wp2
      go_quiet (fail)
      go_wp2
      go_ret
      exact ⟨ret_int (by rw [HF.out]), _, World.drewN_drewN _ _ _⟩
theorem text_drop (s : ByteArray) (k : Nat) (w : World) (hs : s.size ≤ 35184372088832) :
    Calls Tryz.prog 85 #[.string (s.extract k s.size)] w fun r w' => r = .returned (.string ⟨(Pg.text (s.data.toList.drop k)).toArray⟩) ∧ Below w.heap.size w w' := by
  have := text_any (s.extract k s.size) w (by rw [ByteArray.size_extract]; omega)
  rw [drop_data] at this; exact this
set_option maxHeartbeats 2000000 in
theorem basement_any (b off cap : Nat) (l : List (ByteArray × ByteArray)) (w : World) (hl : l.length ≤ 1000) (hit : ItemsAt w b off l) (hb : b < w.heap.size) (hsz : ∀ x ∈ l, x.1.size ≤ 10000000 ∧ x.2.size ≤ 10000000) :
    Calls Tryz.prog 91 #[.slice (some ⟨b, off, none⟩) l.length cap] w fun r w' => r = .returned (.string ⟨(Pg.basement (plain l)).toArray⟩) ∧ Below w.heap.size w w' := by
  have HIT := hid hit
  have HSZ := hid hsz
  clear hit hsz
  go_enter Tryz.func91, Tryz.ntmps91
  go_wp2_with fail
  refine (low_any l.length 1 _ (by omega) (by omega)).mono ?_
  rintro r w1 ⟨rfl, hb1⟩
  have HB1 := hid hb1
  have hl1 := Pg.low_len 1 l.length
  have HST : Hid (Pg.low l.length 1 ++ Pg.items [] (plain l) = Pg.basement (plain l)) := by show _ = _; unfold Pg.basement plain; rw [List.length_map]
  clear hb1
  generalize Pg.low l.length 1 = lw at *
  go_wp2_with fail
  go_loopw [3, 4, 5] (fun s last i wr => ∃ (k : Nat) (sb lb : ByteArray), k ≤ l.length ∧ i = .int .i64 k ∧ s = .string sb ∧ last = .string lb ∧ lb.size ≤ 10000000 ∧ sb.size ≤ 1 + k * 20000100 ∧ sb.data.toList ++ Pg.items lb.data.toList (plain (l.drop k)) = Pg.basement (plain l) ∧ Below w.heap.size w wr) (fun _ _ i _ => l.length - (intOf i).toNat)
  case atStart => exact ⟨0, ⟨lw.toArray⟩, ⟨#[]⟩, Nat.zero_le _, rfl, rfl, rfl, by decide, by rw [size_mk]; omega, by simpa using HST.out, HB1.out⟩
  case round =>
    obtain ⟨k, sb, lb, hk, rfl, rfl, rfl, hlb, hsb, heq, hbel⟩ := hrel
    have HEQ := hid heq
    have HBEL := hid hbel
    have hszr := hbel.size
    clear heq hbel
    by_cases hkl : k < l.length
    · obtain ⟨c0, c1⟩ := HIT.out.below HBEL.out hb k hkl
      have hs2 := HSZ.out _ (List.getElem_mem hkl)
      have HNX : Hid (plain (l.drop k) = ((l[k]'hkl).1.data.toList, (l[k]'hkl).2.data.toList) :: plain (l.drop (k + 1))) := by
        show _ = _; rw [List.drop_eq_getElem_cons hkl]; rfl
      generalize l[k]'hkl = x at *
      obtain ⟨kb, vb⟩ := x
      simp only at c0 c1 hs2
      go_wp2_with fail
      refine (refCommon_any lb kb _ (by omega)).mono ?_
      rintro r w2 ⟨rfl, q, rfl⟩
      have hcm := Pg.common_le lb.data.toList kb.data.toList
      rw [len_size, len_size] at hcm
      have HIS : Hid (Pg.items lb.data.toList (plain (l.drop k)) = Pg.low (Pg.common lb.data.toList kb.data.toList) 1 ++ Pg.text (kb.data.toList.drop (Pg.common lb.data.toList kb.data.toList)) ++ Pg.text vb.data.toList ++ Pg.items kb.data.toList (plain (l.drop (k + 1)))) := by
        show _ = _; rw [HNX.out]; rfl
      generalize Pg.common lb.data.toList kb.data.toList = cm at *
      have hi1 : (0 : Int) ≤ (cm : Int) := by omega
      have hi2 : (cm : Int) ≤ (kb.size : Int) := by omega
      go_wp2_with fail
      have hbr : b < wr.heap.size := by omega
      have hlc := Pg.low_len 1 cm
      have ht1 := text_len (kb.data.toList.drop cm) (by rw [List.length_drop, len_size]; omega)
      rw [List.length_drop, len_size] at ht1
      have ht2 := text_len vb.data.toList (by rw [len_size]; omega)
      rw [len_size] at ht2
      have hkb := hs2.1
      have hvb := hs2.2
      have z1 : (⟨(Pg.low cm 1).toArray⟩ : ByteArray).size = 1 := (size_mk _).trans hlc
      have z2 := size_mk (Pg.text (kb.data.toList.drop cm))
      have z3 := size_mk (Pg.text vb.data.toList)
      have e1 : ∀ w, (Op.stringOp .add sb ⟨(Pg.low cm 1).toArray⟩).run Tryz.prog w = .ok (.string (sb ++ ⟨(Pg.low cm 1).toArray⟩)) w := fun w => run_string_add_sum w _ _ (by omega)
      have e2 : ∀ w, (Op.stringOp .add (sb ++ ⟨(Pg.low cm 1).toArray⟩) ⟨(Pg.text (kb.data.toList.drop cm)).toArray⟩).run Tryz.prog w = .ok (.string (sb ++ ⟨(Pg.low cm 1).toArray⟩ ++ ⟨(Pg.text (kb.data.toList.drop cm)).toArray⟩)) w := fun w => run_string_add_sum w _ _ (by rw [ByteArray.size_append']; omega)
      have e3 : ∀ w, (Op.stringOp .add (sb ++ ⟨(Pg.low cm 1).toArray⟩ ++ ⟨(Pg.text (kb.data.toList.drop cm)).toArray⟩) ⟨(Pg.text vb.data.toList).toArray⟩).run Tryz.prog w = .ok (.string (sb ++ ⟨(Pg.low cm 1).toArray⟩ ++ ⟨(Pg.text (kb.data.toList.drop cm)).toArray⟩ ++ ⟨(Pg.text vb.data.toList).toArray⟩)) w := fun w => run_string_add_sum w _ _ (by rw [ByteArray.size_append', ByteArray.size_append']; omega)
      clear z1 z2 z3
      have hq1 : (wr.drewN (q + 1)).heap.size = wr.heap.size := rfl
      go_region_held3 (fun w' => w'.cell? ⟨b, off + k * 2 + 1, none⟩ = some (.string vb)) (go_keep)
        (first
          | (go_at_call 89; refine (low_any cm 1 _ (by omega) (by omega)).mono ?_; rintro r w3 ⟨rfl, hb3⟩; have c3 := (hb3.cell (p := ⟨b, off + k * 2 + 1, none⟩) (by exact hbr)).trans c1; have HBa := hid ((below_drewN HBEL.out (q + 1)).trans (hb3.mono hszr)); have hz3 : w.heap.size ≤ w3.heap.size := HBa.out.size; clear hb3)
          | (go_at_call_of 85 (Value.string vb); refine (text_any vb _ (by omega)).mono ?_; rintro r w5 ⟨rfl, hb5⟩; have c5 := (hb5.cell (p := ⟨b, off + k * 2 + 1, none⟩) (Nat.lt_of_lt_of_le hb hz4)).trans c4; have HBc := hid (HBb.out.trans (hb5.mono hz4)); clear hb5)
          | (go_at_call 85; refine (text_drop kb cm _ (by omega)).mono ?_; rintro r w4 ⟨rfl, hb4⟩; have c4 := (hb4.cell (p := ⟨b, off + k * 2 + 1, none⟩) (Nat.lt_of_lt_of_le hb hz3)).trans c3; have HBb := hid (HBa.out.trans (hb4.mono hz3)); have hz4 : w.heap.size ≤ w4.heap.size := HBb.out.size; clear hb4))
      all_goals go_wp2_with fail
      go_roundw
      case rel =>
        refine ⟨k + 1, _, kb, by omega, by go_num, rfl, rfl, hkb, ?_, ?_, HBc.out⟩
        · simp only [ByteArray.size_append', size_mk]; omega
        · rw [← HEQ.out, HIS.out]; simp
      case measure => simp [intOf]; omega
    · have HF : Hid (sb.data.toList = Pg.basement (plain l)) := by
        show _ = _; rw [← HEQ.out, List.drop_eq_nil_of_le (by omega)]; simp [plain, Pg.items]
      go_wp2_with fail
      go_ret
      exact ⟨ret_str (by rw [HF.out]), HBEL.out⟩
end Go.Proofs.YtolgpnaoaodepaaGreat
