/- The walks of unpack and of package squeeze's Spread. -/
import Derived.Test.YtolgpnaoaodepaaGreatWalkF
namespace Go.Proofs.YtolgpnaoaodepaaGreat
open Go.RowKit

theorem toList_is (s : ByteArray) : s.toList = s.data.toList := by
  have h := ByteArray.toList_mk s.data.toList
  simpa using h
/-- What unpack comes to. -/
def unpacked (l : List UInt8) : Ending := match Sq.decode l [] with
  | some t => .returned (.string ⟨t.toArray⟩)
  | none => gaveUp
theorem cons_data (t : ByteArray) (h : 0 < t.size) : t.data.toList = t[0] :: t.data.toList.drop 1 := by
  have h' : 0 < t.data.toList.length := by rw [len_size]; exact h
  have := List.drop_eq_getElem_cons h'
  rw [List.drop_zero] at this
  exact this
theorem cons_data2 (t : ByteArray) (h : 1 < t.size) : t.data.toList = t[0] :: t[1] :: t.data.toList.drop 2 := by
  rw [cons_data t (by omega)]
  have h' : 1 < t.data.toList.length := by rw [len_size]; exact h
  have := List.drop_eq_getElem_cons h'
  rw [this]; rfl
theorem unpacked_run {s t : ByteArray} {o : List UInt8} (h0 : 0 < t.size) (h : Sq.decode t.data.toList o = Sq.decode s.data.toList []) (h1 : (t[0]'h0).toNat < 128) (h2 : (t[0]'h0).toNat + 2 ≤ t.size) :
    Sq.decode (t.extract ((t[0]'h0).toNat + 2) t.size).data.toList (o ++ (t.data.toList.drop 1).take ((t[0]'h0).toNat + 1)) = Sq.decode s.data.toList [] := by
  rw [← h, drop_data]
  conv => rhs; rw [cons_data t h0]
  rw [Sq.decode_run _ _ _ h1 (by rw [List.length_drop, len_size]; omega), List.drop_drop, show 1 + ((t[0]'h0).toNat + 1) = (t[0]'h0).toNat + 2 by omega]
theorem unpacked_run_no {s t : ByteArray} {o : List UInt8} (h0 : 0 < t.size) (h : Sq.decode t.data.toList o = Sq.decode s.data.toList []) (h1 : (t[0]'h0).toNat < 128) (h2 : t.size < (t[0]'h0).toNat + 2) : unpacked s.data.toList = gaveUp := by
  rw [cons_data t h0, Sq.decode_run_no _ _ _ h1 (by rw [List.length_drop, len_size]; omega)] at h
  unfold unpacked; rw [← h]
theorem unpacked_mat {s t : ByteArray} {o : List UInt8} (h0 : 1 < t.size) (h : Sq.decode t.data.toList o = Sq.decode s.data.toList []) (h1 : ¬ (t[0]'(by omega)).toNat < 128) (h2 : (t[0]'(by omega)).toNat ≤ 191 ∧ 1 ≤ (t[1]'h0).toNat ∧ (t[1]'h0).toNat ≤ o.length) :
    Sq.decode (t.extract 2 t.size).data.toList (Sq.copyN o (t[1]'h0).toNat ((t[0]'(by omega)).toNat - 125)) = Sq.decode s.data.toList [] := by
  rw [← h, drop_data]
  conv => rhs; rw [cons_data2 t h0]
  rw [Sq.decode_match _ _ _ _ h1 h2]
theorem unpacked_mat_no {s t : ByteArray} {o : List UInt8} (h0 : 1 < t.size) (h : Sq.decode t.data.toList o = Sq.decode s.data.toList []) (h1 : ¬ (t[0]'(by omega)).toNat < 128) (h2 : ¬ ((t[0]'(by omega)).toNat ≤ 191 ∧ 1 ≤ (t[1]'h0).toNat ∧ (t[1]'h0).toNat ≤ o.length)) : unpacked s.data.toList = gaveUp := by
  rw [cons_data2 t h0, Sq.decode_match_no _ _ _ _ h1 h2] at h
  unfold unpacked; rw [← h]
theorem unpacked_mat_end {s t : ByteArray} {o : List UInt8} (h0 : 0 < t.size) (hs : t.size < 2) (h : Sq.decode t.data.toList o = Sq.decode s.data.toList []) (h1 : ¬ (t[0]'h0).toNat < 128) : unpacked s.data.toList = gaveUp := by
  rw [cons_data t h0, List.drop_eq_nil_of_le (by rw [len_size]; omega), Sq.decode_match_end _ _ h1] at h
  unfold unpacked; rw [← h]
theorem unpacked_end {s t : ByteArray} {o : List UInt8} (h0 : ¬ 0 < t.size) (h : Sq.decode t.data.toList o = Sq.decode s.data.toList []) : unpacked s.data.toList = .returned (.string ⟨o.toArray⟩) := by
  have : t.data.toList = [] := List.length_eq_zero_iff.1 (by rw [len_size]; omega)
  rw [this, Sq.decode_nil] at h
  unfold unpacked; rw [← h]

set_option maxHeartbeats 2000000 in
set_option maxRecDepth 20000 in
theorem unpack_any (s : ByteArray) (w : World) (hs : s.size ≤ 68719476736) :
    Calls Tryz.prog 205 #[.string s] w fun r w' => r = unpacked s.data.toList ∧ Below w.heap.size w w' := by
  go_enter Tryz.func205, Tryz.ntmps205
  go_wp2_with fail
  go_loopw [0, 3] (fun x u wr => ∃ (t : ByteArray) (o : List UInt8), x = .string t ∧ Owns w.heap.size wr u o ∧ Below w.heap.size w wr ∧ t.size ≤ s.size ∧ o.length + 66 * t.size ≤ 66 * s.size ∧ Sq.decode t.data.toList o = Sq.decode s.data.toList []) (fun x _ _ => match x with | .string t => t.size | _ => 0)
  case atStart => exact ⟨s, [], rfl, Owns.nil _ _, Below.refl _ _, Nat.le_refl _, by simp, rfl⟩
  case round =>
    obtain ⟨t, o, rfl, ho, hb, hts, hol, heq⟩ := hrel
    have HEQ := hid heq
    have HO := hid ho
    have HB := hid hb
    have hsz := hb.size
    clear heq ho hb
    by_cases h0 : 0 < t.size
    · have hc0 : (t[0]'h0).toNat < 256 := (t[0]'h0).toNat_lt
      have hi0 : (0 : Int) < (t.size : Int) := by omega
      by_cases h128 : (t[0]'h0).toNat < 128
      · by_cases hle : (t[0]'h0).toNat + 2 ≤ t.size
        · go_wp2_with fail
          refine (unrun_yes w.heap.size t u3 o _ (by omega) h0 hle HO.out hsz (by omega)).mono ?_
          rintro r w1 ⟨v1, rfl, ho1, hb1⟩
          have HO1 := hid ho1
          have HB1 := hid (HB.out.trans hb1)
          clear ho1 hb1
          go_wp2_with fail
          go_roundw
          case rel => exact ⟨_, _, rfl, HO1.out, HB1.out, by simp [ByteArray.size_extract]; omega, by simp [ByteArray.size_extract]; omega, unpacked_run h0 HEQ.out h128 hle⟩
          case measure => simp [ByteArray.size_extract]; omega
        · go_wp2_with fail
          refine (unrun_no t u3 _ h0 (by omega)).mono ?_
          rintro r w1 ⟨rfl, rfl⟩
          have HU := hid (unpacked_run_no h0 HEQ.out h128 (by omega))
          unfold gaveUp
          go_wp2_with fail
          exact ⟨rfl, HU.out.symm, HB.out⟩
      · by_cases h1 : 1 < t.size
        · by_cases hok : (t[0]'h0).toNat ≤ 191 ∧ 1 ≤ (t[1]'h1).toNat ∧ (t[1]'h1).toNat ≤ o.length
          · go_wp2_with fail
            refine (unmat_yes w.heap.size t u3 o _ (by omega) HO.out hsz (by omega) h1 (by omega) hok).mono ?_
            rintro r w1 ⟨v1, rfl, ho1, hb1⟩
            have HO1 := hid ho1
            have HB1 := hid (HB.out.trans hb1)
            clear ho1 hb1
            go_wp2_with fail
            go_roundw
            case rel => exact ⟨_, _, rfl, HO1.out, HB1.out, by simp [ByteArray.size_extract]; omega, by simp [ByteArray.size_extract, Sq.copyN_len]; omega, unpacked_mat h1 HEQ.out h128 hok⟩
            case measure => simp [ByteArray.size_extract]; omega
          · go_wp2_with fail
            refine (unmat_no w.heap.size t u3 o _ HO.out h1 (by omega) hok).mono ?_
            rintro r w1 ⟨rfl, q, rfl⟩
            have HU := hid (unpacked_mat_no h1 HEQ.out h128 hok)
            unfold gaveUp
            go_wp2_with fail
            exact ⟨rfl, HU.out.symm, below_drewN HB.out _⟩
        · go_wp2_with fail
          refine (unmat_short t u3 _ (by omega)).mono ?_
          rintro r w1 ⟨rfl, rfl⟩
          have HU := hid (unpacked_mat_end h0 (by omega) HEQ.out h128)
          unfold gaveUp
          go_wp2_with fail
          exact ⟨rfl, HU.out.symm, HB.out⟩
    · have hcv := HO.out.str
      have HU := hid (unpacked_end h0 HEQ.out)
      go_wp2_with fail
      go_ret
      exact ⟨HU.out.symm, HB.out⟩

/-- What package squeeze's Spread comes to. -/
def spreadEnd (l : List UInt8) : Ending := match Sq.spread l with
  | some t => .returned (.string ⟨t.toArray⟩)
  | none => gaveUp
theorem spread_none {l : List UInt8} (h : Sq.decode l [] = none) : spreadEnd l = gaveUp ∧ unpacked l = gaveUp := by
  unfold spreadEnd unpacked Sq.spread; rw [h]; exact ⟨rfl, rfl⟩
theorem spread_some {l t : List UInt8} (h : Sq.decode l [] = some t) : unpacked l = .returned (.string ⟨t.toArray⟩) ∧ (Sq.squeeze t = l → spreadEnd l = .returned (.string ⟨t.toArray⟩)) ∧ (Sq.squeeze t ≠ l → spreadEnd l = gaveUp) := by
  unfold spreadEnd unpacked Sq.spread; rw [h]
  exact ⟨rfl, fun e => by simp only [if_pos e], fun e => by simp only [if_neg e]⟩

set_option maxHeartbeats 2000000 in
theorem pkgSpread_any (s : ByteArray) (w : World) (hs : s.size ≤ 68719476736) :
    Calls Tryz.prog 150 #[.string s] w fun r w' => r = spreadEnd s.data.toList ∧ Below w.heap.size w w' := by
  go_enter Tryz.func150, Tryz.ntmps150
  go_wp2_with fail
  refine (unpack_any s _ hs).mono ?_
  rintro r w1 ⟨rfl, hb1⟩
  have HB1 := hid hb1
  clear hb1
  cases hd : Sq.decode s.data.toList [] with
  | none =>
    have HSN := hid (spread_none hd).1
    rw [(spread_none hd).2]
    clear hd
    unfold gaveUp
    go_wp2_with fail
    exact ⟨rfl, HSN.out.symm, HB1.out⟩
  | some t =>
    have hlen := Sq.decode_le _ _ _ hd
    rw [len_size] at hlen
    have HSP := hid (spread_some hd)
    rw [(spread_some hd).1]
    clear hd
    go_wp2_with fail
    refine (squeeze_any ⟨t.toArray⟩ _ (by show t.toArray.size ≤ _; simp at hlen ⊢; omega)).mono ?_
    rintro r w2 ⟨rfl, hb2⟩
    have HB2 := hid (HB1.out.trans (hb2.mono HB1.out.size))
    clear hb2
    by_cases he : Sq.squeeze t = s.data.toList
    · have HE := hid (HSP.out.2.1 he)
      go_wp2_with fail
      refine (unless_yes _).mono ?_
      rintro r w3 ⟨rfl, rfl⟩
      go_wp2_with fail
      go_ret
      exact ⟨HE.out.symm, HB2.out⟩
    · have HE := hid (HSP.out.2.2 he)
      go_wp2_with fail
      rw [show (Sq.squeeze t == s.toList) = false by rw [toList_is]; simpa using he]
      refine (unless_no _).mono ?_
      rintro r w3 ⟨rfl, rfl⟩
      unfold gaveUp
      go_wp2_with fail
      exact ⟨rfl, HE.out.symm, HB2.out⟩
end Go.Proofs.YtolgpnaoaodepaaGreat
