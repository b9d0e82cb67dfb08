/- The walks of Sealed, Number, Text, Section. -/
import Derived.Test.YtolgpnaoaodepaaGreatRefA
namespace Go.Proofs.YtolgpnaoaodepaaGreat
open Go.RowKit
set_option maxHeartbeats 1000000 in
theorem sealed_any (s : ByteArray) (w : World) (hs : s.size ≤ 35184372088832) :
    Calls Tryz.prog 88 #[.string s] w fun r w' => r = .returned (.string ⟨(Pg.sealed s.data.toList).toArray⟩) ∧ Below w.heap.size w w' := by
  go_enter Tryz.func88, Tryz.ntmps88
  go_wp2_with fail
  refine (crc_any s _ hs).mono ?_
  rintro r w1 ⟨rfl, rfl⟩
  have hc := Pg.crc_lt s.data.toList
  go_wp2_with fail
  refine (low_any (Pg.crc s.data.toList) 4 _ (by omega) (by omega)).mono ?_
  rintro r w2 ⟨rfl, hb⟩
  have HB := hid hb
  clear hb
  have hl4 := Pg.low_len 4 (Pg.crc s.data.toList)
  have HSE : Hid (Pg.sealed s.data.toList = s.data.toList ++ Pg.low (Pg.crc s.data.toList) 4) := rfl
  generalize Pg.low (Pg.crc s.data.toList) 4 = lw at *
  go_wp2_with fail
  go_ret
  exact ⟨ret_str (by rw [HSE.out]; simp), HB.out⟩
set_option maxHeartbeats 1000000 in
set_option maxRecDepth 100000 in
theorem number_any (n : Nat) : ∀ (w : World), n ≤ 9223372036854775807 →
    Calls Tryz.prog 84 #[.int .i64 n] w fun r w' => r = .returned (.string ⟨(Pg.num n).toArray⟩) ∧ Below w.heap.size w w' := by
  induction n using Nat.strongRecOn with
  | _ n ih =>
    intro w hn
    have IH := hid ih
    clear ih
    by_cases hs : n < 128
    · have HN := hid (Pg.num_small n hs)
      go_enter Tryz.func84, Tryz.ntmps84
      go_wp2_with fail
      refine (low_any n 1 _ hn (by omega)).mono ?_
      rintro r w1 ⟨rfl, hb⟩
      go_wp2_with fail
      go_ret
      exact ⟨by rw [HN.out]; rfl, hb⟩
    · have HN := hid (Pg.num_big n hs)
      go_enter Tryz.func84, Tryz.ntmps84
      go_wp2_with fail
      rw [show ((128 : Int) + (n : Int) % 128) = ((128 + n % 128 : Nat) : Int) by omega]
      refine (low_any (128 + n % 128) 1 _ (by omega) (by omega)).mono ?_
      rintro r w1 ⟨rfl, hb⟩
      have HB := hid hb
      have hsz := hb.size
      clear hb
      have hll := Pg.low_len 1 (128 + n % 128)
      generalize Pg.low (128 + n % 128) 1 = lw at *
      go_wp2_with fail
      rw [show ((n : Int) / 128) = ((n / 128 : Nat) : Int) by omega]
      refine (IH.out (n / 128) (by omega) _ (by omega)).mono ?_
      rintro r w2 ⟨rfl, hb2⟩
      have HB2 := hid (HB.out.trans (hb2.mono hsz))
      clear hb2
      have hnl : (Pg.num (n / 128)).length ≤ 100 := by
        have := Pg.num_len' 9 (n / 128) (by show n / 128 < 128 ^ 10; omega)
        omega
      generalize Pg.num (n / 128) = nm at *
      go_wp2_with fail
      go_ret
      exact ⟨ret_str (by rw [HN.out]; simp), HB2.out⟩
set_option maxHeartbeats 1000000 in
theorem text_any (s : ByteArray) (w : World) (hs : s.size ≤ 35184372088832) :
    Calls Tryz.prog 85 #[.string s] w fun r w' => r = .returned (.string ⟨(Pg.text s.data.toList).toArray⟩) ∧ Below w.heap.size w w' := by
  have HT : Hid (Pg.text s.data.toList = Pg.num s.size ++ s.data.toList) := by show _ = _; unfold Pg.text; rw [len_size]
  go_enter Tryz.func85, Tryz.ntmps85
  go_wp2_with fail
  refine (number_any s.size _ (by omega)).mono ?_
  rintro r w1 ⟨rfl, hb⟩
  have HB := hid hb
  clear hb
  have hnl := num_short s.size (by omega)
  generalize Pg.num s.size = nm at *
  go_wp2_with fail
  go_ret
  exact ⟨ret_str (by rw [HT.out]; simp), HB.out⟩
set_option maxHeartbeats 2000000 in
theorem section_any (k s : ByteArray) (w : World) (hk : k.size ≤ 1000) (hs : s.size ≤ 4398046511104) :
    Calls Tryz.prog 86 #[.string k, .string s] w fun r w' => r = .returned (.string ⟨(Pg.section_ k.data.toList s.data.toList).toArray⟩) ∧ Below w.heap.size w w' := by
  go_enter Tryz.func86, Tryz.ntmps86
  go_wp2_with fail
  refine (refSqueeze_any s _ (by omega)).mono ?_
  rintro r w1 ⟨rfl, hb1⟩
  have HB1 := hid hb1
  have hsz1 := hb1.size
  clear hb1
  have hql := Sq.squeeze_le s.data.toList
  rw [len_size] at hql
  by_cases hlt : (Sq.squeeze s.data.toList).length < s.size
  · have HSEC : Hid (Pg.section_ k.data.toList s.data.toList = Pg.sealed (k.data.toList ++ Pg.low 1 1 ++ Pg.num s.size ++ Pg.text (Sq.squeeze s.data.toList))) := by
      show _ = _; unfold Pg.section_; rw [len_size, if_pos hlt]
    generalize Sq.squeeze s.data.toList = q at *
    go_wp2_with fail
    refine (low_any 1 1 _ (by omega) (by omega)).mono ?_
    rintro r w2 ⟨rfl, hb2⟩
    have HB2 := hid (HB1.out.trans (hb2.mono hsz1))
    have hsz2 := HB2.out.size
    clear hb2
    have hl1 := Pg.low_len 1 1
    generalize Pg.low 1 1 = lw at *
    go_wp2_with fail
    refine (number_any s.size _ (by omega)).mono ?_
    rintro r w3 ⟨rfl, hb3⟩
    have HB3 := hid (HB2.out.trans (hb3.mono hsz2))
    have hsz3 := HB3.out.size
    clear hb3
    have hnl := num_short s.size (by omega)
    generalize Pg.num s.size = nm at *
    go_wp2_with fail
    refine (text_any ⟨q.toArray⟩ _ (by show q.toArray.size ≤ _; simp; omega)).mono ?_
    rintro r w4 ⟨rfl, hb4⟩
    have HB4 := hid (HB3.out.trans (hb4.mono hsz3))
    have hsz4 := HB4.out.size
    clear hb4
    have htl : (Pg.text (⟨q.toArray⟩ : ByteArray).data.toList).length ≤ 5000000000000 := by
      unfold Pg.text; simp; have := num_short q.length (by omega); omega
    generalize Pg.text (⟨q.toArray⟩ : ByteArray).data.toList = tx at *
    go_wp2_with fail
    refine (sealed_any _ _ (by simp only [ByteArray.size_append', size_mk]; omega)).mono ?_
    rintro r w5 ⟨rfl, hb5⟩
    have HB5 := hid (HB4.out.trans (hb5.mono hsz4))
    clear hb5
    generalize hse : Pg.sealed _ = se
    have HSE := hid hse
    clear hse
    go_wp2_with fail
    go_ret
    exact ⟨ret_str (by rw [HSEC.out, ← HSE.out]; simp), HB5.out⟩
  · have HSEC : Hid (Pg.section_ k.data.toList s.data.toList = Pg.sealed (k.data.toList ++ Pg.low 0 1 ++ Pg.num s.size ++ Pg.text s.data.toList)) := by
      show _ = _; unfold Pg.section_; rw [len_size, if_neg hlt]
    generalize Sq.squeeze s.data.toList = q at *
    go_wp2_with fail
    refine (low_any 0 1 _ (by omega) (by omega)).mono ?_
    rintro r w2 ⟨rfl, hb2⟩
    have HB2 := hid (HB1.out.trans (hb2.mono hsz1))
    have hsz2 := HB2.out.size
    clear hb2
    have hl1 := Pg.low_len 1 0
    generalize Pg.low 0 1 = lw at *
    go_wp2_with fail
    refine (number_any s.size _ (by omega)).mono ?_
    rintro r w3 ⟨rfl, hb3⟩
    have HB3 := hid (HB2.out.trans (hb3.mono hsz2))
    have hsz3 := HB3.out.size
    clear hb3
    have hnl := num_short s.size (by omega)
    generalize Pg.num s.size = nm at *
    go_wp2_with fail
    refine (text_any s _ (by omega)).mono ?_
    rintro r w4 ⟨rfl, hb4⟩
    have HB4 := hid (HB3.out.trans (hb4.mono hsz3))
    have hsz4 := HB4.out.size
    clear hb4
    have htl : (Pg.text s.data.toList).length ≤ 5000000000000 := by
      unfold Pg.text; rw [len_size, List.length_append, len_size]; have := num_short s.size (by omega); omega
    generalize Pg.text s.data.toList = tx at *
    go_wp2_with fail
    refine (sealed_any _ _ (by simp only [ByteArray.size_append', size_mk]; omega)).mono ?_
    rintro r w5 ⟨rfl, hb5⟩
    have HB5 := hid (HB4.out.trans (hb5.mono hsz4))
    clear hb5
    generalize hse : Pg.sealed _ = se
    have HSE := hid hse
    clear hse
    go_wp2_with fail
    go_ret
    exact ⟨ret_str (by rw [HSEC.out, ← HSE.out]; simp), HB5.out⟩
end Go.Proofs.YtolgpnaoaodepaaGreat
