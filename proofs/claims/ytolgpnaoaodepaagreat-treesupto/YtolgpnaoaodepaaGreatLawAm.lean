/- The walks of the statements' own steps: num, squeezed, step (of the kinds 1 and 2), looks (of an empty book). -/
import Derived.Test.YtolgpnaoaodepaaGreatAidm
import Derived.Test.YtolgpnaoaodepaaGreatGenm
import Derived.Test.YtolgpnaoaodepaaGreatWalkFm
import Derived.Laws.BitsAllLaws
import Derived.Laws.Concat
namespace Go.Proofs.YtolgpnaoaodepaaGreat
open Go.RowKit

set_option maxHeartbeats 400000 in
theorem num_any (e : Int) (w : World) : Calls Tryz.prog 96 #[.int .i64 e] w fun r w' => r = .returned (.int .i64 e) ∧ w' = w := by
  go_enter Tryz.func96, Tryz.ntmps96
  go_wp2
  go_ret
  exact ⟨rfl, rfl⟩

theorem bcell {W w1 : World} {B : Nat} (hb : Below B W w1) : (∀ b o, b < B → w1.cell? ⟨b, o, none⟩ = W.cell? ⟨b, o, none⟩) :=
  fun b o h => hb.cell (p := ⟨b, o, none⟩) h

end Go.Proofs.YtolgpnaoaodepaaGreat
/- What the walks of the reference share. -/
namespace Go.Proofs.YtolgpnaoaodepaaGreat
open Go.RowKit
end Go.Proofs.YtolgpnaoaodepaaGreat
/- The walks of the reference's bytes: crc, low, noughts, Sealed, Number, Text, Section. -/
namespace Go.Proofs.YtolgpnaoaodepaaGreat
open Go.RowKit
set_option maxHeartbeats 1000000 in
theorem crc_any (s : ByteArray) (w : World) (hs : s.size ≤ 35184372088832) :
    Calls Tryz.prog 144 #[.string s] w fun r w' => r = .returned (.int .i64 (Pg.crc s.data.toList)) ∧ w' = w := by
  go_enter Tryz.func144, Tryz.ntmps144
  go_wp2_with fail
  go_loop [3, 4] (fun c i => ∃ k : Nat, k ≤ s.size ∧ i = .int .i64 k ∧ c = .int .i64 (Pg.crcAll (s.data.toList.take k))) (fun _ i => s.size - (intOf i).toNat)
  case atStart => exact ⟨0, Nat.zero_le _, rfl, rfl⟩
  case round =>
    obtain ⟨k, hk, rfl, rfl⟩ := hrel
    have hlt := Pg.crcAll_lt (s.data.toList.take k)
    by_cases hks : k < s.size
    · have HN := hid (crc_next s k hks)
      generalize hc : Pg.crcAll (s.data.toList.take k) = c at *
      have hb : (s[k]'hks).toNat < 256 := (s[k]'hks).toNat_lt
      have hx := i64_xor_nat c (s[k]'hks).toNat hlt (by omega)
      have hx2 := Pg.xor_lt (a := c) (b := (s[k]'hks).toNat) hlt (by omega)
      have HX : Hid (Pg.crcByte c (s[k]'hks) = Pg.crcBits 8 (c ^^^ (s[k]'hks).toNat)) := rfl
      clear hc
      generalize hd : c ^^^ (s[k]'hks).toNat = d at *
      clear hd
      go_wp2_with fail
      clear hx
      go_loop [3, 5] (fun e j => ∃ m : Nat, m ≤ 8 ∧ j = .int .i64 m ∧ e = .int .i64 (Pg.crcBits m d)) (fun _ j => 8 - (intOf j).toNat)
      case atStart => exact ⟨0, Nat.zero_le _, rfl, rfl⟩
      case round =>
        obtain ⟨m, hm, rfl, rfl⟩ := hrel
        have hlt2 := Pg.crcBits_lt hx2 m
        have HS : Hid (Pg.crcBits (m + 1) d = Pg.crcBit (Pg.crcBits m d)) := rfl
        generalize hf : Pg.crcBits m d = f at *
        by_cases hm8 : m < 8
        · clear hf
          by_cases h1 : f % 2 = 1
          · have HC := hid (crcBit_one h1)
            have HXP := hid (xor_poly f hlt2)
            have h1' : ((f : Int) % 2 == 1) = true := by simp; omega
            go_wp2_with fail
            go_round
            case rel => exact ⟨m + 1, by omega, by go_num, by rw [HS.out, HC.out, HXP.out]⟩
            case measure => simp [intOf]; omega
          · have HC := hid (crcBit_zero h1)
            have h1' : ((f : Int) % 2 == 1) = false := by simp; omega
            go_wp2_with fail
            go_round
            case rel => exact ⟨m + 1, by omega, by go_num, by rw [HS.out, HC.out]; exact int_eq (by omega)⟩
            case measure => simp [intOf]; omega
        · have hm' : m = 8 := by omega
          subst hm'
          go_wp2_with fail
          go_round
          case rel => exact ⟨k + 1, by omega, by go_num, by rw [HN.out, HX.out, hf]⟩
          case measure => simp [intOf]; omega
    · have HF : Hid (bits .xor .i64 (Pg.crcAll (s.data.toList.take k) : Int) 4294967295 = (Pg.crc s.data.toList : Int)) := by
        show _ = _
        rw [xor_ones _ hlt, List.take_of_length_le (by rw [len_size]; omega)]; rfl
      go_wp2_with fail
      go_ret
      exact ⟨ret_int HF.out, rfl⟩
set_option maxHeartbeats 1000000 in
theorem noughts_any (n : Nat) (w : World) (hn : n ≤ 140737488355328) :
    Calls Tryz.prog 90 #[.int .i64 n] w fun r w' => r = .returned (.string ⟨(List.replicate n 0).toArray⟩) ∧ Below w.heap.size w w' := by
  go_enter Tryz.func90, Tryz.ntmps90
  go_wp2_with (first
    | (at_make; refine wpMk w rfl (.tmp 3) (.tmp 3) rfl n rfl rfl hn ?_))
  intro w1 ho hb _
  have hcv := ho.str
  have HB := hid hb
  clear ho hb
  generalize hl : List.replicate n (0 : UInt8) = l at *
  have HL := hid hl
  clear hl
  go_wp2_with fail
  go_ret
  exact ⟨by rw [HL.out]; rfl, HB.out⟩
set_option maxHeartbeats 1000000 in
theorem low_any (n m : Nat) (w : World) (hn : n ≤ 9223372036854775807) (hm : m ≤ 140737488355328) :
    Calls Tryz.prog 89 #[.int .i64 n, .int .i64 m] w fun r w' => r = .returned (.string ⟨(Pg.low n m).toArray⟩) ∧ Below w.heap.size w w' := by
  go_enter Tryz.func89, Tryz.ntmps89
  go_wp2_with (first
    | (at_make; refine wpMk w rfl (.tmp 7) (.tmp 7) rfl m rfl rfl hm ?_))
  intro w1 ho hb _
  have HO := hid ho
  have HB := hid hb
  clear ho hb
  go_wp2_with fail
  go_loopw [0, 6] (fun x i wr => ∃ k : Nat, k ≤ m ∧ i = .int .i64 k ∧ x = .int .i64 (n / 256 ^ k : Nat) ∧ Owns w.heap.size wr (.slice (some ⟨w.heap.size, 0, none⟩) m m) (Pg.low n k ++ List.replicate (m - k) 0) ∧ Below w.heap.size w wr) (fun _ i _ => m - (intOf i).toNat)
  case atStart => exact ⟨0, Nat.zero_le _, rfl, int_eq (by simp), by simpa [Pg.low] using HO.out, HB.out⟩
  case round =>
    obtain ⟨k, hk, rfl, rfl, hok, hbk⟩ := hrel
    have hlen : (Pg.low n k ++ List.replicate (m - k) 0).length = m := by simp [Pg.low_len]; omega
    by_cases hkm : k < m
    · have hnk : n / 256 ^ k ≤ n := Nat.div_le_self _ _
      have HNX : Hid (n / 256 ^ (k + 1) = n / 256 ^ k / 256) := by show _ = _; rw [Nat.div_div_eq_div_mul, Nat.pow_succ]
      have hst := Owns.stored (by rw [hlen]; exact hok) k (UInt8.ofNat (n / 256 ^ k % 256)) (c := m)
      rw [low_set n k m hkm, hlen] at hst
      have hce : (wr.cell? ⟨w.heap.size, k, none⟩).isSome = true := by
        rw [hok.cellAt k _ (List.getElem?_eq_getElem (by omega))]; rfl
      have hfz : wr.frozen? ⟨w.heap.size, k, none⟩ = false := World.ownsRow.frozenAt (by have := hok; unfold Owns at this; rw [hlen] at this; exact this) k
      have hbs := hbk.setCell (p := ⟨w.heap.size, k, none⟩) (Nat.le_refl _) (.int .u8 ((UInt8.ofNat (n / 256 ^ k % 256)).toNat : Int))
      have hu : ((UInt8.ofNat (n / 256 ^ k % 256)).toNat : Int) = ((n / 256 ^ k : Nat) : Int) % 256 := by simp
      rw [hu] at hst hbs
      have HST := hid hst
      have HBS := hid hbs
      obtain ⟨vc, hcv⟩ := Option.isSome_iff_exists.1 hce
      clear hok hbk hst hbs hu hce hlen
      generalize n / 256 ^ k = x at *
      go_wp2_with fail
      go_roundw
      case rel => exact ⟨k + 1, by omega, by go_num, by rw [HNX.out]; exact int_eq (by omega), HST.out, HBS.out⟩
      case measure => simp [intOf]; omega
    · have hcv : (convert 108 9 (.slice (some ⟨w.heap.size, 0, none⟩) m m)).run Tryz.prog wr = .ok (.string ⟨(Pg.low n m).toArray⟩) wr := by
        have hkm' : k = m := by omega
        subst hkm'
        have := hok.str
        simpa using this
      clear hok hlen
      go_wp2_with fail
      go_ret
      exact ⟨rfl, hbk⟩
end Go.Proofs.YtolgpnaoaodepaaGreat
/- The walks of Sealed, Number, Text, Section. -/
namespace Go.Proofs.YtolgpnaoaodepaaGreat
open Go.RowKit
set_option maxHeartbeats 1000000 in
theorem sealed_any (s : ByteArray) (w : World) (hs : s.size ≤ 35184372088832) :
    Calls Tryz.prog 88 #[.string s] w fun r w' => r = .returned (.string ⟨(Pg.sealed s.data.toList).toArray⟩) ∧ Below w.heap.size w w' := by
  go_enter Tryz.func88, Tryz.ntmps88
  go_wp2_with fail
  refine (crc_any s _ hs).mono ?_
  rintro r w1 ⟨rfl, rfl⟩
  have hc := Pg.crc_lt s.data.toList
  go_wp2_with fail
  refine (low_any (Pg.crc s.data.toList) 4 _ (by omega) (by omega)).mono ?_
  rintro r w2 ⟨rfl, hb⟩
  have HB := hid hb
  clear hb
  have hl4 := Pg.low_len 4 (Pg.crc s.data.toList)
  have HSE : Hid (Pg.sealed s.data.toList = s.data.toList ++ Pg.low (Pg.crc s.data.toList) 4) := rfl
  generalize Pg.low (Pg.crc s.data.toList) 4 = lw at *
  go_wp2_with fail
  go_ret
  exact ⟨ret_str (by rw [HSE.out]; simp), HB.out⟩
set_option maxHeartbeats 1000000 in
set_option maxRecDepth 100000 in
theorem number_any (n : Nat) : ∀ (w : World), n ≤ 9223372036854775807 →
    Calls Tryz.prog 84 #[.int .i64 n] w fun r w' => r = .returned (.string ⟨(Pg.num n).toArray⟩) ∧ Below w.heap.size w w' := by
  induction n using Nat.strongRecOn with
  | _ n ih =>
    intro w hn
    have IH := hid ih
    clear ih
    by_cases hs : n < 128
    · have HN := hid (Pg.num_small n hs)
      go_enter Tryz.func84, Tryz.ntmps84
      go_wp2_with fail
      refine (low_any n 1 _ hn (by omega)).mono ?_
      rintro r w1 ⟨rfl, hb⟩
      go_wp2_with fail
      go_ret
      exact ⟨by rw [HN.out]; rfl, hb⟩
    · have HN := hid (Pg.num_big n hs)
      go_enter Tryz.func84, Tryz.ntmps84
      go_wp2_with fail
      rw [show ((128 : Int) + (n : Int) % 128) = ((128 + n % 128 : Nat) : Int) by omega]
      refine (low_any (128 + n % 128) 1 _ (by omega) (by omega)).mono ?_
      rintro r w1 ⟨rfl, hb⟩
      have HB := hid hb
      have hsz := hb.size
      clear hb
      have hll := Pg.low_len 1 (128 + n % 128)
      generalize Pg.low (128 + n % 128) 1 = lw at *
      go_wp2_with fail
      rw [show ((n : Int) / 128) = ((n / 128 : Nat) : Int) by omega]
      refine (IH.out (n / 128) (by omega) _ (by omega)).mono ?_
      rintro r w2 ⟨rfl, hb2⟩
      have HB2 := hid (HB.out.trans (hb2.mono hsz))
      clear hb2
      have hnl : (Pg.num (n / 128)).length ≤ 100 := by
        have := Pg.num_len' 9 (n / 128) (by show n / 128 < 128 ^ 10; omega)
        omega
      generalize Pg.num (n / 128) = nm at *
      go_wp2_with fail
      go_ret
      exact ⟨ret_str (by rw [HN.out]; simp), HB2.out⟩
set_option maxHeartbeats 1000000 in
theorem text_any (s : ByteArray) (w : World) (hs : s.size ≤ 35184372088832) :
    Calls Tryz.prog 85 #[.string s] w fun r w' => r = .returned (.string ⟨(Pg.text s.data.toList).toArray⟩) ∧ Below w.heap.size w w' := by
  have HT : Hid (Pg.text s.data.toList = Pg.num s.size ++ s.data.toList) := by show _ = _; unfold Pg.text; rw [len_size]
  go_enter Tryz.func85, Tryz.ntmps85
  go_wp2_with fail
  refine (number_any s.size _ (by omega)).mono ?_
  rintro r w1 ⟨rfl, hb⟩
  have HB := hid hb
  clear hb
  have hnl := num_short s.size (by omega)
  generalize Pg.num s.size = nm at *
  go_wp2_with fail
  go_ret
  exact ⟨ret_str (by rw [HT.out]; simp), HB.out⟩
set_option maxHeartbeats 2000000 in
theorem section_any (k s : ByteArray) (w : World) (hk : k.size ≤ 1000) (hs : s.size ≤ 4398046511104) :
    Calls Tryz.prog 86 #[.string k, .string s] w fun r w' => r = .returned (.string ⟨(Pg.section_ k.data.toList s.data.toList).toArray⟩) ∧ Below w.heap.size w w' := by
  go_enter Tryz.func86, Tryz.ntmps86
  go_wp2_with fail
  refine (refSqueeze_any s _ (by omega)).mono ?_
  rintro r w1 ⟨rfl, hb1⟩
  have HB1 := hid hb1
  have hsz1 := hb1.size
  clear hb1
  have hql := Sq.squeeze_le s.data.toList
  rw [len_size] at hql
  by_cases hlt : (Sq.squeeze s.data.toList).length < s.size
  · have HSEC : Hid (Pg.section_ k.data.toList s.data.toList = Pg.sealed (k.data.toList ++ Pg.low 1 1 ++ Pg.num s.size ++ Pg.text (Sq.squeeze s.data.toList))) := by
      show _ = _; unfold Pg.section_; rw [len_size, if_pos hlt]
    generalize Sq.squeeze s.data.toList = q at *
    go_wp2_with fail
    refine (low_any 1 1 _ (by omega) (by omega)).mono ?_
    rintro r w2 ⟨rfl, hb2⟩
    have HB2 := hid (HB1.out.trans (hb2.mono hsz1))
    have hsz2 := HB2.out.size
    clear hb2
    have hl1 := Pg.low_len 1 1
    generalize Pg.low 1 1 = lw at *
    go_wp2_with fail
    refine (number_any s.size _ (by omega)).mono ?_
    rintro r w3 ⟨rfl, hb3⟩
    have HB3 := hid (HB2.out.trans (hb3.mono hsz2))
    have hsz3 := HB3.out.size
    clear hb3
    have hnl := num_short s.size (by omega)
    generalize Pg.num s.size = nm at *
    go_wp2_with fail
    refine (text_any ⟨q.toArray⟩ _ (by show q.toArray.size ≤ _; simp; omega)).mono ?_
    rintro r w4 ⟨rfl, hb4⟩
    have HB4 := hid (HB3.out.trans (hb4.mono hsz3))
    have hsz4 := HB4.out.size
    clear hb4
    have htl : (Pg.text (⟨q.toArray⟩ : ByteArray).data.toList).length ≤ 5000000000000 := by
      unfold Pg.text; simp; have := num_short q.length (by omega); omega
    generalize Pg.text (⟨q.toArray⟩ : ByteArray).data.toList = tx at *
    go_wp2_with fail
    refine (sealed_any _ _ (by simp only [ByteArray.size_append', size_mk]; omega)).mono ?_
    rintro r w5 ⟨rfl, hb5⟩
    have HB5 := hid (HB4.out.trans (hb5.mono hsz4))
    clear hb5
    generalize hse : Pg.sealed _ = se
    have HSE := hid hse
    clear hse
    go_wp2_with fail
    go_ret
    exact ⟨ret_str (by rw [HSEC.out, ← HSE.out]; simp), HB5.out⟩
  · have HSEC : Hid (Pg.section_ k.data.toList s.data.toList = Pg.sealed (k.data.toList ++ Pg.low 0 1 ++ Pg.num s.size ++ Pg.text s.data.toList)) := by
      show _ = _; unfold Pg.section_; rw [len_size, if_neg hlt]
    generalize Sq.squeeze s.data.toList = q at *
    go_wp2_with fail
    refine (low_any 0 1 _ (by omega) (by omega)).mono ?_
    rintro r w2 ⟨rfl, hb2⟩
    have HB2 := hid (HB1.out.trans (hb2.mono hsz1))
    have hsz2 := HB2.out.size
    clear hb2
    have hl1 := Pg.low_len 1 0
    generalize Pg.low 0 1 = lw at *
    go_wp2_with fail
    refine (number_any s.size _ (by omega)).mono ?_
    rintro r w3 ⟨rfl, hb3⟩
    have HB3 := hid (HB2.out.trans (hb3.mono hsz2))
    have hsz3 := HB3.out.size
    clear hb3
    have hnl := num_short s.size (by omega)
    generalize Pg.num s.size = nm at *
    go_wp2_with fail
    refine (text_any s _ (by omega)).mono ?_
    rintro r w4 ⟨rfl, hb4⟩
    have HB4 := hid (HB3.out.trans (hb4.mono hsz3))
    have hsz4 := HB4.out.size
    clear hb4
    have htl : (Pg.text s.data.toList).length ≤ 5000000000000 := by
      unfold Pg.text; rw [len_size, List.length_append, len_size]; have := num_short s.size (by omega); omega
    generalize Pg.text s.data.toList = tx at *
    go_wp2_with fail
    refine (sealed_any _ _ (by simp only [ByteArray.size_append', size_mk]; omega)).mono ?_
    rintro r w5 ⟨rfl, hb5⟩
    have HB5 := hid (HB4.out.trans (hb5.mono hsz4))
    clear hb5
    generalize hse : Pg.sealed _ = se
    have HSE := hid hse
    clear hse
    go_wp2_with fail
    go_ret
    exact ⟨ret_str (by rw [HSEC.out, ← HSE.out]; simp), HB5.out⟩
end Go.Proofs.YtolgpnaoaodepaaGreat
