/- The walks of the reference's bytes: crc, low, noughts, Sealed, Number, Text, Section. -/
import Derived.Test.YtolgpnaoaodepaaGreatLawA
import Derived.Test.YtolgpnaoaodepaaGreatGenR
import Derived.Test.YtolgpnaoaodepaaGreatMathB
import Derived.Laws.BitsAllLaws
import Derived.Laws.Concat
namespace Go.Proofs.YtolgpnaoaodepaaGreat
open Go.RowKit
set_option maxHeartbeats 1000000 in
theorem crc_any (s : ByteArray) (w : World) (hs : s.size ≤ 35184372088832) :
    Calls Tryz.prog 144 #[.string s] w fun r w' => r = .returned (.int .i64 (Pg.crc s.data.toList)) ∧ w' = w := by
  go_enter Tryz.func144, Tryz.ntmps144
  go_wp2_with fail
  go_loop [3, 4] (fun c i => ∃ k : Nat, k ≤ s.size ∧ i = .int .i64 k ∧ c = .int .i64 (Pg.crcAll (s.data.toList.take k))) (fun _ i => s.size - (intOf i).toNat)
  case atStart => exact ⟨0, Nat.zero_le _, rfl, rfl⟩
  case round =>
    obtain ⟨k, hk, rfl, rfl⟩ := hrel
    have hlt := Pg.crcAll_lt (s.data.toList.take k)
    by_cases hks : k < s.size
    · have HN := hid (crc_next s k hks)
      generalize hc : Pg.crcAll (s.data.toList.take k) = c at *
      have hb : (s[k]'hks).toNat < 256 := (s[k]'hks).toNat_lt
      have hx := i64_xor_nat c (s[k]'hks).toNat hlt (by omega)
      have hx2 := Pg.xor_lt (a := c) (b := (s[k]'hks).toNat) hlt (by omega)
      have HX : Hid (Pg.crcByte c (s[k]'hks) = Pg.crcBits 8 (c ^^^ (s[k]'hks).toNat)) := rfl
      clear hc
      generalize hd : c ^^^ (s[k]'hks).toNat = d at *
      clear hd
      go_wp2_with fail
      clear hx
      go_loop [3, 5] (fun e j => ∃ m : Nat, m ≤ 8 ∧ j = .int .i64 m ∧ e = .int .i64 (Pg.crcBits m d)) (fun _ j => 8 - (intOf j).toNat)
      case atStart => exact ⟨0, Nat.zero_le _, rfl, rfl⟩
      case round =>
        obtain ⟨m, hm, rfl, rfl⟩ := hrel
        have hlt2 := Pg.crcBits_lt hx2 m
        have HS : Hid (Pg.crcBits (m + 1) d = Pg.crcBit (Pg.crcBits m d)) := rfl
        generalize hf : Pg.crcBits m d = f at *
        by_cases hm8 : m < 8
        · clear hf
          by_cases h1 : f % 2 = 1
          · have HC := hid (crcBit_one h1)
            have HXP := hid (xor_poly f hlt2)
            have h1' : ((f : Int) % 2 == 1) = true := by simp; omega
            go_wp2_with fail
            go_round
            case rel => exact ⟨m + 1, by omega, by go_num, by rw [HS.out, HC.out, HXP.out]⟩
            case measure => simp [intOf]; omega
          · have HC := hid (crcBit_zero h1)
            have h1' : ((f : Int) % 2 == 1) = false := by simp; omega
            go_wp2_with fail
            go_round
            case rel => exact ⟨m + 1, by omega, by go_num, by rw [HS.out, HC.out]; exact int_eq (by omega)⟩
            case measure => simp [intOf]; omega
        · have hm' : m = 8 := by omega
          subst hm'
          go_wp2_with fail
          go_round
          case rel => exact ⟨k + 1, by omega, by go_num, by rw [HN.out, HX.out, hf]⟩
          case measure => simp [intOf]; omega
    · have HF : Hid (bits .xor .i64 (Pg.crcAll (s.data.toList.take k) : Int) 4294967295 = (Pg.crc s.data.toList : Int)) := by
        show _ = _
        rw [xor_ones _ hlt, List.take_of_length_le (by rw [len_size]; omega)]; rfl
      go_wp2_with fail
      go_ret
      exact ⟨ret_int HF.out, rfl⟩
set_option maxHeartbeats 1000000 in
theorem noughts_any (n : Nat) (w : World) (hn : n ≤ 140737488355328) :
    Calls Tryz.prog 90 #[.int .i64 n] w fun r w' => r = .returned (.string ⟨(List.replicate n 0).toArray⟩) ∧ Below w.heap.size w w' := by
  go_enter Tryz.func90, Tryz.ntmps90
  go_wp2_with (first
    | (at_make; refine wpMk w rfl (.tmp 3) (.tmp 3) rfl n rfl rfl hn ?_))
  intro w1 ho hb _
  have hcv := ho.str
  have HB := hid hb
  clear ho hb
  generalize hl : List.replicate n (0 : UInt8) = l at *
  have HL := hid hl
  clear hl
  go_wp2_with fail
  go_ret
  exact ⟨by rw [HL.out]; rfl, HB.out⟩
set_option maxHeartbeats 1000000 in
theorem low_any (n m : Nat) (w : World) (hn : n ≤ 9223372036854775807) (hm : m ≤ 140737488355328) :
    Calls Tryz.prog 89 #[.int .i64 n, .int .i64 m] w fun r w' => r = .returned (.string ⟨(Pg.low n m).toArray⟩) ∧ Below w.heap.size w w' := by
  go_enter Tryz.func89, Tryz.ntmps89
  go_wp2_with (first
    | (at_make; refine wpMk w rfl (.tmp 7) (.tmp 7) rfl m rfl rfl hm ?_))
  intro w1 ho hb _
  have HO := hid ho
  have HB := hid hb
  clear ho hb
  go_wp2_with fail
  go_loopw [0, 6] (fun x i wr => ∃ k : Nat, k ≤ m ∧ i = .int .i64 k ∧ x = .int .i64 (n / 256 ^ k : Nat) ∧ Owns w.heap.size wr (.slice (some ⟨w.heap.size, 0, none⟩) m m) (Pg.low n k ++ List.replicate (m - k) 0) ∧ Below w.heap.size w wr) (fun _ i _ => m - (intOf i).toNat)
  case atStart => exact ⟨0, Nat.zero_le _, rfl, int_eq (by simp), by simpa [Pg.low] using HO.out, HB.out⟩
  case round =>
    obtain ⟨k, hk, rfl, rfl, hok, hbk⟩ := hrel
    have hlen : (Pg.low n k ++ List.replicate (m - k) 0).length = m := by simp [Pg.low_len]; omega
    by_cases hkm : k < m
    · have hnk : n / 256 ^ k ≤ n := Nat.div_le_self _ _
      have HNX : Hid (n / 256 ^ (k + 1) = n / 256 ^ k / 256) := by show _ = _; rw [Nat.div_div_eq_div_mul, Nat.pow_succ]
      have hst := Owns.stored (by rw [hlen]; exact hok) k (UInt8.ofNat (n / 256 ^ k % 256)) (c := m)
      rw [low_set n k m hkm, hlen] at hst
      have hce : (wr.cell? ⟨w.heap.size, k, none⟩).isSome = true := by
        rw [hok.cellAt k _ (List.getElem?_eq_getElem (by omega))]; rfl
      have hfz : wr.frozen? ⟨w.heap.size, k, none⟩ = false := World.ownsRow.frozenAt (by have := hok; unfold Owns at this; rw [hlen] at this; exact this) k
      have hbs := hbk.setCell (p := ⟨w.heap.size, k, none⟩) (Nat.le_refl _) (.int .u8 ((UInt8.ofNat (n / 256 ^ k % 256)).toNat : Int))
      have hu : ((UInt8.ofNat (n / 256 ^ k % 256)).toNat : Int) = ((n / 256 ^ k : Nat) : Int) % 256 := by simp
      rw [hu] at hst hbs
      have HST := hid hst
      have HBS := hid hbs
      obtain ⟨vc, hcv⟩ := Option.isSome_iff_exists.1 hce
      clear hok hbk hst hbs hu hce hlen
      generalize n / 256 ^ k = x at *
      go_wp2_with fail
      go_roundw
      case rel => exact ⟨k + 1, by omega, by go_num, by rw [HNX.out]; exact int_eq (by omega), HST.out, HBS.out⟩
      case measure => simp [intOf]; omega
    · have hcv : (convert 108 9 (.slice (some ⟨w.heap.size, 0, none⟩) m m)).run Tryz.prog wr = .ok (.string ⟨(Pg.low n m).toArray⟩) wr := by
        have hkm' : k = m := by omega
        subst hkm'
        have := hok.str
        simpa using this
      clear hok hlen
      go_wp2_with fail
      go_ret
      exact ⟨rfl, hbk⟩
end Go.Proofs.YtolgpnaoaodepaaGreat
