/- The walks of package wire's writing: AppendNumber, AppendText, AppendShort, check, Seal. -/
import Derived.Test.YtolgpnaoaodepaaOwnG
namespace Go.Proofs.Ytolgpnaoaodepaa
open Go.RowKit

set_option maxRecDepth 10000 in
theorem or128 : ∀ a, a < 256 → a ||| 128 = 128 + a % 128 := by decide
theorem u8_or128 (m : Nat) : bits .or .u8 ((m : Int) % 256) 128 = ((128 + m % 128 : Nat) : Int) := by
  have h := u8_or_nat (m % 256) 128 (by omega) (by omega)
  rw [or128 _ (by omega), show m % 256 % 128 = m % 128 by omega] at h
  rw [← h]; rfl

theorem low1 (n : Nat) : ∃ b : UInt8, b.toNat = n % 256 ∧ Pg.low n 1 = [b] := ⟨UInt8.ofNat (n % 256), by simp, rfl⟩
set_option maxHeartbeats 1000000 in
set_option maxRecDepth 20000 in
theorem apNum_any (B : Nat) (v : Value) (l : List UInt8) (n : Nat) (w : World) (hown : Owns B w v l) (hB : B ≤ w.heap.size) (hl : l.length ≤ 100000000000) (hn : n ≤ 9223372036854775807) :
    Calls Try.prog 74 #[v, .int .i64 n] w fun r w' => ∃ v', r = .returned v' ∧ Owns B w' v' (l ++ Pg.num n) ∧ Grew w w' v v' := by
  have HOWN := hid hown
  have hnl := num_short n hn
  clear hown
  go_enter Try.func74, Try.ntmps74
  go_wp2_with fail
  go_loopw [0, 1] (fun u i wr => ∃ (o : List UInt8) (m : Nat), m ≤ n ∧ i = .int .i64 m ∧ Owns B wr u o ∧ Grew w wr v u ∧ o ++ Pg.num m = l ++ Pg.num n ∧ o.length ≤ l.length + 10) (fun _ i _ => (intOf i).toNat)
  case atStart => exact ⟨l, n, Nat.le_refl _, rfl, HOWN.out, Grew.refl _ _, rfl, by omega⟩
  case round =>
    obtain ⟨o, m, hm, rfl, ho, hb, heq, hol⟩ := hrel
    have HEQ := hid heq
    have HO := hid ho
    have HB := hid hb
    have hsz := hb.size
    have HLEN := hid (show (o ++ Pg.num m).length ≤ l.length + 10 by rw [heq, List.length_append]; omega)
    clear heq ho hb
    by_cases h128 : 128 ≤ m
    · have HU := hid (u8_or128 m)
      obtain ⟨bt, hbt, hbl⟩ := low1 (128 + m % 128)
      have HBL := hid hbl
      have HBT := hid hbt
      clear hbl hbt
      go_wp2_with (first
        | (at_builtin; refine wpAp1 wr rfl (.tmp 7) (.tmp 11) rfl B u0 o rfl HO.out bt _ ?_ rfl ?_ ?_ ?_))
      · rw [HU.out, HBT.out]; omega
      · omega
      · omega
      intro v2 w2 ho2 hg2 hat2
      have HO2 := hid ho2
      have HB2 := hid (HB.out.trans (grew_alloc hg2 hat2))
      clear ho2 hg2 hat2
      go_wp2_with fail
      go_roundw
      case rel =>
        have hnb := Pg.num_big m (by omega)
        refine ⟨_, m / 128, by omega, by go_num, HO2.out, HB2.out, ?_, ?_⟩
        · rw [← HEQ.out, hnb, List.append_assoc, HBL.out]
        · have := HLEN.out
          rw [hnb] at this
          simp only [List.length_append, Pg.low_len] at this
          simp; omega
      case measure => simp [intOf]; omega
    · obtain ⟨bt, hbt, hbl⟩ := low1 m
      have HBL := hid hbl
      have HBT := hid hbt
      clear hbl hbt
      go_wp2_with (first
        | (at_builtin; refine wpAp1 wr rfl (.tmp 15) (.tmp 18) rfl B u0 o rfl HO.out bt _ ?_ rfl ?_ ?_ ?_))
      · rw [HBT.out]; omega
      · omega
      · omega
      intro v2 w2 ho2 hg2 hat2
      have HB2 := hid (HB.out.trans (grew_alloc hg2 hat2))
      have HO2 : Hid (Owns B w2 v2 (l ++ Pg.num n)) := by
        show Owns _ _ _ _
        rw [← HEQ.out, Pg.num_small m (by omega), HBL.out]; exact ho2
      clear ho2 hg2 hat2
      go_wp2_with fail
      go_ret
      exact ⟨v2, rfl, HO2.out, HB2.out⟩

set_option maxHeartbeats 1000000 in
set_option maxRecDepth 20000 in
theorem apText_any (B : Nat) (v : Value) (l : List UInt8) (s : ByteArray) (w : World) (hown : Owns B w v l) (hB : B ≤ w.heap.size) (hl : l.length ≤ 100000000000) (hs : s.size ≤ 35184372088832) :
    Calls Try.prog 76 #[v, .string s] w fun r w' => ∃ v', r = .returned v' ∧ Owns B w' v' (l ++ Pg.text s.data.toList) ∧ Grew w w' v v' := by
  have HOWN := hid hown
  have HT : Hid (Pg.text s.data.toList = Pg.num s.size ++ s.data.toList) := by show _ = _; unfold Pg.text; rw [len_size]
  have hnl := num_short s.size (by omega)
  clear hown
  go_enter Try.func76, Try.ntmps76
  go_wp2_with fail
  refine (apNum_any B v l s.size _ HOWN.out hB hl (by omega)).mono ?_
  rintro r w1 ⟨v1, rfl, ho1, hb1⟩
  have HO1 := hid ho1
  have HB1 := hid hb1
  have hsz := hb1.size
  clear ho1 hb1
  go_wp2_with (first
    | (at_builtin; refine wpApSg w1 rfl (.tmp 8) (.tmp 9) rfl B v1 _ rfl HO1.out s rfl (by rw [List.length_append]; omega) (by omega) ?_))
  intro v2 w2 ho2 hb2
  have HO2 := hid ho2
  have HB2 := hid (HB1.out.trans hb2)
  clear ho2 hb2
  go_wp2_with fail
  go_ret
  exact ⟨v2, rfl, by rw [HT.out]; exact HO2.out, HB2.out⟩

set_option maxHeartbeats 1000000 in
set_option maxRecDepth 20000 in
theorem apShort_any (B : Nat) (v : Value) (l : List UInt8) (n : Nat) (w : World) (hown : Owns B w v l) (hB : B ≤ w.heap.size) (hl : l.length ≤ 100000000000) :
    Calls Try.prog 59 #[v, .int .i64 n] w fun r w' => ∃ v', r = .returned v' ∧ Owns B w' v' (l ++ Pg.low n 2) ∧ Grew w w' v v' := by
  have HOWN := hid hown
  clear hown
  go_enter Try.func59, Try.ntmps59
  go_wp2_with (first
    | (at_builtin; refine wpAp2 w rfl (.tmp 5) (.tmp 11) rfl B v _ rfl HOWN.out (UInt8.ofNat (n % 256)) (UInt8.ofNat (n / 256 % 256)) _ _ ?_ ?_ rfl ?_ ?_ ?_))
  · simp
  · simp
  · omega
  · omega
  intro v2 w2 ho2 hg2 hat2
  have HO2 := hid ho2
  have HB2 := hid (grew_alloc hg2 hat2)
  clear ho2 hg2 hat2
  go_wp2_with fail
  go_ret
  exact ⟨v2, rfl, HO2.out, HB2.out⟩

theorem crc_step (f : Nat) (h : f < 4294967296) : bits .xor .u32 ((f : Int) / 2) (bits .and .u32 2197175160 (-bits .and .u32 (f : Int) 1 % 4294967296)) = ((Pg.crcBit f : Nat) : Int) := by
  have h1 := u32_and_nat f 1 h (by omega)
  rw [Nat.and_one_is_mod] at h1
  have h2 : bits .and .u32 (f : Int) 1 = ((f % 2 : Nat) : Int) := h1
  have h3 : (f : Int) / 2 = ((f / 2 : Nat) : Int) := by omega
  rw [h2, h3]
  by_cases ho : f % 2 = 1
  · rw [ho, show -((1 : Nat) : Int) % 4294967296 = ((4294967295 : Nat) : Int) by decide]
    have h4 : bits .and .u32 2197175160 ((4294967295 : Nat) : Int) = ((2197175160 : Nat) : Int) := by
      have := u32_and_nat 2197175160 4294967295 (by omega) (by omega)
      exact this
    rw [h4, u32_xor_nat _ _ (by omega) (by omega), crcBit_one ho]
  · rw [show f % 2 = 0 by omega, show -((0 : Nat) : Int) % 4294967296 = ((0 : Nat) : Int) by decide]
    have h4 : bits .and .u32 2197175160 ((0 : Nat) : Int) = ((0 : Nat) : Int) := by
      have := u32_and_nat 2197175160 0 (by omega) (by omega)
      exact this
    rw [h4, u32_xor_nat _ _ (by omega) (by omega), crcBit_zero ho, Nat.xor_zero]
set_option maxHeartbeats 1000000 in
set_option maxRecDepth 20000 in
theorem check_any (s : ByteArray) (w : World) (hs : s.size ≤ 35184372088832) :
    Calls Try.prog 83 #[.string s] w fun r w' => r = .returned (.int .u32 (Pg.crc s.data.toList)) ∧ w' = w := by
  go_enter Try.func83, Try.ntmps83
  go_wp2_with fail
  go_loop [3, 7] (fun c i => ∃ k : Nat, k ≤ s.size ∧ i = .int .i64 k ∧ c = .int .u32 (Pg.crcAll (s.data.toList.take k))) (fun _ i => s.size - (intOf i).toNat)
  case atStart => exact ⟨0, Nat.zero_le _, rfl, rfl⟩
  case round =>
    obtain ⟨k, hk, rfl, rfl⟩ := hrel
    have hlt := Pg.crcAll_lt (s.data.toList.take k)
    by_cases hks : k < s.size
    · have HN := hid (crc_next s k hks)
      generalize hc : Pg.crcAll (s.data.toList.take k) = c at *
      have hb : (s[k]'hks).toNat < 256 := (s[k]'hks).toNat_lt
      have hx := u32_xor_nat c (s[k]'hks).toNat hlt (by omega)
      have hx2 := Pg.xor_lt (a := c) (b := (s[k]'hks).toNat) hlt (by omega)
      have HX : Hid (Pg.crcByte c (s[k]'hks) = Pg.crcBits 8 (c ^^^ (s[k]'hks).toNat)) := rfl
      clear hc
      generalize hd : c ^^^ (s[k]'hks).toNat = d at *
      clear hd
      go_wp2_with fail
      clear hx
      go_loop [3, 16] (fun e j => ∃ m : Nat, m ≤ 8 ∧ j = .int .i64 m ∧ e = .int .u32 (Pg.crcBits m d)) (fun _ j => 8 - (intOf j).toNat)
      case atStart => exact ⟨0, Nat.zero_le _, rfl, rfl⟩
      case round =>
        obtain ⟨m, hm, rfl, rfl⟩ := hrel
        have hlt2 := Pg.crcBits_lt hx2 m
        have HS : Hid (Pg.crcBits (m + 1) d = Pg.crcBit (Pg.crcBits m d)) := rfl
        generalize hf : Pg.crcBits m d = f at *
        by_cases hm8 : m < 8
        · clear hf
          go_wp2_with fail
          go_round
          case rel => exact ⟨m + 1, by omega, by go_num, by rw [HS.out]; exact int_eq (crc_step f hlt2)⟩
          case measure => simp [intOf]; omega
        · have hm' : m = 8 := by omega
          subst hm'
          go_wp2_with fail
          go_round
          case rel => exact ⟨k + 1, by omega, by go_num, by rw [HN.out, HX.out, hf]⟩
          case measure => simp [intOf]; omega
    · have HF : Hid (bits .xor .u32 IntKind.u32.max (Pg.crcAll (s.data.toList.take k) : Int) = (Pg.crc s.data.toList : Int)) := by
        show _ = _
        have := u32_xor_nat 4294967295 (Pg.crcAll (s.data.toList.take k)) (by omega) hlt
        rw [show IntKind.u32.max = ((4294967295 : Nat) : Int) from rfl, this, List.take_of_length_le (by rw [len_size]; omega), Nat.xor_comm]; rfl
      go_wp2_with fail
      go_ret
      exact ⟨ret_int HF.out, rfl⟩

theorem low4 (n : Nat) : ∃ b c d e : UInt8, b.toNat = n % 256 ∧ c.toNat = n / 256 % 256 ∧ d.toNat = n / 65536 % 256 ∧ e.toNat = n / 16777216 % 256 ∧ Pg.low n 4 = [b, c, d, e] := ⟨UInt8.ofNat (n % 256), UInt8.ofNat (n / 256 % 256), UInt8.ofNat (n / 256 / 256 % 256), UInt8.ofNat (n / 256 / 256 / 256 % 256), by simp, by simp, by simp; omega, by simp; omega, rfl⟩

set_option maxHeartbeats 1000000 in
set_option maxRecDepth 20000 in
theorem seal_any (B : Nat) (v : Value) (l : List UInt8) (w : World) (hown : Owns B w v l) (hB : B ≤ w.heap.size) (hl : l.length ≤ 100000000000) :
    Calls Try.prog 75 #[v] w fun r w' => ∃ v', r = .returned v' ∧ Owns B w' v' (Pg.sealed l) ∧ Grew w w' v v' := by
  have HOWN := hid hown
  have hcv := hown.str
  clear hown
  go_enter Try.func75, Try.ntmps75
  go_wp2_with fail
  refine (check_any ⟨l.toArray⟩ _ (by rw [size_mk]; omega)).mono ?_
  rintro r w1 ⟨rfl, rfl⟩
  have hlt := Pg.crc_lt l
  rw [show (⟨l.toArray⟩ : ByteArray).data.toList = l from rfl]
  have HS : Hid (Pg.sealed l = l ++ Pg.low (Pg.crc l) 4) := rfl
  generalize Pg.crc l = n at *
  obtain ⟨b, c, d, e, hb, hc, hd, he, hl4⟩ := low4 n
  have HB := hid hb
  have HC := hid hc
  have HD := hid hd
  have HE := hid he
  have H4 := hid hl4
  clear hb hc hd he hl4 hcv
  go_wp2_with (first
    | (at_builtin; refine wpAp4 w1 rfl (.tmp 7) (.tmp 19) rfl B v _ rfl HOWN.out b c d e _ _ _ _ ?_ ?_ ?_ ?_ rfl ?_ ?_ ?_))
  · rw [HB.out]; omega
  · rw [HC.out]; omega
  · rw [HD.out]; omega
  · rw [HE.out]; omega
  · omega
  · omega
  intro v2 w2 ho2 hg2
  have HO2 := hid ho2
  have HB2 := hid hg2
  clear ho2 hg2
  go_wp2_with fail
  go_ret
  exact ⟨v2, rfl, by rw [HS.out, H4.out]; exact HO2.out, HB2.out⟩
end Go.Proofs.Ytolgpnaoaodepaa
