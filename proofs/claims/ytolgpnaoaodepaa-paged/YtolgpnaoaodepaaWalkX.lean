/- The walks of Reader's Short, Number, Text. -/
import Derived.Test.YtolgpnaoaodepaaWalkW
namespace Go.Proofs.Ytolgpnaoaodepaa
open Go.RowKit

theorem i64_or_nat (a b : Nat) (ha : a < 4294967296) (hb : b < 4294967296) : bits .or .i64 (a : Int) (b : Int) = ((a ||| b : Nat) : Int) := by
  have hx : a ||| b < 2 ^ 32 := Nat.or_lt_two_pow (by omega) (by omega)
  show IntKind.i64.wrap ((BitVec.ofInt 64 (a : Int) ||| BitVec.ofInt 64 (b : Int)).toNat : Int) = _
  rw [BitVec.toNat_or, ofInt_u64 a (by omega), ofInt_u64 b (by omega), IntKind.wrap_i64]
  omega
theorem or_sum (i a b : Nat) (h : b < 2 ^ i) : b ||| a * 2 ^ i = b + a * 2 ^ i := by
  rw [Nat.or_comm, Nat.mul_comm, ← Nat.two_pow_add_eq_or_of_lt h, Nat.add_comm]
theorem short_or (a c : Nat) (ha : a < 256) (hc : c < 256) : bits .or .i64 (wrap64 (a : Int)) (wrap64 (wrap64 (c : Int) * 256)) = ((a + 256 * c : Nat) : Int) := by
  have e1 : wrap64 (a : Int) = ((a : Nat) : Int) := by unfold wrap64; omega
  have e2 : wrap64 (c : Int) = ((c : Nat) : Int) := by unfold wrap64; omega
  have e3 : wrap64 (((c : Nat) : Int) * 256) = ((c * 2 ^ 8 : Nat) : Int) := by
    have : wrap64 (((c : Nat) : Int) * 256) = ((c : Nat) : Int) * 256 := by unfold wrap64; omega
    rw [this]; omega
  rw [e1, e2, e3, i64_or_nat _ _ (by omega) (by omega), or_sum 8 c a ha]
  omega
theorem num_or (m x k : Nat) (hx : x < 256) (hk : k ≤ 4) (hm : m < 128 ^ k) : bits .or .u64 (m : Int) (IntKind.u64.wrap (IntKind.u64.wrap (bits .andNot .u8 (x : Int) 128) * 2 ^ (7 * k))) = ((m + x % 128 * 128 ^ k : Nat) : Int) := by
  have e1 : bits .andNot .u8 (x : Int) 128 = ((x % 128 : Nat) : Int) := by
    have h := u8_andNot_nat x 128 hx (by omega)
    rw [show (255 - 128 : Nat) = 2 ^ 7 - 1 from rfl, Nat.and_two_pow_sub_one_eq_mod] at h
    exact h
  have hp : 128 ^ k ≤ 128 ^ 4 := Nat.pow_le_pow_right (by decide) hk
  have hp7 : 2 ^ (7 * k) = 128 ^ k := by rw [Nat.pow_mul]
  have hb : x % 128 * 2 ^ (7 * k) < 34359738368 := by
    rw [hp7]
    calc x % 128 * 128 ^ k ≤ x % 128 * 128 ^ 4 := Nat.mul_le_mul_left _ hp
      _ < 34359738368 := by omega
  have w1 : IntKind.u64.wrap ((x % 128 : Nat) : Int) = ((x % 128 : Nat) : Int) := by
    show ((x % 128 : Nat) : Int) % 18446744073709551616 = _; omega
  have w2 : IntKind.u64.wrap (((x % 128 : Nat) : Int) * 2 ^ (7 * k)) = ((x % 128 * 2 ^ (7 * k) : Nat) : Int) := by
    rw [show (((x % 128 : Nat) : Int) * 2 ^ (7 * k)) = ((x % 128 * 2 ^ (7 * k) : Nat) : Int) by rw [Int.natCast_mul, Int.natCast_pow]; rfl]
    show ((x % 128 * 2 ^ (7 * k) : Nat) : Int) % 18446744073709551616 = _; omega
  rw [e1, w1, w2, u64_or_nat _ _ (by omega) (by omega), or_sum (7 * k) _ m (by rw [hp7]; exact hm), hp7]
set_option maxHeartbeats 1000000 in
set_option maxRecDepth 20000 in
theorem rshort_any (b : Nat) (t : List UInt8) (w : World) (hr : Rd w b t) :
    Calls Try.prog 67 #[.pointer (some ⟨b, 0, none⟩)] w fun r w' => RdQ nv b w (Pr.shortR t) r w' := by
  go_enter Try.func67, Try.ntmps67
  have HC := hid (rtake_any b 2 t w hr)
  clear hr
  go_wp2_with fail
  refine HC.out.mono ?_
  rintro r w1 ⟨hb1, ⟨hn, rfl⟩ | ⟨x, u, hs, rfl, hr1⟩⟩
  · have HT : Hid (Pr.shortR t = none) := by show _ = _; unfold Pr.shortR; rw [hn]; rfl
    have HB := hid hb1
    clear hb1 hn
    unfold gaveUp
    go_wp2_with fail
    exact ⟨rfl, HB.out, .inl ⟨HT.out, rfl⟩⟩
  · obtain ⟨a, c, rfl, HT⟩ : ∃ a c, x = [a, c] ∧ Hid (Pr.shortR t = some (a.toNat + 256 * c.toNat, u)) := by
      obtain ⟨h1, h2⟩ := Pr.takeR_len hs
      match x, h1 with
      | [a, c], _ => exact ⟨a, c, rfl, show _ = _ by unfold Pr.shortR; rw [hs]; simp [Pg.high]⟩
    have HB := hid hb1
    have HR := hid hr1
    clear hb1 hr1 hs
    have ha : a.toNat < 256 := a.toNat_lt
    have hc : c.toNat < 256 := c.toNat_lt
    unfold sv
    go_wp2_with fail
    go_quiet (fail)
    have HOR := hid (short_or a.toNat c.toNat ha hc)
    go_wp2_with fail
    go_ret
    refine ⟨but_trans HB.out (but_drewN _ _ _), .inr ⟨_, _, HT.out, ?_, HR.out.drewN _⟩⟩
    unfold nv; rw [← HOR.out]; rfl

set_option maxHeartbeats 2000000 in
set_option maxRecDepth 20000 in
theorem rnumber_any (b : Nat) (t : List UInt8) (w : World) (hr : Rd w b t) :
    Calls Try.prog 82 #[.pointer (some ⟨b, 0, none⟩)] w fun r w' => RdQ nv b w (Pr.numberR t) r w' := by
  have HR0 := hid hr
  clear hr
  go_enter Try.func82, Try.ntmps82
  go_wp2_with fail
  go_loopw [3, 4] (fun n s wr => ∃ (k m : Nat) (u : List UInt8), k ≤ 4 ∧ m < 128 ^ k ∧ n = .int .u64 m ∧ s = .int .i64 (7 * k : Nat) ∧ Rd wr b u ∧ But b w wr ∧ Pr.numR (5 - k) (128 ^ k) m u = Pr.numberR t) (fun _ s _ => 28 - (intOf s).toNat)
  case atStart => exact ⟨0, 0, t, by omega, by decide, rfl, rfl, HR0.out, but_refl _ _, rfl⟩
  case round =>
    obtain ⟨k, m, u, hk, hm, rfl, rfl, hr, hb, heq⟩ := hrel
    have HEQ := hid heq
    have HB := hid hb
    have HC := hid (rbyte_any b u wr hr)
    have HM := hid hm
    clear hr hb heq HR0 hm
    go_wp2_with fail
    refine HC.out.mono ?_
    rintro r w1 ⟨hb1, ⟨hn, rfl⟩ | ⟨x, u2, hs, rfl, hr1⟩⟩
    · have HT : Hid (Pr.numberR t = none) := by
        show _ = _; rw [← HEQ.out]
        cases u with
        | nil => rw [show 5 - k = (4 - k) + 1 by omega]; rfl
        | cons a r => simp [Pr.byteR] at hn
      have HB1 := hid (but_trans HB.out hb1)
      clear hb1 hn
      unfold gaveUp
      go_wp2_with fail
      exact ⟨rfl, HB1.out, .inl ⟨HT.out, rfl⟩⟩
    · have hu := Pr.byteR_len hs
      have HU := hid hu
      have HB1 := hid (but_trans HB.out hb1)
      have HR1 := hid hr1
      have hxb : x.toNat < 256 := x.toNat_lt
      clear hb1 hr1 hs hu
      unfold bv
      have HX := hid (num_or m x.toNat k hxb hk HM.out)
      have HMK : Hid (128 ^ (k + 1) = 128 * 128 ^ k) := by show _ = _; rw [Nat.pow_succ, Nat.mul_comm]
      have hvb : m + x.toNat % 128 * 128 ^ k < 128 ^ (k + 1) := by
        have h1 := HM.out
        have h2 : x.toNat % 128 * 128 ^ k ≤ 127 * 128 ^ k := Nat.mul_le_mul_right _ (by omega)
        rw [HMK.out]; omega
      have HVB := hid hvb
      have HNX : Hid (Pr.numR (5 - k) (128 ^ k) m u = if 2147483647 < m + x.toNat % 128 * 128 ^ k then none else if x.toNat < 128 then (if x.toNat = 0 ∧ 128 ^ k ≠ 1 then none else some (m + x.toNat % 128 * 128 ^ k, u2)) else Pr.numR (4 - k) (128 * 128 ^ k) (m + x.toNat % 128 * 128 ^ k) u2) := by
        show _ = _; rw [HU.out, show 5 - k = (4 - k) + 1 by omega]; rfl
      clear hvb
      go_wp2_with fail
      rw [HX.out]
      have HP1 : Hid (k = 0 ↔ 128 ^ k = 1) := by
        constructor
        · rintro rfl; rfl
        · intro h
          by_cases h0 : k = 0
          · exact h0
          · have : 128 ^ 1 ≤ 128 ^ k := Nat.pow_le_pow_right (by decide) (by omega)
            omega
      generalize m + x.toNat % 128 * 128 ^ k = v at *
      generalize x.toNat = xn at *
      by_cases hv : v ≤ 2147483647
      · rw [show decide ((v : Int) ≤ 2147483647) = true by simp; omega]
        refine (unless_yes _).mono ?_
        rintro r w2 ⟨rfl, rfl⟩
        by_cases hx128 : xn < 128
        · by_cases hx0 : 0 < xn
          · have HT : Hid (Pr.numberR t = some (v, u2)) := by
              show _ = _; rw [← HEQ.out, HNX.out, if_neg (by omega), if_pos hx128, if_neg (by omega)]
            go_wp2_with fail
            refine (unless_yes _).mono ?_
            rintro r w3 ⟨rfl, rfl⟩
            go_wp2_with fail
            go_ret
            refine ⟨HB1.out, .inr ⟨_, _, HT.out, ?_, HR1.out⟩⟩
            rfl
          · by_cases hk0 : k = 0
            · have HT : Hid (Pr.numberR t = some (v, u2)) := by
                show _ = _; rw [← HEQ.out, HNX.out, if_neg (by omega), if_pos hx128, if_neg (by have := HP1.out; omega)]
              have hkb : ((7 * (k : Int)) == 0) = true := by simp; omega
              have hxz : decide ((0 : Int) < (xn : Int)) = false := by simp; omega
              clear hk0
              go_wp2_with fail
              refine (unless_yes _).mono ?_
              rintro r w3 ⟨rfl, rfl⟩
              go_wp2_with fail
              go_ret
              refine ⟨HB1.out, .inr ⟨_, _, HT.out, ?_, HR1.out⟩⟩
              rfl
            · have HT : Hid (Pr.numberR t = none) := by
                show _ = _; rw [← HEQ.out, HNX.out, if_neg (by omega), if_pos hx128, if_pos ⟨by omega, fun e => hk0 (HP1.out.2 e)⟩]
              have hkb : ((7 * (k : Int)) == 0) = false := by simp; omega
              have hxz : decide ((0 : Int) < (xn : Int)) = false := by simp; omega
              go_wp2_with fail
              refine (unless_no _).mono ?_
              rintro r w3 ⟨rfl, rfl⟩
              unfold gaveUp
              go_wp2_with fail
              exact ⟨rfl, HB1.out, .inl ⟨HT.out, rfl⟩⟩
        · by_cases hk4 : k < 4
          · have HT : Hid (Pr.numR (5 - (k + 1)) (128 ^ (k + 1)) v u2 = Pr.numberR t) := by
              show _ = _; rw [← HEQ.out, HNX.out, if_neg (by omega), if_neg hx128, HMK.out, show 5 - (k + 1) = 4 - k by omega]
            have hsh : decide (7 * (k : Int) < 28) = true := by simp; omega
            go_wp2_with fail
            refine (unless_yes _).mono ?_
            rintro r w3 ⟨rfl, rfl⟩
            go_wp2_with fail
            go_roundw
            case rel => exact ⟨k + 1, v, u2, by omega, HVB.out, rfl, int_eq (by omega), HR1.out, HB1.out, HT.out⟩
            case measure => simp [intOf]; omega
          · have HT : Hid (Pr.numberR t = none) := by
              show _ = _; rw [← HEQ.out, HNX.out, if_neg (by omega), if_neg hx128, show 4 - k = 0 by omega]; rfl
            have hsh : decide (7 * (k : Int) < 28) = false := by simp; omega
            go_wp2_with fail
            refine (unless_no _).mono ?_
            rintro r w3 ⟨rfl, rfl⟩
            unfold gaveUp
            go_wp2_with fail
            exact ⟨rfl, HB1.out, .inl ⟨HT.out, rfl⟩⟩
      · have HT : Hid (Pr.numberR t = none) := by
          show _ = _; rw [← HEQ.out, HNX.out, if_pos (by omega)]
        rw [show decide ((v : Int) ≤ 2147483647) = false by simp; omega]
        refine (unless_no _).mono ?_
        rintro r w2 ⟨rfl, rfl⟩
        unfold gaveUp
        go_wp2_with fail
        exact ⟨rfl, HB1.out, .inl ⟨HT.out, rfl⟩⟩

set_option maxHeartbeats 1000000 in
set_option maxRecDepth 20000 in
theorem rtext_any (b : Nat) (t : List UInt8) (w : World) (hr : Rd w b t) (ht : t.length ≤ 35184372088832) :
    Calls Try.prog 81 #[.pointer (some ⟨b, 0, none⟩)] w fun r w' => RdQ sv b w (Pr.textR t) r w' := by
  have HC := hid (rnumber_any b t w hr)
  clear hr
  go_enter Try.func81, Try.ntmps81
  go_wp2_with fail
  refine HC.out.mono ?_
  rintro r w1 ⟨hb1, ⟨hn, rfl⟩ | ⟨n, u, hs, rfl, hr1⟩⟩
  · have HT : Hid (Pr.textR t = none) := by show _ = _; unfold Pr.textR; rw [hn]
    have HB := hid hb1
    clear hb1 hn
    unfold gaveUp
    go_wp2_with fail
    exact ⟨rfl, HB.out, .inl ⟨HT.out, rfl⟩⟩
  · have HT : Hid (Pr.textR t = Pr.takeR n u) := by show _ = _; unfold Pr.textR; rw [hs]
    have hul := (Pr.numberR_le hs).2
    have HB := hid hb1
    have HC2 := hid (rtake_any b n u w1 hr1)
    clear hb1 hs hr1
    unfold nv
    go_wp2_with fail
    refine HC2.out.mono ?_
    rintro r w2 ⟨hb2, ⟨hn, rfl⟩ | ⟨x, u2, hs, rfl, hr2⟩⟩
    · have HT2 : Hid (Pr.textR t = none) := by show _ = _; rw [HT.out, hn]
      have HB2 := hid (but_trans HB.out hb2)
      clear hb2 hn
      unfold gaveUp
      go_wp2_with fail
      exact ⟨rfl, HB2.out, .inl ⟨HT2.out, rfl⟩⟩
    · have HT2 : Hid (Pr.textR t = some (x, u2)) := by show _ = _; rw [HT.out, hs]
      have hxl : x.length ≤ 35184372088832 := by
        have := (Pr.takeR_len hs).2
        have : u.length = x.length + u2.length := by rw [this, List.length_append]
        omega
      have HB2 := hid (but_trans HB.out hb2)
      have HR2 := hid hr2
      have hbl := hr2.lt
      clear hb2 hr2 hs
      unfold sv
      go_wp2_with fail
      refine (clone_any ⟨x.toArray⟩ _ (by rw [size_mk]; exact hxl)).mono ?_
      rintro r w3 ⟨rfl, hb3⟩
      have HB3 := hid (but_trans HB2.out (but_below hb3))
      have HR3 := hid (HR2.out.below hb3 hbl)
      clear hb3
      go_wp2_with fail
      go_ret
      exact ⟨HB3.out, .inr ⟨_, _, HT2.out, rfl, HR3.out⟩⟩
end Go.Proofs.Ytolgpnaoaodepaa
