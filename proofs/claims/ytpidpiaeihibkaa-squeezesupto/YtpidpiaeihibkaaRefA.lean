/- The walks of the reference's bytes: crc, low, noughts, Sealed, Number, Text, Section. -/
import Derived.Test.YtpidpiaeihibkaaLawA
import Derived.Test.YtpidpiaeihibkaaMathB
import Derived.Laws.BitsAllLaws
import Derived.Laws.Concat
namespace Go.Proofs.Ytpidpiaeihibkaa
open Go.RowKit

theorem i64_xor_nat (a b : Nat) (ha : a < 4294967296) (hb : b < 4294967296) : bits .xor .i64 (a : Int) (b : Int) = ((a ^^^ b : Nat) : Int) := by
  have hx : a ^^^ b < 2 ^ 32 := Nat.xor_lt_two_pow (by omega) (by omega)
  show IntKind.i64.wrap ((BitVec.ofInt 64 (a : Int) ^^^ BitVec.ofInt 64 (b : Int)).toNat : Int) = _
  rw [BitVec.toNat_xor, ofInt_u64 a (by omega), ofInt_u64 b (by omega), IntKind.wrap_i64]
  omega
theorem xor_poly (f : Nat) (h : f < 4294967296) : bits .xor .i64 ((f : Int) / 2) 2197175160 = ((f / 2 ^^^ 2197175160 : Nat) : Int) := by
  have := i64_xor_nat (f / 2) 2197175160 (by omega) (by omega)
  exact this
theorem xor_ones (f : Nat) (h : f < 4294967296) : bits .xor .i64 (f : Int) 4294967295 = ((f ^^^ 4294967295 : Nat) : Int) := by
  have := i64_xor_nat f 4294967295 h (by omega)
  exact this
theorem crcBit_one {c : Nat} (h : c % 2 = 1) : Pg.crcBit c = (c / 2) ^^^ 2197175160 := by unfold Pg.crcBit; rw [if_pos h]
theorem crcBit_zero {c : Nat} (h : ¬ c % 2 = 1) : Pg.crcBit c = c / 2 := by unfold Pg.crcBit; rw [if_neg h]
theorem crc_next (s : ByteArray) (k : Nat) (h : k < s.size) : Pg.crcAll (s.data.toList.take (k + 1)) = Pg.crcByte (Pg.crcAll (s.data.toList.take k)) (s[k]'h) := by
  have h' : k < s.data.toList.length := by rw [len_size]; exact h
  rw [List.take_succ_eq_append_getElem h', Pg.crcAll_snoc]; rfl

set_option maxHeartbeats 1000000 in
theorem crc_any (s : ByteArray) (w : World) (hs : s.size ≤ 35184372088832) :
    Calls Try.prog 58 #[.string s] w fun r w' => r = .returned (.int .i64 (Pg.crc s.data.toList)) ∧ w' = w := by
  go_enter Try.func58, Try.ntmps58
  go_wp2_with fail
  go_loop [3, 4] (fun c i => ∃ k : Nat, k ≤ s.size ∧ i = .int .i64 k ∧ c = .int .i64 (Pg.crcAll (s.data.toList.take k))) (fun _ i => s.size - (intOf i).toNat)
  case atStart => exact ⟨0, Nat.zero_le _, rfl, rfl⟩
  case round =>
    obtain ⟨k, hk, rfl, rfl⟩ := hrel
    have hlt := Pg.crcAll_lt (s.data.toList.take k)
    by_cases hks : k < s.size
    · have HN := hid (crc_next s k hks)
      generalize hc : Pg.crcAll (s.data.toList.take k) = c at *
      have hb : (s[k]'hks).toNat < 256 := (s[k]'hks).toNat_lt
      have hx := i64_xor_nat c (s[k]'hks).toNat hlt (by omega)
      have hx2 := Pg.xor_lt (a := c) (b := (s[k]'hks).toNat) hlt (by omega)
      have HX : Hid (Pg.crcByte c (s[k]'hks) = Pg.crcBits 8 (c ^^^ (s[k]'hks).toNat)) := rfl
      clear hc
      generalize hd : c ^^^ (s[k]'hks).toNat = d at *
      clear hd
      go_wp2_with fail
      clear hx
      go_loop [3, 5] (fun e j => ∃ m : Nat, m ≤ 8 ∧ j = .int .i64 m ∧ e = .int .i64 (Pg.crcBits m d)) (fun _ j => 8 - (intOf j).toNat)
      case atStart => exact ⟨0, Nat.zero_le _, rfl, rfl⟩
      case round =>
        obtain ⟨m, hm, rfl, rfl⟩ := hrel
        have hlt2 := Pg.crcBits_lt hx2 m
        have HS : Hid (Pg.crcBits (m + 1) d = Pg.crcBit (Pg.crcBits m d)) := rfl
        generalize hf : Pg.crcBits m d = f at *
        by_cases hm8 : m < 8
        · clear hf
          by_cases h1 : f % 2 = 1
          · have HC := hid (crcBit_one h1)
            have HXP := hid (xor_poly f hlt2)
            have h1' : ((f : Int) % 2 == 1) = true := by simp; omega
            go_wp2_with fail
            go_round
            case rel => exact ⟨m + 1, by omega, by go_num, by rw [HS.out, HC.out, HXP.out]⟩
            case measure => simp [intOf]; omega
          · have HC := hid (crcBit_zero h1)
            have h1' : ((f : Int) % 2 == 1) = false := by simp; omega
            go_wp2_with fail
            go_round
            case rel => exact ⟨m + 1, by omega, by go_num, by rw [HS.out, HC.out]; exact int_eq (by omega)⟩
            case measure => simp [intOf]; omega
        · have hm' : m = 8 := by omega
          subst hm'
          go_wp2_with fail
          go_round
          case rel => exact ⟨k + 1, by omega, by go_num, by rw [HN.out, HX.out, hf]⟩
          case measure => simp [intOf]; omega
    · have HF : Hid (bits .xor .i64 (Pg.crcAll (s.data.toList.take k) : Int) 4294967295 = (Pg.crc s.data.toList : Int)) := by
        show _ = _
        rw [xor_ones _ hlt, List.take_of_length_le (by rw [len_size]; omega)]; rfl
      go_wp2_with fail
      go_ret
      exact ⟨ret_int HF.out, rfl⟩

theorem make_zero (n : Nat) : (madeCells (Value.int .u8 0).cells (n * 1)).toList = Lib.byteCells (List.replicate n 0) := by
  rw [Nat.mul_one]
  show (madeCells #[Value.int .u8 0] n).toList = _
  rw [toList_madeCells_one]; simp [Lib.byteCells]
/-- make([]byte, n). -/
theorem wpMk (w : World) {ops : Array Oper} {rest : List Oper} {o : Oper} {a : Act} {Q : Exit → Act → World → Prop} (hgd : o.guard = none) (l c : Operand) (hop : o.op = Op.makeSlice 98 l c) (n : Nat) (hl : a.eval l = .int .i64 (n : Int)) (hc : a.eval c = .int .i64 (n : Int)) (hb : n ≤ 140737488355328)
    (h : ∀ w', Owns w.heap.size w' (.slice (some ⟨w.heap.size, 0, none⟩) n n) (List.replicate n 0) → Below w.heap.size w w' → w.heap.size < w'.heap.size → wpList Try.prog ops Q rest (a.put o.dst (.slice (some ⟨w.heap.size, 0, none⟩) n n)) w') : wpList Try.prog ops Q (o :: rest) a w := by
  obtain ⟨i, hi, hz0, hz1, hz2⟩ := info_parts info_u8
  refine wpList_make_full w hgd l c 98 hop w.heap.size 5 i (.int .u8 0) 1 Try.underlying98 hi hz0 hz1 .i64 .i64 (n : Int) (n : Int) n hl hc rfl rfl (by rw [hz2]; omega) (by unfold maxLen; omega) (Nat.le_refl _) ?_
  intro w' ho hg
  rw [make_zero] at ho
  refine h w' ?_ ((Below.refl _ w).grown hg (Nat.le_refl _) (fun k hk => by cases hk)) ?_
  · unfold Owns; rw [List.length_replicate]; exact ho
  · exact (World.ownsRow.lt ho w.heap.size rfl).2

set_option maxHeartbeats 1000000 in
theorem noughts_any (n : Nat) (w : World) (hn : n ≤ 140737488355328) :
    Calls Try.prog 27 #[.int .i64 n] w fun r w' => r = .returned (.string ⟨(List.replicate n 0).toArray⟩) ∧ Below w.heap.size w w' := by
  go_enter Try.func27, Try.ntmps27
  go_wp2_with (first
    | (at_make; refine wpMk w rfl (.tmp 3) (.tmp 3) rfl n rfl rfl hn ?_))
  intro w1 ho hb _
  have hcv := ho.str
  have HB := hid hb
  clear ho hb
  generalize hl : List.replicate n (0 : UInt8) = l at *
  have HL := hid hl
  clear hl
  go_wp2_with fail
  go_ret
  exact ⟨by rw [HL.out]; rfl, HB.out⟩

theorem low_set (n : Nat) : ∀ (k m : Nat), k < m → (Pg.low n k ++ List.replicate (m - k) 0).set k (UInt8.ofNat (n / 256 ^ k % 256)) = Pg.low n (k + 1) ++ List.replicate (m - (k + 1)) 0 := by
  intro k
  induction k generalizing n with
  | zero => intro m hm; obtain ⟨j, rfl⟩ : ∃ j, m = j + 1 := ⟨m - 1, by omega⟩; simp [Pg.low, List.replicate_succ]
  | succ k ih =>
    intro m hm
    have := ih (n / 256) (m - 1) (by omega)
    rw [Nat.div_div_eq_div_mul, Nat.mul_comm 256, ← Nat.pow_succ] at this
    rw [Pg.low, Pg.low, List.cons_append, List.set_cons_succ, show m - (k + 1) = m - 1 - k by omega, this, List.cons_append]
    rw [show m - (k + 1 + 1) = m - 1 - (k + 1) by omega]
theorem byteCells_set (l : List UInt8) (k : Nat) (b : UInt8) : (Lib.byteCells l).set k (.int .u8 (b.toNat : Int)) = Lib.byteCells (l.set k b) := by
  simp [Lib.byteCells, List.map_set]
theorem Owns.stored {B : Nat} {w : World} {g c : Nat} {l : List UInt8} (h : Owns B w (.slice (some ⟨g, 0, none⟩) l.length c) l) (k : Nat) (b : UInt8) : Owns B (w.setCell ⟨g, k, none⟩ (.int .u8 (b.toNat : Int))) (.slice (some ⟨g, 0, none⟩) l.length c) (l.set k b) := by
  have := World.ownsRow.stored h k (.int .u8 (b.toNat : Int))
  unfold Owns
  rw [← byteCells_set, List.length_set]
  exact this.1

set_option maxHeartbeats 1000000 in
theorem low_any (n m : Nat) (w : World) (hn : n ≤ 9223372036854775807) (hm : m ≤ 140737488355328) :
    Calls Try.prog 26 #[.int .i64 n, .int .i64 m] w fun r w' => r = .returned (.string ⟨(Pg.low n m).toArray⟩) ∧ Below w.heap.size w w' := by
  go_enter Try.func26, Try.ntmps26
  go_wp2_with (first
    | (at_make; refine wpMk w rfl (.tmp 7) (.tmp 7) rfl m rfl rfl hm ?_))
  intro w1 ho hb _
  have HO := hid ho
  have HB := hid hb
  clear ho hb
  go_wp2_with fail
  go_loopw [0, 6] (fun x i wr => ∃ k : Nat, k ≤ m ∧ i = .int .i64 k ∧ x = .int .i64 (n / 256 ^ k : Nat) ∧ Owns w.heap.size wr (.slice (some ⟨w.heap.size, 0, none⟩) m m) (Pg.low n k ++ List.replicate (m - k) 0) ∧ Below w.heap.size w wr) (fun _ i _ => m - (intOf i).toNat)
  case atStart => exact ⟨0, Nat.zero_le _, rfl, int_eq (by simp), by simpa [Pg.low] using HO.out, HB.out⟩
  case round =>
    obtain ⟨k, hk, rfl, rfl, hok, hbk⟩ := hrel
    have hlen : (Pg.low n k ++ List.replicate (m - k) 0).length = m := by simp [Pg.low_len]; omega
    by_cases hkm : k < m
    · have hnk : n / 256 ^ k ≤ n := Nat.div_le_self _ _
      have HNX : Hid (n / 256 ^ (k + 1) = n / 256 ^ k / 256) := by show _ = _; rw [Nat.div_div_eq_div_mul, Nat.pow_succ]
      have hst := Owns.stored (by rw [hlen]; exact hok) k (UInt8.ofNat (n / 256 ^ k % 256)) (c := m)
      rw [low_set n k m hkm, hlen] at hst
      have hce : (wr.cell? ⟨w.heap.size, k, none⟩).isSome = true := by
        rw [hok.cellAt k _ (List.getElem?_eq_getElem (by omega))]; rfl
      have hfz : wr.frozen? ⟨w.heap.size, k, none⟩ = false := World.ownsRow.frozenAt (by have := hok; unfold Owns at this; rw [hlen] at this; exact this) k
      have hbs := hbk.setCell (p := ⟨w.heap.size, k, none⟩) (Nat.le_refl _) (.int .u8 ((UInt8.ofNat (n / 256 ^ k % 256)).toNat : Int))
      have hu : ((UInt8.ofNat (n / 256 ^ k % 256)).toNat : Int) = ((n / 256 ^ k : Nat) : Int) % 256 := by simp
      rw [hu] at hst hbs
      have HST := hid hst
      have HBS := hid hbs
      obtain ⟨vc, hcv⟩ := Option.isSome_iff_exists.1 hce
      clear hok hbk hst hbs hu hce hlen
      generalize n / 256 ^ k = x at *
      go_wp2_with fail
      go_roundw
      case rel => exact ⟨k + 1, by omega, by go_num, by rw [HNX.out]; exact int_eq (by omega), HST.out, HBS.out⟩
      case measure => simp [intOf]; omega
    · have hcv : (convert 98 9 (.slice (some ⟨w.heap.size, 0, none⟩) m m)).run Try.prog wr = .ok (.string ⟨(Pg.low n m).toArray⟩) wr := by
        have hkm' : k = m := by omega
        subst hkm'
        have := hok.str
        simpa using this
      clear hok hlen
      go_wp2_with fail
      go_ret
      exact ⟨rfl, hbk⟩
end Go.Proofs.Ytpidpiaeihibkaa
