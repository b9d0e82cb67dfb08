/- The walks of strings.Clone and of package wire's Reader. -/
import Derived.Test.YtolgpnaoaodepaaGreatWalkSm
import Derived.Lib.BufferWrite
import Derived.Lib.UnsafeStr
import Derived.Test.YtolgpnaoaodepaaGreatWalkLm
namespace Go.Proofs.YtolgpnaoaodepaaGreat
open Go.RowKit

theorem cells_u8 : Tryz.prog.cellsOf 5 = 1 := by kernel_rfl
set_option maxHeartbeats 1000000 in
set_option maxRecDepth 20000 in
theorem sliteClone_any (s : ByteArray) (w : World) (hs : s.size ≤ 35184372088832) :
    Calls Tryz.prog 124 #[.string s] w fun r w' => r = .returned (.string s) ∧ Below w.heap.size w w' := by
  by_cases h0 : s.size = 0
  · have he : s = ⟨#[]⟩ := ByteArray.ext (Array.eq_empty_of_size_eq_zero h0)
    subst he
    go_enter Tryz.func124, Tryz.ntmps124
    go_wp2_with fail
    go_ret
    exact ⟨rfl, Below.refl _ _⟩
  · obtain ⟨i, hi, hz0, hz1, hz2⟩ := info_parts info_u8
    obtain ⟨Z, hZ⟩ : ∃ Z, Z = madeCells (Value.int .u8 0).cells (((s.size : Nat) : Int).toNat * i.size) := ⟨_, rfl⟩
    have hZs : Z.size = s.size := by rw [hZ, size_madeCells, hz1]; simp
    have mk : ∀ W : World, (Instr.makeSlice 108 (.int .i64 (s.size : Int)) (.int .i64 (s.size : Int))).run Tryz.prog W = .ok (.slice (some ⟨W.heap.size, 0, none⟩) s.size s.size) (W.alloc (.cells Z 5)) := fun W => by
      have h := run_make (P := Tryz.prog) W 108 5 i (.int .u8 0) Tryz.underlying108 hi hz0 .i64 .i64 (s.size : Int) (s.size : Int) (by omega) (by omega) (by rw [hz2]; omega) (by omega)
      rw [← hZ] at h
      simpa using h
    clear hZ
    have cp := Lib.run_copy_row_string (P := Tryz.prog) (w.alloc (.cells Z 5)) 108 9 3 5 w.heap.size 0 s.size s.size s Z 5 Tryz.underlying108 (by rw [hi]; simp [hz1]) (heap_alloc_new w _) (Nat.le_refl _) (by omega)
    obtain ⟨Y, hY⟩ : ∃ Y, Y = (Z.toList.take 0 ++ Lib.byteCells s.data.toList ++ Z.toList.drop (0 + s.size)).toArray := ⟨_, rfl⟩
    have hYl : Y.toList = Lib.byteCells s.data.toList := by
      rw [hY, List.toList_toArray, List.take_zero, List.nil_append, List.drop_of_length_le (by rw [Array.length_toList]; omega), List.append_nil]
    have hYs : Y.size = s.size := by rw [← Array.length_toList, hYl, Lib.byteCells_length, len_size]
    rw [← hY] at cp
    have hg : ((w.alloc (.cells Z 5)).setRow w.heap.size Y).heap[w.heap.size]? = some (.cells Y 5 (0, 0)) := setRow_heap _ _ Z _ 5 (0, 0) (heap_alloc_new w _)
    have us := Lib.run_unsafeString_row (P := Tryz.prog) ((w.alloc (.cells Z 5)).setRow w.heap.size Y) 223 3 9 5 Tryz.underlying223 cells_u8 w.heap.size Y.size (by unfold World.shape?; rw [hg]) s.data.toList (fun e => h0 (by rw [← len_size, e]; rfl)) (by rw [len_size]; omega) (by rw [len_size]; omega)
      (fun j x hx => Lib.cells_of_row hg Y.size j _ (by rw [List.take_of_length_le (by rw [Array.length_toList]; exact Nat.le_refl _), hYl]; simp [Lib.byteCells, hx]))
    rw [len_size] at us
    have HB := hid (Lib.below_freeze (((Below.refl w.heap.size w).alloc (Nat.le_refl _) (.cells Z 5)).trans (⟨rfl, rfl, rfl, by simp, fun k hk => setRow_other _ _ _ _ (by omega)⟩ : Below w.heap.size (w.alloc (.cells Z 5)) ((w.alloc (.cells Z 5)).setRow w.heap.size Y))) (p := ⟨w.heap.size, 0, none⟩) (Nat.le_refl _) s.size)
    clear hY
    go_enter Tryz.func124, Tryz.ntmps124
    go_wp2_with fail
    go_ret
    exact ⟨rfl, HB.out⟩
set_option maxHeartbeats 1000000 in
theorem clone_any (s : ByteArray) (w : World) (hs : s.size ≤ 35184372088832) :
    Calls Tryz.prog 62 #[.string s] w fun r w' => r = .returned (.string s) ∧ Below w.heap.size w w' := by
  go_enter Tryz.func62, Tryz.ntmps62
  go_wp2_with fail
  refine (sliteClone_any s _ hs).mono ?_
  rintro r w1 ⟨rfl, hb1⟩
  go_wp2_with fail
  go_ret
  exact ⟨rfl, hb1⟩
end Go.Proofs.YtolgpnaoaodepaaGreat
/- The walks of package wire's Reader. -/
namespace Go.Proofs.YtolgpnaoaodepaaGreat
open Go.RowKit

/-- Block b holds a reader with these bytes left. -/
def Rd (w : World) (b : Nat) (t : List UInt8) : Prop := w.heap[b]? = some (.cells #[.string ⟨t.toArray⟩] 298 (0, 0))
theorem Rd.cells {w : World} {b : Nat} {t : List UInt8} (h : Rd w b t) : w.cell? ⟨b, 0, none⟩ = some (.string ⟨t.toArray⟩) ∧ w.frozen? ⟨b, 0, none⟩ = false := by
  unfold Rd at h; constructor <;> simp [World.cell?, World.frozen?, h]
theorem Rd.lt {w : World} {b : Nat} {t : List UInt8} (h : Rd w b t) : b < w.heap.size := (Array.getElem?_eq_some_iff.1 h).1
theorem Rd.below {w w' : World} {b B : Nat} {t : List UInt8} (h : Rd w b t) (hb : Below B w w') (hlt : b < B) : Rd w' b t := (hb.block b hlt).trans h
theorem Rd.set {w : World} {b : Nat} {t : List UInt8} (h : Rd w b t) (u : List UInt8) : Rd (w.setCell ⟨b, 0, none⟩ (.string ⟨u.toArray⟩)) b u := by
  unfold Rd at *; rw [heap_setCell_at (i := 0) h]; rfl
theorem Rd.drewN {w : World} {b : Nat} {t : List UInt8} (h : Rd w b t) (q : Nat) : Rd (w.drewN q) b t := h
theorem rd_new (w : World) (t : List UInt8) : Rd (w.alloc (.cells #[.string ⟨t.toArray⟩] 298)) w.heap.size t := heap_alloc_new _ _
/-- How a reader ends: it gave up, or tells something, and this is left. -/
def RdQ {α : Type} (f : α → Value) (b : Nat) (w : World) (o : Option (α × List UInt8)) (r : Ending) (w' : World) : Prop := But b w w' ∧ ((o = none ∧ r = gaveUp) ∨ ∃ x u, o = some (x, u) ∧ r = .returned (f x) ∧ Rd w' b u)
def sv (x : List UInt8) : Value := .string ⟨x.toArray⟩
def nv (n : Nat) : Value := .int .i64 (n : Int)
def bv (b : UInt8) : Value := .int .u8 (b.toNat : Int)
theorem ext_take (t : List UInt8) (n : Nat) : (⟨t.toArray⟩ : ByteArray).extract 0 n = ⟨(t.take n).toArray⟩ := bytes_ext (by rw [Lib.extract_data]; simp)
theorem ext_drop (t : List UInt8) (n m : Nat) (h : m = t.length) : (⟨t.toArray⟩ : ByteArray).extract n m = ⟨(t.drop n).toArray⟩ := by
  have := drop_data ⟨t.toArray⟩ n
  rw [size_mk] at this
  subst h
  exact bytes_ext (by rw [this])

set_option maxHeartbeats 1000000 in
theorem newReader_any (t : List UInt8) (w : World) :
    Calls Tryz.prog 244 #[.string ⟨t.toArray⟩] w fun r w' => r = .returned (.pointer (some ⟨w.heap.size, 0, none⟩)) ∧ w' = w.alloc (.cells #[.string ⟨t.toArray⟩] 298) := by
  go_enter Tryz.func244, Tryz.ntmps244
  go_wp2_with fail
  go_ret
  exact ⟨rfl, rfl⟩

set_option maxHeartbeats 1000000 in
set_option maxRecDepth 20000 in
theorem rtake_any (b n : Nat) (t : List UInt8) (w : World) (hr : Rd w b t) :
    Calls Tryz.prog 245 #[.pointer (some ⟨b, 0, none⟩), .int .i64 n] w fun r w' => RdQ sv b w (Pr.takeR n t) r w' := by
  obtain ⟨c0, z0⟩ := hr.cells
  have HR := hid hr
  clear hr
  have hzz := size_mk t
  go_enter Tryz.func245, Tryz.ntmps245
  by_cases hn : n ≤ t.length
  · have HT := hid (Pr.takeR_yes hn)
    have HE1 := hid (ext_take t n)
    have HE2 := hid (ext_drop t n t.length rfl)
    go_wp2_with fail
    refine (unless_yes _).mono ?_
    rintro r w1 ⟨rfl, rfl⟩
    have hi1 : (0 : Int) ≤ (n : Int) := by omega
    have hi2 : (n : Int) ≤ (t.length : Int) := by omega
    go_wp2_with fail
    go_ret
    refine ⟨but_set _ _ _ _, .inr ⟨_, _, HT.out, ?_, ?_⟩⟩
    · unfold sv; rw [← HE1.out]; rfl
    · rw [HE2.out]; exact HR.out.set _
  · have HT := hid (Pr.takeR_no hn)
    go_wp2_with fail
    refine (unless_no _).mono ?_
    rintro r w1 ⟨rfl, rfl⟩
    unfold gaveUp
    go_wp2_with fail
    exact ⟨rfl, but_refl _ _, .inl ⟨HT.out, rfl⟩⟩

set_option maxHeartbeats 1000000 in
set_option maxRecDepth 20000 in
theorem rbyte_any (b : Nat) (t : List UInt8) (w : World) (hr : Rd w b t) :
    Calls Tryz.prog 246 #[.pointer (some ⟨b, 0, none⟩)] w fun r w' => RdQ bv b w (Pr.byteR t) r w' := by
  go_enter Tryz.func246, Tryz.ntmps246
  have HC := hid (rtake_any b 1 t w hr)
  clear hr
  go_wp2_with fail
  refine HC.out.mono ?_
  rintro r w1 ⟨hb1, ⟨hn, rfl⟩ | ⟨x, u, hs, rfl, hr1⟩⟩
  · have HT : Hid (Pr.byteR t = none) := by
      show _ = _
      cases t with
      | nil => rfl
      | cons a r => simp [Pr.takeR] at hn
    have HB := hid hb1
    clear hb1 hn
    unfold gaveUp
    go_wp2_with fail
    exact ⟨rfl, HB.out, .inl ⟨HT.out, rfl⟩⟩
  · obtain ⟨a, rfl, HT⟩ : ∃ a, x = [a] ∧ Hid (Pr.byteR t = some (a, u)) := by
      obtain ⟨h1, h2⟩ := Pr.takeR_len hs
      match x, h1 with
      | [a], _ => exact ⟨a, rfl, by rw [h2]; exact rfl⟩
    have HB := hid hb1
    have HR := hid hr1
    clear hb1 hr1 hs
    unfold sv
    go_wp2_with fail
    go_ret
    exact ⟨HB.out, .inr ⟨_, _, HT.out, rfl, HR.out⟩⟩
set_option maxHeartbeats 1000000 in
theorem rend_any (b : Nat) (t : List UInt8) (w : World) (hr : Rd w b t) :
    Calls Tryz.prog 251 #[.pointer (some ⟨b, 0, none⟩)] w fun r w' => r = (if t = [] then .returned (.tuple #[]) else gaveUp) ∧ w' = w := by
  obtain ⟨c0, z0⟩ := hr.cells
  clear hr
  go_enter Tryz.func251, Tryz.ntmps251
  generalize hE : (if t = [] then Ending.returned (.tuple #[]) else gaveUp) = E
  have HE := hid hE
  clear hE
  cases t with
  | nil =>
    go_wp2_with fail
    refine (unless_yes _).mono ?_
    rintro r w1 ⟨rfl, rfl⟩
    go_wp2_with fail
    go_end0
    exact ⟨HE.out, rfl⟩
  | cons a r =>
    go_wp2_with fail
    refine (unless_no _).mono ?_
    rintro r w1 ⟨rfl, rfl⟩
    unfold gaveUp
    go_wp2_with fail
    exact ⟨rfl, HE.out, rfl⟩
end Go.Proofs.YtolgpnaoaodepaaGreat
/- The walks of Reader's Short, Number, Text. -/
namespace Go.Proofs.YtolgpnaoaodepaaGreat
open Go.RowKit

theorem i64_or_nat (a b : Nat) (ha : a < 4294967296) (hb : b < 4294967296) : bits .or .i64 (a : Int) (b : Int) = ((a ||| b : Nat) : Int) := by
  have hx : a ||| b < 2 ^ 32 := Nat.or_lt_two_pow (by omega) (by omega)
  show IntKind.i64.wrap ((BitVec.ofInt 64 (a : Int) ||| BitVec.ofInt 64 (b : Int)).toNat : Int) = _
  rw [BitVec.toNat_or, ofInt_u64 a (by omega), ofInt_u64 b (by omega), IntKind.wrap_i64]
  omega
theorem or_sum (i a b : Nat) (h : b < 2 ^ i) : b ||| a * 2 ^ i = b + a * 2 ^ i := by
  rw [Nat.or_comm, Nat.mul_comm, ← Nat.two_pow_add_eq_or_of_lt h, Nat.add_comm]
theorem short_or (a c : Nat) (ha : a < 256) (hc : c < 256) : bits .or .i64 (wrap64 (a : Int)) (wrap64 (wrap64 (c : Int) * 256)) = ((a + 256 * c : Nat) : Int) := by
  have e1 : wrap64 (a : Int) = ((a : Nat) : Int) := by unfold wrap64; omega
  have e2 : wrap64 (c : Int) = ((c : Nat) : Int) := by unfold wrap64; omega
  have e3 : wrap64 (((c : Nat) : Int) * 256) = ((c * 2 ^ 8 : Nat) : Int) := by
    have : wrap64 (((c : Nat) : Int) * 256) = ((c : Nat) : Int) * 256 := by unfold wrap64; omega
    rw [this]; omega
  rw [e1, e2, e3, i64_or_nat _ _ (by omega) (by omega), or_sum 8 c a ha]
  omega
theorem num_or (m x k : Nat) (hx : x < 256) (hk : k ≤ 4) (hm : m < 128 ^ k) : bits .or .u64 (m : Int) (IntKind.u64.wrap (IntKind.u64.wrap (bits .andNot .u8 (x : Int) 128) * 2 ^ (7 * k))) = ((m + x % 128 * 128 ^ k : Nat) : Int) := by
  have e1 : bits .andNot .u8 (x : Int) 128 = ((x % 128 : Nat) : Int) := by
    have h := u8_andNot_nat x 128 hx (by omega)
    rw [show (255 - 128 : Nat) = 2 ^ 7 - 1 from rfl, Nat.and_two_pow_sub_one_eq_mod] at h
    exact h
  have hp : 128 ^ k ≤ 128 ^ 4 := Nat.pow_le_pow_right (by decide) hk
  have hp7 : 2 ^ (7 * k) = 128 ^ k := by rw [Nat.pow_mul]
  have hb : x % 128 * 2 ^ (7 * k) < 34359738368 := by
    rw [hp7]
    calc x % 128 * 128 ^ k ≤ x % 128 * 128 ^ 4 := Nat.mul_le_mul_left _ hp
      _ < 34359738368 := by omega
  have w1 : IntKind.u64.wrap ((x % 128 : Nat) : Int) = ((x % 128 : Nat) : Int) := by
    show ((x % 128 : Nat) : Int) % 18446744073709551616 = _; omega
  have w2 : IntKind.u64.wrap (((x % 128 : Nat) : Int) * 2 ^ (7 * k)) = ((x % 128 * 2 ^ (7 * k) : Nat) : Int) := by
    rw [show (((x % 128 : Nat) : Int) * 2 ^ (7 * k)) = ((x % 128 * 2 ^ (7 * k) : Nat) : Int) by rw [Int.natCast_mul, Int.natCast_pow]; rfl]
    show ((x % 128 * 2 ^ (7 * k) : Nat) : Int) % 18446744073709551616 = _; omega
  rw [e1, w1, w2, u64_or_nat _ _ (by omega) (by omega), or_sum (7 * k) _ m (by rw [hp7]; exact hm), hp7]
set_option maxHeartbeats 1000000 in
set_option maxRecDepth 20000 in
theorem rshort_any (b : Nat) (t : List UInt8) (w : World) (hr : Rd w b t) :
    Calls Tryz.prog 247 #[.pointer (some ⟨b, 0, none⟩)] w fun r w' => RdQ nv b w (Pr.shortR t) r w' := by
  go_enter Tryz.func247, Tryz.ntmps247
  have HC := hid (rtake_any b 2 t w hr)
  clear hr
  go_wp2_with fail
  refine HC.out.mono ?_
  rintro r w1 ⟨hb1, ⟨hn, rfl⟩ | ⟨x, u, hs, rfl, hr1⟩⟩
  · have HT : Hid (Pr.shortR t = none) := by show _ = _; unfold Pr.shortR; rw [hn]; rfl
    have HB := hid hb1
    clear hb1 hn
    unfold gaveUp
    go_wp2_with fail
    exact ⟨rfl, HB.out, .inl ⟨HT.out, rfl⟩⟩
  · obtain ⟨a, c, rfl, HT⟩ : ∃ a c, x = [a, c] ∧ Hid (Pr.shortR t = some (a.toNat + 256 * c.toNat, u)) := by
      obtain ⟨h1, h2⟩ := Pr.takeR_len hs
      match x, h1 with
      | [a, c], _ => exact ⟨a, c, rfl, show _ = _ by unfold Pr.shortR; rw [hs]; simp [Pg.high]⟩
    have HB := hid hb1
    have HR := hid hr1
    clear hb1 hr1 hs
    have ha : a.toNat < 256 := a.toNat_lt
    have hc : c.toNat < 256 := c.toNat_lt
    unfold sv
    go_wp2_with fail
    go_quiet (fail)
    have HOR := hid (short_or a.toNat c.toNat ha hc)
    go_wp2_with fail
    go_ret
    refine ⟨but_trans HB.out (but_drewN _ _ _), .inr ⟨_, _, HT.out, ?_, HR.out.drewN _⟩⟩
    unfold nv; rw [← HOR.out]; rfl

set_option maxHeartbeats 2000000 in
set_option maxRecDepth 20000 in
theorem rnumber_any (b : Nat) (t : List UInt8) (w : World) (hr : Rd w b t) :
    Calls Tryz.prog 266 #[.pointer (some ⟨b, 0, none⟩)] w fun r w' => RdQ nv b w (Pr.numberR t) r w' := by
  have HR0 := hid hr
  clear hr
  go_enter Tryz.func266, Tryz.ntmps266
  go_wp2_with fail
  go_loopw [3, 4] (fun n s wr => ∃ (k m : Nat) (u : List UInt8), k ≤ 4 ∧ m < 128 ^ k ∧ n = .int .u64 m ∧ s = .int .i64 (7 * k : Nat) ∧ Rd wr b u ∧ But b w wr ∧ Pr.numR (5 - k) (128 ^ k) m u = Pr.numberR t) (fun _ s _ => 28 - (intOf s).toNat)
  case atStart => exact ⟨0, 0, t, by omega, by decide, rfl, rfl, HR0.out, but_refl _ _, rfl⟩
  case round =>
    obtain ⟨k, m, u, hk, hm, rfl, rfl, hr, hb, heq⟩ := hrel
    have HEQ := hid heq
    have HB := hid hb
    have HC := hid (rbyte_any b u wr hr)
    have HM := hid hm
    clear hr hb heq HR0 hm
    go_wp2_with fail
    refine HC.out.mono ?_
    rintro r w1 ⟨hb1, ⟨hn, rfl⟩ | ⟨x, u2, hs, rfl, hr1⟩⟩
    · have HT : Hid (Pr.numberR t = none) := by
        show _ = _; rw [← HEQ.out]
        cases u with
        | nil => rw [show 5 - k = (4 - k) + 1 by omega]; rfl
        | cons a r => simp [Pr.byteR] at hn
      have HB1 := hid (but_trans HB.out hb1)
      clear hb1 hn
      unfold gaveUp
      go_wp2_with fail
      exact ⟨rfl, HB1.out, .inl ⟨HT.out, rfl⟩⟩
    · have hu := Pr.byteR_len hs
      have HU := hid hu
      have HB1 := hid (but_trans HB.out hb1)
      have HR1 := hid hr1
      have hxb : x.toNat < 256 := x.toNat_lt
      clear hb1 hr1 hs hu
      unfold bv
      have HX := hid (num_or m x.toNat k hxb hk HM.out)
      have HMK : Hid (128 ^ (k + 1) = 128 * 128 ^ k) := by show _ = _; rw [Nat.pow_succ, Nat.mul_comm]
      have hvb : m + x.toNat % 128 * 128 ^ k < 128 ^ (k + 1) := by
        have h1 := HM.out
        have h2 : x.toNat % 128 * 128 ^ k ≤ 127 * 128 ^ k := Nat.mul_le_mul_right _ (by omega)
        rw [HMK.out]; omega
      have HVB := hid hvb
      have HNX : Hid (Pr.numR (5 - k) (128 ^ k) m u = if 2147483647 < m + x.toNat % 128 * 128 ^ k then none else if x.toNat < 128 then (if x.toNat = 0 ∧ 128 ^ k ≠ 1 then none else some (m + x.toNat % 128 * 128 ^ k, u2)) else Pr.numR (4 - k) (128 * 128 ^ k) (m + x.toNat % 128 * 128 ^ k) u2) := by
        show _ = _; rw [HU.out, show 5 - k = (4 - k) + 1 by omega]; rfl
      clear hvb
      go_wp2_with fail
      rw [HX.out]
      have HP1 : Hid (k = 0 ↔ 128 ^ k = 1) := by
        constructor
        · rintro rfl; rfl
        · intro h
          by_cases h0 : k = 0
          · exact h0
          · have : 128 ^ 1 ≤ 128 ^ k := Nat.pow_le_pow_right (by decide) (by omega)
            omega
      generalize m + x.toNat % 128 * 128 ^ k = v at *
      generalize x.toNat = xn at *
      by_cases hv : v ≤ 2147483647
      · rw [show decide ((v : Int) ≤ 2147483647) = true by simp; omega]
        refine (unless_yes _).mono ?_
        rintro r w2 ⟨rfl, rfl⟩
        by_cases hx128 : xn < 128
        · by_cases hx0 : 0 < xn
          · have HT : Hid (Pr.numberR t = some (v, u2)) := by
              show _ = _; rw [← HEQ.out, HNX.out, if_neg (by omega), if_pos hx128, if_neg (by omega)]
            go_wp2_with fail
            refine (unless_yes _).mono ?_
            rintro r w3 ⟨rfl, rfl⟩
            go_wp2_with fail
            go_ret
            refine ⟨HB1.out, .inr ⟨_, _, HT.out, ?_, HR1.out⟩⟩
            rfl
          · by_cases hk0 : k = 0
            · have HT : Hid (Pr.numberR t = some (v, u2)) := by
                show _ = _; rw [← HEQ.out, HNX.out, if_neg (by omega), if_pos hx128, if_neg (by have := HP1.out; omega)]
              have hkb : ((7 * (k : Int)) == 0) = true := by simp; omega
              have hxz : decide ((0 : Int) < (xn : Int)) = false := by simp; omega
              clear hk0
              go_wp2_with fail
              refine (unless_yes _).mono ?_
              rintro r w3 ⟨rfl, rfl⟩
              go_wp2_with fail
              go_ret
              refine ⟨HB1.out, .inr ⟨_, _, HT.out, ?_, HR1.out⟩⟩
              rfl
            · have HT : Hid (Pr.numberR t = none) := by
                show _ = _; rw [← HEQ.out, HNX.out, if_neg (by omega), if_pos hx128, if_pos ⟨by omega, fun e => hk0 (HP1.out.2 e)⟩]
              have hkb : ((7 * (k : Int)) == 0) = false := by simp; omega
              have hxz : decide ((0 : Int) < (xn : Int)) = false := by simp; omega
              go_wp2_with fail
              refine (unless_no _).mono ?_
              rintro r w3 ⟨rfl, rfl⟩
              unfold gaveUp
              go_wp2_with fail
              exact ⟨rfl, HB1.out, .inl ⟨HT.out, rfl⟩⟩
        · by_cases hk4 : k < 4
          · have HT : Hid (Pr.numR (5 - (k + 1)) (128 ^ (k + 1)) v u2 = Pr.numberR t) := by
              show _ = _; rw [← HEQ.out, HNX.out, if_neg (by omega), if_neg hx128, HMK.out, show 5 - (k + 1) = 4 - k by omega]
            have hsh : decide (7 * (k : Int) < 28) = true := by simp; omega
            go_wp2_with fail
            refine (unless_yes _).mono ?_
            rintro r w3 ⟨rfl, rfl⟩
            go_wp2_with fail
            go_roundw
            case rel => exact ⟨k + 1, v, u2, by omega, HVB.out, rfl, int_eq (by omega), HR1.out, HB1.out, HT.out⟩
            case measure => simp [intOf]; omega
          · have HT : Hid (Pr.numberR t = none) := by
              show _ = _; rw [← HEQ.out, HNX.out, if_neg (by omega), if_neg hx128, show 4 - k = 0 by omega]; rfl
            have hsh : decide (7 * (k : Int) < 28) = false := by simp; omega
            go_wp2_with fail
            refine (unless_no _).mono ?_
            rintro r w3 ⟨rfl, rfl⟩
            unfold gaveUp
            go_wp2_with fail
            exact ⟨rfl, HB1.out, .inl ⟨HT.out, rfl⟩⟩
      · have HT : Hid (Pr.numberR t = none) := by
          show _ = _; rw [← HEQ.out, HNX.out, if_pos (by omega)]
        rw [show decide ((v : Int) ≤ 2147483647) = false by simp; omega]
        refine (unless_no _).mono ?_
        rintro r w2 ⟨rfl, rfl⟩
        unfold gaveUp
        go_wp2_with fail
        exact ⟨rfl, HB1.out, .inl ⟨HT.out, rfl⟩⟩

set_option maxHeartbeats 1000000 in
set_option maxRecDepth 20000 in
theorem rtext_any (b : Nat) (t : List UInt8) (w : World) (hr : Rd w b t) (ht : t.length ≤ 35184372088832) :
    Calls Tryz.prog 268 #[.pointer (some ⟨b, 0, none⟩)] w fun r w' => RdQ sv b w (Pr.textR t) r w' := by
  have HC := hid (rnumber_any b t w hr)
  clear hr
  go_enter Tryz.func268, Tryz.ntmps268
  go_wp2_with fail
  refine HC.out.mono ?_
  rintro r w1 ⟨hb1, ⟨hn, rfl⟩ | ⟨n, u, hs, rfl, hr1⟩⟩
  · have HT : Hid (Pr.textR t = none) := by show _ = _; unfold Pr.textR; rw [hn]
    have HB := hid hb1
    clear hb1 hn
    unfold gaveUp
    go_wp2_with fail
    exact ⟨rfl, HB.out, .inl ⟨HT.out, rfl⟩⟩
  · have HT : Hid (Pr.textR t = Pr.takeR n u) := by show _ = _; unfold Pr.textR; rw [hs]
    have hul := (Pr.numberR_le hs).2
    have HB := hid hb1
    have HC2 := hid (rtake_any b n u w1 hr1)
    clear hb1 hs hr1
    unfold nv
    go_wp2_with fail
    refine HC2.out.mono ?_
    rintro r w2 ⟨hb2, ⟨hn, rfl⟩ | ⟨x, u2, hs, rfl, hr2⟩⟩
    · have HT2 : Hid (Pr.textR t = none) := by show _ = _; rw [HT.out, hn]
      have HB2 := hid (but_trans HB.out hb2)
      clear hb2 hn
      unfold gaveUp
      go_wp2_with fail
      exact ⟨rfl, HB2.out, .inl ⟨HT2.out, rfl⟩⟩
    · have HT2 : Hid (Pr.textR t = some (x, u2)) := by show _ = _; rw [HT.out, hs]
      have hxl : x.length ≤ 35184372088832 := by
        have := (Pr.takeR_len hs).2
        have : u.length = x.length + u2.length := by rw [this, List.length_append]
        omega
      have HB2 := hid (but_trans HB.out hb2)
      have HR2 := hid hr2
      have hbl := hr2.lt
      clear hb2 hr2 hs
      unfold sv
      go_wp2_with fail
      refine (clone_any ⟨x.toArray⟩ _ (by rw [size_mk]; exact hxl)).mono ?_
      rintro r w3 ⟨rfl, hb3⟩
      have HB3 := hid (but_trans HB2.out (but_below hb3))
      have HR3 := hid (HR2.out.below hb3 hbl)
      clear hb3
      go_wp2_with fail
      go_ret
      exact ⟨HB3.out, .inr ⟨_, _, HT2.out, rfl, HR3.out⟩⟩
end Go.Proofs.YtolgpnaoaodepaaGreat
