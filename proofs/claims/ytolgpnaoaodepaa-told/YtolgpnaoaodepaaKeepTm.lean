/- The walk of siltkeep's turned. -/
import Derived.Test.YtolgpnaoaodepaaKeepDm
import Derived.Test.YtolgpnaoaodepaaMathNm
import Derived.Lib.ConvBytes
import Derived.BigRegion
import Derived.Test.YtolgpnaoaodepaaWalkAIm
namespace Go.Proofs.Ytolgpnaoaodepaa
open Go.RowKit

/-- Bytes that lie in block g from its first cell on, and may be written. -/
def Bts (w : World) (g : Nat) (l : List UInt8) : Prop := g < w.heap.size ∧ ∀ j (h : j < l.length), w.cell? ⟨g, j, none⟩ = some (.int .u8 ((l[j]'h).toNat : Int)) ∧ w.frozen? ⟨g, j, none⟩ = false
theorem xor_tab : ∀ a : Fin 256, ∀ k : Fin 8, Go.bits .xor .u8 ((a.val : Nat) : Int) (2 ^ k.val % 256) = ((a.val ^^^ 2 ^ k.val : Nat) : Int) := by decide +kernel
theorem xor_u8 (a k : Nat) (ha : a < 256) (hk : k < 8) : Go.bits .xor .u8 (a : Int) (2 ^ k % 256) = ((a ^^^ 2 ^ k : Nat) : Int) := xor_tab ⟨a, ha⟩ ⟨k, hk⟩
theorem bts_flip {w : World} {g : Nat} {l : List UInt8} {m : Nat} (h : Bts w g l) (hm : m / 8 < l.length) : Bts ((w.setCell ⟨g, m / 8, none⟩ (.int .u8 (Go.bits .xor .u8 ((l[m / 8]'hm).toNat : Int) (2 ^ (m % 8) % 256)))).drew) g (Pr.flip l m) := by
  have hb : (l[m / 8]'hm).toNat < 256 := (l[m / 8]'hm).toNat_lt
  have hx : (l[m / 8]'hm).toNat ^^^ 2 ^ (m % 8) < 256 := by
    have hp : 2 ^ (m % 8) < 2 ^ 8 := Nat.pow_lt_pow_right (by decide) (by omega)
    exact Nat.xor_lt_two_pow (n := 8) (by simpa using hb) hp
  refine ⟨by have := h.1; simpa [World.setCell] using this, fun j hj => ?_⟩
  rw [Pr.flip_len] at hj
  obtain ⟨c, z⟩ := h.2 j hj
  have hz2 : (w.setCell ⟨g, m / 8, none⟩ (.int .u8 (Go.bits .xor .u8 ((l[m / 8]'hm).toNat : Int) (2 ^ (m % 8) % 256)))).frozen? ⟨g, j, none⟩ = false := by rw [World.frozen?_setCell]; exact z
  refine ⟨?_, hz2⟩
  show (w.setCell ⟨g, m / 8, none⟩ (.int .u8 (Go.bits .xor .u8 ((l[m / 8]'hm).toNat : Int) (2 ^ (m % 8) % 256)))).cell? ⟨g, j, none⟩ = _
  have hfl : (Pr.flip l m)[j]'(by rw [Pr.flip_len]; exact hj) = (l.set (m / 8) (UInt8.ofNat ((l[m / 8]'hm).toNat ^^^ 2 ^ (m % 8))))[j]'(by rw [List.length_set]; exact hj) := by
    congr 1; exact Pr.flip_set l m hm
  rw [hfl]
  by_cases hjm : m / 8 = j
  · subst hjm
    have hmod : ((l[m / 8]'hm).toNat ^^^ 2 ^ (m % 8)) % 2 ^ 8 = (l[m / 8]'hm).toNat ^^^ 2 ^ (m % 8) := Nat.mod_eq_of_lt hx
    rw [World.cell?_setCell_same (h := c), List.getElem_set_self, UInt8.toNat_ofNat', hmod, xor_u8 _ _ hb (by omega)]
  · rw [World.cell?_setCell_other (h := by intro e; injection e with _ e2 _; exact hjm e2), List.getElem_set_ne hjm]
    exact c
def TurnQ (x : List UInt8) (from_ end_ : Nat) (r : Ending) : Prop := ∃ y e, r = .returned (.string ⟨y.toArray⟩) ∧ y.length = x.length ∧ Pg.high y = Pg.high x ^^^ 2 ^ from_ * e ∧ e % 2 = 1 ∧ e < 2 ^ 32 ∧ 2 ^ from_ * e < 2 ^ end_

set_option maxHeartbeats 2000000 in
set_option maxRecDepth 20000 in
theorem turned_any (x : List UInt8) (from_ end_ : Nat) (bits : Int) (w : World) (h1 : from_ < end_) (h2 : end_ ≤ 8 * x.length) (hx : x.length ≤ 1000000) :
    Calls Try.prog 17 #[.string ⟨x.toArray⟩, .int .i64 from_, .int .i64 end_, .int .i64 bits] w fun r w' => TurnQ x from_ end_ r ∧ Below w.heap.size w w' := by
  have hcv := Lib.run_convert_string_bytes (P := Try.prog) w 9 59 5 ⟨x.toArray⟩ Try.underlying9 Try.underlying59 Try.underlying5
  have hz := size_mk x
  rw [hz] at hcv
  have HB0 := hid (below_bytes w ⟨x.toArray⟩)
  have HBT : Hid (Bts (Lib.bytesWorld w 5 ⟨x.toArray⟩) w.heap.size x) := by
    refine ⟨by rw [Lib.bytesWorld_size]; omega, fun j hj => ⟨?_, ?_⟩⟩
    · rw [Lib.bytesWorld_cell w 5 ⟨x.toArray⟩ j (by rw [hz]; exact hj)]
      simp [List.getD_eq_getElem?_getD, hj]
    · unfold World.frozen?
      rw [Lib.bytesWorld_at_new]
      have hsz : x.length ≤ (Lib.bytesCells w 5 ⟨x.toArray⟩).size := by simp [Lib.bytesCells]
      simp
      omega
  generalize hgc : grownCap w x.length 0 5 = gc at *
  generalize Lib.bytesWorld w 5 ⟨x.toArray⟩ = w0 at *
  clear hgc
  have hi0 : from_ / 8 < x.length := by omega
  obtain ⟨c0, z0⟩ := HBT.out.2 (from_ / 8) hi0
  have hq : (from_ : Int).tdiv 8 = ((from_ / 8 : Nat) : Int) := by rw [Int.tdiv_eq_ediv_of_nonneg (by omega)]; omega
  have hm : (from_ : Int).tmod 8 = ((from_ % 8 : Nat) : Int) := by rw [Int.tmod_eq_emod_of_nonneg (by omega)]; omega
  have hi1 : ((from_ / 8 : Nat) : Int) < (x.length : Int) := by omega
  have hm8 : from_ % 8 < 8 := by omega
  go_enter Try.func17, Try.ntmps17
  go_wp2_with fail
  go_region
  have HB1 : Hid (Below w.heap.size w ((w0.setCell ⟨w.heap.size, from_ / 8, none⟩ (.int .u8 (Go.bits .xor .u8 ((x[from_ / 8]'hi0).toNat : Int) (2 ^ (from_ % 8) % 256)))).drew)) := (HB0.out.setCell (p := ⟨w.heap.size, from_ / 8, none⟩) (Nat.le_refl _) _).drew
  have HT1 := hid (bts_flip HBT.out hi0)
  have HH1 : Hid (Pg.high (Pr.flip x from_) = Pg.high x ^^^ 2 ^ from_ * 1) := by show _ = _; rw [Nat.mul_one]; exact Pr.flip_high x from_ (by omega)
  have HL1 := hid (Pr.flip_len x from_)
  generalize (w0.setCell ⟨w.heap.size, from_ / 8, none⟩ (.int .u8 (Go.bits .xor .u8 ((x[from_ / 8]'hi0).toNat : Int) (2 ^ (from_ % 8) % 256)))).drew = w1 at *
  clear hcv c0 z0 hq hm hi1 hm8 HB0 HBT
  go_wp2_with fail
  go_loopw [10] (fun i wr => ∃ (k e : Nat) (y : List UInt8), 1 ≤ k ∧ k ≤ 32 ∧ from_ + k ≤ end_ ∧ i = .int .i64 k ∧ y.length = x.length ∧ Pg.high y = Pg.high x ^^^ 2 ^ from_ * e ∧ e < 2 ^ k ∧ e % 2 = 1 ∧ Bts wr w.heap.size y ∧ Below w.heap.size w wr) (fun i _ => 32 - (intOf i).toNat)
  case atStart => exact ⟨1, 1, Pr.flip x from_, Nat.le_refl _, by omega, by omega, rfl, HL1.out, HH1.out, by decide, rfl, HT1.out, HB1.out⟩
  case round =>
    clear HB1 HT1 HH1 HL1
    obtain ⟨k, e, y, hk1, hk32, hke, rfl, hyl, hyh, he, heo, hbt, hb⟩ := hrel
    have HYH := hid hyh
    have HYL := hid hyl
    have HE := hid he
    have HBT := hid hbt
    have HB := hid hb
    have hylb : y.length ≤ x.length ∧ x.length ≤ y.length := by omega
    clear hyh hyl he hbt hb
    by_cases hgo : k < 32 ∧ from_ + k < end_
    · have hj0 : (from_ + k) / 8 < y.length := by omega
      obtain ⟨c0, z0⟩ := HBT.out.2 ((from_ + k) / 8) hj0
      have hg1 : (k : Int) < 32 := by omega
      have hg2 : (from_ : Int) + (k : Int) < (end_ : Int) := by omega
      have hq : ((from_ : Int) + (k : Int)).tdiv 8 = (((from_ + k) / 8 : Nat) : Int) := by rw [Int.tdiv_eq_ediv_of_nonneg (by omega)]; omega
      have hm : ((from_ : Int) + (k : Int)).tmod 8 = (((from_ + k) % 8 : Nat) : Int) := by rw [Int.tmod_eq_emod_of_nonneg (by omega)]; omega
      have hi1 : (((from_ + k) / 8 : Nat) : Int) < (x.length : Int) := by omega
      have hw1 : IntKind.i64.wrap ((from_ : Int) + (k : Int)) = (from_ : Int) + (k : Int) := IntWalk.i64_in _ ⟨by omega, by omega⟩
      cases hbit : ((bits / 2 ^ k).tmod 2 != 0)
      · have HE2 : Hid (e < 2 ^ (k + 1)) := by show _ < _; have := HE.out; rw [Nat.pow_succ]; omega
        go_wp2_with fail
        go_roundw
        case rel => exact ⟨k + 1, e, y, by omega, by omega, by omega, by go_num, HYL.out, HYH.out, HE2.out, heo, HBT.out, HB.out⟩
        case measure => simp [intOf]; omega
      · obtain ⟨t1, t2, t3, t4⟩ := Pr.turn_step HYL.out HYH.out HE.out heo hk1 (by omega)
        have T1 := hid t1
        have T2 := hid t2
        have T3 := hid t3
        have T4 := hid t4
        clear t1 t2 t3 t4
        have HB2 : Hid (Below w.heap.size w ((wr.setCell ⟨w.heap.size, (from_ + k) / 8, none⟩ (.int .u8 (Go.bits .xor .u8 ((y[(from_ + k) / 8]'hj0).toNat : Int) (2 ^ ((from_ + k) % 8) % 256)))).drew)) := (HB.out.setCell (p := ⟨w.heap.size, (from_ + k) / 8, none⟩) (Nat.le_refl _) _).drew
        have HT2 := hid (bts_flip HBT.out hj0)
        have hm8 : (from_ + k) % 8 < 8 := by omega
        go_wp2_with fail
        go_region
        generalize (wr.setCell ⟨w.heap.size, (from_ + k) / 8, none⟩ (.int .u8 (Go.bits .xor .u8 ((y[(from_ + k) / 8]'hj0).toNat : Int) (2 ^ ((from_ + k) % 8) % 256)))).drew = w2 at *
        go_wp2_with fail
        go_roundw
        case rel => exact ⟨k + 1, _, _, by omega, by omega, by omega, by go_num, T1.out, T2.out, T3.out, T4.out, HT2.out, HB2.out⟩
        case measure => simp [intOf]; omega
    · have hst : (convert 59 9 (.slice (some ⟨w.heap.size, 0, none⟩) x.length gc)).run Try.prog wr = .ok (.string ⟨y.toArray⟩) wr := by
        have := run_convert_bytes_back (P := Try.prog) wr 59 9 5 ⟨w.heap.size, 0, none⟩ gc y Try.underlying59 Try.underlying5 Try.underlying9 (fun j hj => by rw [add_at]; exact (HBT.out.2 j hj).1)
        rw [HYL.out] at this
        exact this
      have HQ : Hid (TurnQ x from_ end_ (.returned (.string ⟨y.toArray⟩))) := by
        refine ⟨y, e, rfl, HYL.out, HYH.out, heo, Nat.lt_of_lt_of_le HE.out (Nat.pow_le_pow_right (by decide) hk32), ?_⟩
        have a1 : 2 ^ from_ * e < 2 ^ from_ * 2 ^ k := Nat.mul_lt_mul_of_pos_left HE.out (Nat.two_pow_pos _)
        rw [← Nat.pow_add] at a1
        exact Nat.lt_of_lt_of_le a1 (Nat.pow_le_pow_right (by decide) hke)
      by_cases hk : k < 32
      · have hg1 : (k : Int) < 32 := by omega
        have hg2 : ¬ (from_ : Int) + (k : Int) < (end_ : Int) := by omega
        go_wp2_with fail
        go_ret
        exact ⟨HQ.out, HB.out⟩
      · have hg1 : ¬ (k : Int) < 32 := by omega
        go_wp2_with fail
        go_ret
        exact ⟨HQ.out, HB.out⟩
end Go.Proofs.Ytolgpnaoaodepaa
/- The walk of siltkeep's Told. -/
namespace Go.Proofs.Ytolgpnaoaodepaa
open Go.RowKit

theorem write_leaf {il : List (ByteArray × ByteArray)} (hf : Pr.Fine (plain il)) (h16 : il.length ≤ 16) : Pg.write 1 (plain il) [] [] [] = (Pg.leaf (plain il), 0) := by
  have hw : Pg.well 1 (plain il) [] [] [] = true := by
    unfold Pg.well
    rw [if_pos rfl]
    simp only [Bool.and_eq_true, decide_eq_true_eq]
    exact ⟨⟨⟨⟨(Pr.ok_fine _).2 hf, by simpa [plain] using h16⟩, rfl⟩, rfl⟩, rfl⟩
  unfold Pg.write
  rw [if_pos hw]; rfl
theorem leaf_node {B : Nat} {w : World} {v : Value} {il : List (ByteArray × ByteArray)} (h : OwnsI B w v il) (h16 : il.length ≤ 16) : IsNode w (.agg #[.int .i64 1, v, .slice none 0 0, .slice none 0 0, .slice none 0 0]) 1 il [] [] [] :=
  ⟨_, _, _, _, rfl, ownsI_items h, by omega, ⟨none, 0, rfl, by simp, .inl rfl⟩, ⟨none, 0, rfl, by simp, .inl rfl⟩, ⟨none, 0, rfl, by simp, .inl rfl⟩⟩

theorem w64 (x : Int) (h : -9223372036854775808 ≤ x) (h2 : x ≤ 9223372036854775807) : wrap64 x = x := by unfold wrap64; omega
theorem end_is (u a b n : Nat) (hu : u ≤ 1000000) (ha : a < 256) (hb : b < 256) (h : u + (a + 256 * b) = n) : wrap64 (wrap64 ((u : Int) + wrap64 (a : Int)) + wrap64 (256 * wrap64 (b : Int))) = (n : Int) := by
  rw [w64 (a : Int) (by omega) (by omega), w64 (b : Int) (by omega) (by omega), w64 ((u : Int) + a) (by omega) (by omega), w64 (256 * (b : Int)) (by omega) (by omega), w64 _ (by omega) (by omega)]
  omega
set_option maxHeartbeats 4000000 in
set_option maxRecDepth 20000 in
theorem told_any (v : Value) (l : List Int) (where_ from_ bits : Int) (w : World) (hv : IsInts w v l) (a1 : -9223372036854775808 ≤ where_) (a2 : where_ ≤ 9223372036854775807) (b1 : -9223372036854775808 ≤ from_) (b2 : from_ ≤ 9223372036854775807) :
    Calls Try.prog 5 #[v, .int .i64 where_, .int .i64 from_, .int .i64 bits] w fun r w' => r = .returned (.bool true) ∧ Below w.heap.size w w' := by
  have HV := hid hv
  obtain ⟨va, vc, rfl, hl18, -, -⟩ := hv
  go_enter Try.func5, Try.ntmps5
  go_wp2_with fail
  refine (head_any _).mono ?_
  rintro r w1 ⟨rfl, hb1⟩
  have HV1 := hid (HV.out.below hb1)
  have HB1 := hid hb1
  have hs1 := hb1.size
  clear hb1
  go_wp2_with fail
  refine (leaf_any _ l _ HV1.out).mono ?_
  rintro r w2 ⟨⟨il, v2, rfl, ho2, h16, hf2⟩, hb2⟩
  have BA := (Below.refl w2.heap.size w2).alloc (Nat.le_refl _)
  obtain ⟨ia, ic, rfl⟩ := rowShape ho2
  have hs2 := hb2.size
  have BN := (Below.refl w2.heap.size w2).alloc (Nat.le_refl _) (.cells #[.int .i64 1, .slice ia il.length ic, .slice none 0 0, .slice none 0 0, .slice none 0 0] 34)
  have HB3 := hid (HB1.out.trans ((hb2.trans (BN.mono hs2)).mono hs1))
  have HO3 : Hid (OwnsI w1.heap.size (w2.alloc (.cells #[.int .i64 1, .slice ia il.length ic, .slice none 0 0, .slice none 0 0, .slice none 0 0] 34)) (.slice ia il.length ic) il) := row_below ho2 BN (Nat.le_refl _)
  have HN3 := hid (nodeB_new w2 (.int .i64 1) (.slice ia il.length ic) (.slice none 0 0) (.slice none 0 0) (.slice none 0 0))
  have hs3 : w2.heap.size < (w2.alloc (.cells #[.int .i64 1, .slice ia il.length ic, .slice none 0 0, .slice none 0 0, .slice none 0 0] 34)).heap.size := by simp
  have HF := hid hf2
  have HW := hid (write_leaf hf2 h16)
  have hl68 : 68 ≤ (Pg.leaf (plain il)).length := by rw [Pr.leaf_len68 hf2 (by simpa [plain] using h16)]; omega
  clear BA BN hb2 ho2 hf2
  go_wp2_with fail
  generalize w2.alloc (.cells #[.int .i64 1, .slice ia il.length ic, .slice none 0 0, .slice none 0 0, .slice none 0 0] 34) = w3 at *
  generalize w2.heap.size = nb at *
  have HWR := hid (siltWrite_any _ 1 il [] [] [] w3 (leaf_node HO3.out h16))
  refine HWR.out.mono ?_
  rintro r w4 ⟨rfl, hb4⟩
  rw [show lists [] = [] from rfl, show plainCh [] = [] from rfl, HW.out]
  have HB4 := hid (HB3.out.trans (hb4.mono (by omega)))
  have HO4 : Hid (OwnsI w1.heap.size w4 (.slice ia il.length ic) il) := row_below HO3.out hb4 (Nat.le_refl _)
  have HN4 := hid (HN3.out.keep hb4)
  have hs4 := hb4.size
  have HPG : Hid (∃ pg, pg = Pg.leaf (plain il)) := ⟨_, rfl⟩
  have hgl : (Pg.leaf (plain il)).length ≤ 1000000 := Pr.leaf_small HF.out (by simpa [plain] using h16)
  generalize hpg : Pg.leaf (plain il) = pg at *
  have HPE := hid hpg
  have hzp := size_mk pg
  have h68 : 68 ≤ pg.length := by omega
  have hd68 : ¬ (pg.length : Int) < 68 := by omega
  clear hb4 HWR HPG hpg HB3 HO3 HN3
  obtain ⟨n0, n1, n2, n3, n4, -⟩ := HN4.out.cells
  have hmy : ((il.length : Int) + 3).tdiv 4 = (((il.length + 3) / 4 : Nat) : Int) := by rw [Int.tdiv_eq_ediv_of_nonneg (by omega)]; omega
  obtain ⟨M, hM⟩ : ∃ M, M = (il.length + 3) / 4 := ⟨_, rfl⟩
  have hMi : ((il.length : Int) + 3) / 4 = (M : Int) := by omega
  have hM4 : M ≤ 4 := by omega
  have HPL : Hid ((Pr.parts (plain il)).length = M) := by show _ = _; rw [Pr.parts_length, hM]; simp [plain]
  clear hmy hM
  have hmy : ((il.length : Int) + 3).tdiv 4 = (M : Int) := by rw [Int.tdiv_eq_ediv_of_nonneg (by omega)]; exact hMi
  have HCP := hid (pick_any where_ (M + 1) w4 a1 a2 (by omega) (by omega))
  have hK := pk_lt where_ (M + 1) (by omega)
  rw [show ((M + 1 : Nat) : Int) = (M : Int) + 1 by omega] at HCP
  generalize pk where_ (M + 1) = K at *
  go_wp2_with fail
  refine HCP.out.mono ?_
  rintro r w5 ⟨rfl, rfl⟩
  clear HCP
  go_wp2_with fail
  go_loopw [15, 16, 17] (fun a e i wr => ∃ (k A : Nat), k ≤ K ∧ i = .int .i64 k ∧ e = .int .i64 ((68 + Pr.upto (plain il) k : Nat) : Int) ∧ a = .int .i64 (A : Int) ∧ (k = 0 → A = 0) ∧ (∀ j, k = j + 1 → A = 68 + Pr.upto (plain il) j) ∧ Below w.heap.size w wr ∧ OwnsI w1.heap.size wr (.slice ia il.length ic) il ∧ NodeB wr nb (.int .i64 1) (.slice ia il.length ic) (.slice none 0 0) (.slice none 0 0) (.slice none 0 0) ∧ w5.heap.size ≤ wr.heap.size) (fun _ _ i _ => K - (intOf i).toNat)
  case atStart => exact ⟨0, 0, Nat.zero_le _, rfl, by simp [Pr.upto_zero], rfl, fun _ => rfl, fun j hj => by omega, HB4.out, HO4.out, HN4.out, Nat.le_refl _⟩
  case round =>
    obtain ⟨k, A, hk, rfl, rfl, rfl, hA0, hA1, hb, ho, hn, hsr⟩ := hrel
    have HA0 := hid hA0
    have HA1 := hid hA1
    have HB := hid hb
    have HO := hid ho
    have HN := hid hn
    clear hA0 hA1 hb ho hn n0 n1 n2 n3 n4
    have hup : 68 + Pr.upto (plain il) k ≤ pg.length := by have := Pr.upto_le (plain il) HF.out (by simpa [plain] using h16) k; rw [HPE.out] at this; exact this
    by_cases hkK : k < K
    · have hkp : k < (Pr.parts (plain il)).length := by rw [HPL.out]; omega
      obtain ⟨ba, bb, e1, e2, e3⟩ := Pr.entry_bytes HF.out k hkp
      rw [HPE.out] at e1 e2
      have HUS := hid (Pr.upto_succ (plain il) k hkp)
      have hup1 : 68 + Pr.upto (plain il) (k + 1) ≤ pg.length := by have := Pr.upto_le (plain il) HF.out (by simpa [plain] using h16) (k + 1); rw [HPE.out] at this; exact this
      have hi1 : (k : Int) ≤ (K : Int) - 1 := by omega
      have hw0 : IntKind.i64.wrap (15 * (k : Int)) = 15 * (k : Int) := IntWalk.i64_in _ ⟨by omega, by omega⟩
      have hw1 : IntKind.i64.wrap (4 + 15 * (k : Int)) = 4 + 15 * (k : Int) := IntWalk.i64_in _ ⟨by omega, by omega⟩
      have hw2 : IntKind.i64.wrap (5 + 15 * (k : Int)) = 5 + 15 * (k : Int) := IntWalk.i64_in _ ⟨by omega, by omega⟩
      obtain ⟨l1, f1⟩ := List.getElem?_eq_some_iff.1 e1
      obtain ⟨l2, f2⟩ := List.getElem?_eq_some_iff.1 e2
      have l1' : (4 : Int) + 15 * (k : Int) < (pg.length : Int) := by omega
      have l2' : (5 : Int) + 15 * (k : Int) < (pg.length : Int) := by omega
      have p1' : (0 : Int) ≤ 4 + 15 * (k : Int) := by omega
      have p2' : (0 : Int) ≤ 5 + 15 * (k : Int) := by omega
      go_wp2_with fail
      go_quiet (fail)
      have hlt1 : 4 + 15 * k < (⟨pg.toArray⟩ : ByteArray).size := by rw [hzp]; exact l1
      have hlt2 : 5 + 15 * k < (⟨pg.toArray⟩ : ByteArray).size := by rw [hzp]; exact l2
      have g1 : (⟨pg.toArray⟩ : ByteArray)[4 + 15 * k]'hlt1 = ba := by rw [← f1]; rfl
      have g2 : (⟨pg.toArray⟩ : ByteArray)[5 + 15 * k]'hlt2 = bb := by rw [← f2]; rfl
      have hend := end_is (68 + Pr.upto (plain il) k) ba.toNat bb.toNat (68 + Pr.upto (plain il) (k + 1)) (by omega) ba.toNat_lt bb.toNat_lt (by rw [HUS.out, e3]; omega)
      have HEND := hid hend
      clear hend hw0 hw1 hw2 e1 e2
      have HBD := hid (below_drewN HB.out nq)
      have HOD : Hid (OwnsI w1.heap.size (wr.drewN nq) (.slice ia il.length ic) il) := HO.out
      have HND : Hid (NodeB (wr.drewN nq) nb (.int .i64 1) (.slice ia il.length ic) (.slice none 0 0) (.slice none 0 0) (.slice none 0 0)) := HN.out
      have hsd : w5.heap.size ≤ (wr.drewN nq).heap.size := hsr
      go_wp2_with fail
      go_roundw
      case rel =>
        refine ⟨k + 1, 68 + Pr.upto (plain il) k, by omega, by go_num, ?_, rfl, fun h => by omega, fun j hj => by rw [show j = k by omega], HBD.out, HOD.out, HND.out, hsd⟩
        rw [← HEND.out, g1, g2]
        simp
      case measure => simp [intOf]; omega
    · have hkE : K ≤ k := by omega
      have HKE : Hid (K = k) := by show _ = _; omega
      have hi1 : ¬ (k : Int) ≤ (K : Int) - 1 := by omega
      obtain ⟨E, hE⟩ : ∃ E, E = 68 + Pr.upto (plain il) k := ⟨_, rfl⟩
      have HE := hid hE
      rw [← hE] at hup ⊢
      have hAE : A < E := by
        rcases Nat.eq_zero_or_pos k with h0 | h0
        · have := HA0.out h0; omega
        · obtain ⟨j, rfl⟩ : ∃ j, k = j + 1 := ⟨k - 1, by omega⟩
          have h1 := HA1.out j rfl
          have hjp : j < (Pr.parts (plain il)).length := by rw [HPL.out]; omega
          have h2 := Pr.upto_succ (plain il) j hjp
          have h3 := Pr.sec_pos ((Pr.parts (plain il))[j]'hjp)
          omega
      have hg1 : ¬ (pg.length : Int) < (E : Int) := by omega
      have hg2 : ¬ (E : Int) ≤ (A : Int) := by omega
      have HCP := hid (pick_any from_ (8 * (E - A)) wr b1 b2 (by omega) (by omega))
      have hP := pk_lt from_ (8 * (E - A)) (by omega)
      rw [show ((8 * (E - A) : Nat) : Int) = 8 * ((E : Int) - (A : Int)) by omega] at HCP
      generalize pk from_ (8 * (E - A)) = P at *
      have HCT := hid (turned_any pg (8 * A + P) (8 * E) bits wr (by omega) (by omega) hgl)
      rw [show ((8 * A + P : Nat) : Int) = 8 * (A : Int) + (P : Int) by omega, show ((8 * E : Nat) : Int) = 8 * (E : Int) by omega] at HCT
      clear hE
      go_wp2_with fail
      refine HCP.out.mono ?_
      rintro r w6 ⟨rfl, rfl⟩
      clear HCP
      go_wp2_with fail
      refine HCT.out.mono ?_
      rintro r w7 ⟨⟨y, e, rfl, hyl, hyh, heo, he32, hyb⟩, hb7⟩
      clear HCT
      have HTA := hid (Pr.told_all HF.out (by simpa [plain] using h16) k A P e y (by rw [HPL.out]; omega) HA0.out HA1.out (by rw [HPE.out]; exact hyl) (by rw [HPE.out]; exact hyh) heo he32 (by rw [← HE.out]; exact hyb))
      have HB7 := hid (HB.out.trans (hb7.mono (by have := HB.out.size; omega)))
      have HO7 : Hid (OwnsI w1.heap.size w7 (.slice ia il.length ic) il) := row_below HO.out hb7 (Nat.le_refl _)
      have HN7 := hid (HN.out.keep hb7)
      have hs7 := hb7.size
      clear hyl hyh heo he32 hyb hb7
      go_wp2_with fail
      refine (siltRead_any y w7).mono ?_
      rintro r w8 ⟨hb8, ⟨hn8, rfl⟩ | ⟨kd, il8, cl8, pl8, ml8, v8, he8, -⟩⟩
      rotate_left
      · rw [HTA.out.1] at he8; simp at he8
      have BN := (Below.refl w8.heap.size w8).alloc (Nat.le_refl _) (.cells #[.int .i64 0, .slice none 0 0, .slice none 0 0, .slice none 0 0, .slice none 0 0] 34)
      have hs8 := hb8.size
      have HB9 := hid (HB7.out.trans ((hb8.trans (BN.mono hs8)).mono (by have := HB7.out.size; omega)))
      have HO9 : Hid (OwnsI w1.heap.size (w8.alloc (.cells #[.int .i64 0, .slice none 0 0, .slice none 0 0, .slice none 0 0, .slice none 0 0] 34)) (.slice ia il.length ic) il) := row_below HO7.out (hb8.trans (BN.mono hs8)) (Nat.le_refl _)
      have HN9 := hid (HN7.out.keep (hb8.trans (BN.mono hs8)))
      clear hb8 hn8 BN
      go_wp2_with fail
      generalize w8.alloc (.cells #[.int .i64 0, .slice none 0 0, .slice none 0 0, .slice none 0 0, .slice none 0 0] 34) = w9 at *
      go_loopw [21] (fun i wr => ∃ j : Nat, j ≤ il.length ∧ i = .int .i64 j ∧ Below w.heap.size w wr ∧ OwnsI w1.heap.size wr (.slice ia il.length ic) il ∧ NodeB wr nb (.int .i64 1) (.slice ia il.length ic) (.slice none 0 0) (.slice none 0 0) (.slice none 0 0)) (fun i _ => il.length - (intOf i).toNat)
      case atStart => exact ⟨0, Nat.zero_le _, rfl, HB9.out, HO9.out, HN9.out⟩
      case round =>
        obtain ⟨j, hj, rfl, hb, ho, hn⟩ := hrel
        have HBJ := hid hb
        have HOJ := hid ho
        have HNJ := hid hn
        obtain ⟨n0, n1, n2, n3, n4, -⟩ := hn.cells
        clear hb ho hn
        by_cases hjl : j < il.length
        · obtain ⟨g, cap, hge, hgc, hgb, hgw, hia⟩ := HOJ.out.isItems.resolve_left (by rintro ⟨_, _, _, rfl⟩; simp at hjl)
          injection hge with q1 q2 q3
          subst q1 q3
          obtain ⟨k0, k1⟩ := hia j hjl
          simp only [Nat.zero_add] at k0 k1
          clear hia
          have hjp : j < (plain il).length := by simpa [plain] using hjl
          have hT := HTA.out.2 j hjp
          have hpj : (plain il)[j]'hjp = ((il[j]'hjl).1.data.toList, (il[j]'hjl).2.data.toList) := by simp [plain]
          rw [hpj] at hT
          generalize il[j]'hjl = xx at *
          obtain ⟨kb, vb⟩ := xx
          simp only at k0 k1 hT
          have hi2 : (0 : Int) ≤ (j : Int) := by omega
          have hi3 : (j : Int) < (il.length : Int) := by omega
          have HCF := hid (siltFetch_any y kb wr)
          by_cases hc : k ≠ 0 ∧ j / 4 + 1 ≠ k
          · have hfr := hT.1 hc
            rw [hfr, show fetchV (some (some vb.data.toList)) = vb from mk_data vb, show fetchN (some (some vb.data.toList)) = 0 from rfl] at HCF
            have hq : (j : Int).tdiv 4 = ((j / 4 : Nat) : Int) := by rw [Int.tdiv_eq_ediv_of_nonneg (by omega)]; omega
            have hw1 : (0 : Int) ≤ (K : Int) - 1 := by have := HKE.out; omega
            have hw2 : ¬ (j : Int) / 4 = (K : Int) - 1 := by have := HKE.out; omega
            have hw3 : ¬ ((j / 4 : Nat) : Int) = (K : Int) - 1 := by have := HKE.out; omega
            clear hT hfr hpj
            go_wp2_with fail
            refine HCF.out.mono ?_
            rintro r wf ⟨rfl, hbf⟩
            have HBF := hid (HBJ.out.trans (hbf.mono (by have := HBJ.out.size; omega)))
            have HOF : Hid (OwnsI w1.heap.size wf (.slice (some ⟨g, 0, none⟩) il.length ic) il) := row_below HOJ.out hbf (Nat.le_refl _)
            have HNF := hid (HNJ.out.keep hbf)
            have k1' := (hbf.cell (p := ⟨g, j * 2 + 1, none⟩) hgw).trans k1
            clear k0 k1 n0 n1 n2 n3 n4 hbf HCF
            obtain ⟨n0, n1, n2, n3, n4, -⟩ := HNF.out.cells
            go_wp2_with fail
            go_roundw
            case rel => exact ⟨j + 1, by omega, by go_num, HBF.out, HOF.out, HNF.out⟩
            case measure => simp [intOf]; omega
          · have hfr := hT.2 (by omega)
            rw [hfr, show fetchV none = ⟨#[]⟩ from rfl, show fetchN none = 2 from rfl] at HCF
            have hq : (j : Int).tdiv 4 = ((j / 4 : Nat) : Int) := by rw [Int.tdiv_eq_ediv_of_nonneg (by omega)]; omega
            clear hT hfr hpj
            by_cases hK0 : K = 0
            · have hw1 : ¬ (0 : Int) ≤ (K : Int) - 1 := by omega
              clear hK0
              go_wp2_with fail
              refine HCF.out.mono ?_
              rintro r wf ⟨rfl, hbf⟩
              have HBF := hid (HBJ.out.trans (hbf.mono (by have := HBJ.out.size; omega)))
              have HOF : Hid (OwnsI w1.heap.size wf (.slice (some ⟨g, 0, none⟩) il.length ic) il) := row_below HOJ.out hbf (Nat.le_refl _)
              have HNF := hid (HNJ.out.keep hbf)
              clear k0 k1 n0 n1 n2 n3 n4 hbf HCF
              go_wp2_with fail
              go_roundw
              case rel => exact ⟨j + 1, by omega, by go_num, HBF.out, HOF.out, HNF.out⟩
              case measure => simp [intOf]; omega
            · have hw1 : (0 : Int) ≤ (K : Int) - 1 := by omega
              have hw2 : (j : Int) / 4 = (K : Int) - 1 := by have := HKE.out; omega
              have hw3 : ((j / 4 : Nat) : Int) = (K : Int) - 1 := by have := HKE.out; omega
              clear hK0
              go_wp2_with fail
              refine HCF.out.mono ?_
              rintro r wf ⟨rfl, hbf⟩
              have HBF := hid (HBJ.out.trans (hbf.mono (by have := HBJ.out.size; omega)))
              have HOF : Hid (OwnsI w1.heap.size wf (.slice (some ⟨g, 0, none⟩) il.length ic) il) := row_below HOJ.out hbf (Nat.le_refl _)
              have HNF := hid (HNJ.out.keep hbf)
              clear k0 k1 n0 n1 n2 n3 n4 hbf HCF
              go_wp2_with fail
              go_roundw
              case rel => exact ⟨j + 1, by omega, by go_num, HBF.out, HOF.out, HNF.out⟩
              case measure => simp [intOf]; omega
        · have hi3 : ¬ (j : Int) < (il.length : Int) := by omega
          go_wp2_with fail
          go_ret
          exact ⟨rfl, HBJ.out⟩
end Go.Proofs.Ytolgpnaoaodepaa
