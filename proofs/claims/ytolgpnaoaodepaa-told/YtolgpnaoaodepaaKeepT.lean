/- The walk of siltkeep's turned. -/
import Derived.Test.YtolgpnaoaodepaaKeepF
import Derived.Test.YtolgpnaoaodepaaMathO
import Derived.Lib.ConvBytes
import Derived.BigRegion
namespace Go.Proofs.Ytolgpnaoaodepaa
open Go.RowKit

/-- Bytes that lie in block g from its first cell on, and may be written. -/
def Bts (w : World) (g : Nat) (l : List UInt8) : Prop := g < w.heap.size ∧ ∀ j (h : j < l.length), w.cell? ⟨g, j, none⟩ = some (.int .u8 ((l[j]'h).toNat : Int)) ∧ w.frozen? ⟨g, j, none⟩ = false
theorem xor_tab : ∀ a : Fin 256, ∀ k : Fin 8, Go.bits .xor .u8 ((a.val : Nat) : Int) (2 ^ k.val % 256) = ((a.val ^^^ 2 ^ k.val : Nat) : Int) := by decide +kernel
theorem xor_u8 (a k : Nat) (ha : a < 256) (hk : k < 8) : Go.bits .xor .u8 (a : Int) (2 ^ k % 256) = ((a ^^^ 2 ^ k : Nat) : Int) := xor_tab ⟨a, ha⟩ ⟨k, hk⟩
theorem bts_flip {w : World} {g : Nat} {l : List UInt8} {m : Nat} (h : Bts w g l) (hm : m / 8 < l.length) : Bts ((w.setCell ⟨g, m / 8, none⟩ (.int .u8 (Go.bits .xor .u8 ((l[m / 8]'hm).toNat : Int) (2 ^ (m % 8) % 256)))).drew) g (Pr.flip l m) := by
  have hb : (l[m / 8]'hm).toNat < 256 := (l[m / 8]'hm).toNat_lt
  have hx : (l[m / 8]'hm).toNat ^^^ 2 ^ (m % 8) < 256 := by
    have hp : 2 ^ (m % 8) < 2 ^ 8 := Nat.pow_lt_pow_right (by decide) (by omega)
    exact Nat.xor_lt_two_pow (n := 8) (by simpa using hb) hp
  refine ⟨by have := h.1; simpa [World.setCell] using this, fun j hj => ?_⟩
  rw [Pr.flip_len] at hj
  obtain ⟨c, z⟩ := h.2 j hj
  have hz2 : (w.setCell ⟨g, m / 8, none⟩ (.int .u8 (Go.bits .xor .u8 ((l[m / 8]'hm).toNat : Int) (2 ^ (m % 8) % 256)))).frozen? ⟨g, j, none⟩ = false := by rw [World.frozen?_setCell]; exact z
  refine ⟨?_, hz2⟩
  show (w.setCell ⟨g, m / 8, none⟩ (.int .u8 (Go.bits .xor .u8 ((l[m / 8]'hm).toNat : Int) (2 ^ (m % 8) % 256)))).cell? ⟨g, j, none⟩ = _
  have hfl : (Pr.flip l m)[j]'(by rw [Pr.flip_len]; exact hj) = (l.set (m / 8) (UInt8.ofNat ((l[m / 8]'hm).toNat ^^^ 2 ^ (m % 8))))[j]'(by rw [List.length_set]; exact hj) := by
    congr 1; exact Pr.flip_set l m hm
  rw [hfl]
  by_cases hjm : m / 8 = j
  · subst hjm
    have hmod : ((l[m / 8]'hm).toNat ^^^ 2 ^ (m % 8)) % 2 ^ 8 = (l[m / 8]'hm).toNat ^^^ 2 ^ (m % 8) := Nat.mod_eq_of_lt hx
    rw [World.cell?_setCell_same (h := c), List.getElem_set_self, UInt8.toNat_ofNat', hmod, xor_u8 _ _ hb (by omega)]
  · rw [World.cell?_setCell_other (h := by intro e; injection e with _ e2 _; exact hjm e2), List.getElem_set_ne hjm]
    exact c
def TurnQ (x : List UInt8) (from_ end_ : Nat) (r : Ending) : Prop := ∃ y e, r = .returned (.string ⟨y.toArray⟩) ∧ y.length = x.length ∧ Pg.high y = Pg.high x ^^^ 2 ^ from_ * e ∧ e % 2 = 1 ∧ e < 2 ^ 32 ∧ 2 ^ from_ * e < 2 ^ end_

set_option maxHeartbeats 2000000 in
set_option maxRecDepth 20000 in
theorem turned_any (x : List UInt8) (from_ end_ : Nat) (bits : Int) (w : World) (h1 : from_ < end_) (h2 : end_ ≤ 8 * x.length) (hx : x.length ≤ 1000000) :
    Calls Try.prog 17 #[.string ⟨x.toArray⟩, .int .i64 from_, .int .i64 end_, .int .i64 bits] w fun r w' => TurnQ x from_ end_ r ∧ Below w.heap.size w w' := by
  have hcv := Lib.run_convert_string_bytes (P := Try.prog) w 9 59 5 ⟨x.toArray⟩ Try.underlying9 Try.underlying59 Try.underlying5
  have hz := size_mk x
  rw [hz] at hcv
  have HB0 := hid (below_bytes w ⟨x.toArray⟩)
  have HBT : Hid (Bts (Lib.bytesWorld w 5 ⟨x.toArray⟩) w.heap.size x) := by
    refine ⟨by rw [Lib.bytesWorld_size]; omega, fun j hj => ⟨?_, ?_⟩⟩
    · rw [Lib.bytesWorld_cell w 5 ⟨x.toArray⟩ j (by rw [hz]; exact hj)]
      simp [List.getD_eq_getElem?_getD, hj]
    · unfold World.frozen?
      rw [Lib.bytesWorld_at_new]
      have hsz : x.length ≤ (Lib.bytesCells w 5 ⟨x.toArray⟩).size := by simp [Lib.bytesCells]
      simp
      omega
  generalize hgc : grownCap w x.length 0 5 = gc at *
  generalize Lib.bytesWorld w 5 ⟨x.toArray⟩ = w0 at *
  clear hgc
  have hi0 : from_ / 8 < x.length := by omega
  obtain ⟨c0, z0⟩ := HBT.out.2 (from_ / 8) hi0
  have hq : (from_ : Int).tdiv 8 = ((from_ / 8 : Nat) : Int) := by rw [Int.tdiv_eq_ediv_of_nonneg (by omega)]; omega
  have hm : (from_ : Int).tmod 8 = ((from_ % 8 : Nat) : Int) := by rw [Int.tmod_eq_emod_of_nonneg (by omega)]; omega
  have hi1 : ((from_ / 8 : Nat) : Int) < (x.length : Int) := by omega
  have hm8 : from_ % 8 < 8 := by omega
  go_enter Try.func17, Try.ntmps17
  go_wp2_with fail
  go_region
  have HB1 : Hid (Below w.heap.size w ((w0.setCell ⟨w.heap.size, from_ / 8, none⟩ (.int .u8 (Go.bits .xor .u8 ((x[from_ / 8]'hi0).toNat : Int) (2 ^ (from_ % 8) % 256)))).drew)) := (HB0.out.setCell (p := ⟨w.heap.size, from_ / 8, none⟩) (Nat.le_refl _) _).drew
  have HT1 := hid (bts_flip HBT.out hi0)
  have HH1 : Hid (Pg.high (Pr.flip x from_) = Pg.high x ^^^ 2 ^ from_ * 1) := by show _ = _; rw [Nat.mul_one]; exact Pr.flip_high x from_ (by omega)
  have HL1 := hid (Pr.flip_len x from_)
  generalize (w0.setCell ⟨w.heap.size, from_ / 8, none⟩ (.int .u8 (Go.bits .xor .u8 ((x[from_ / 8]'hi0).toNat : Int) (2 ^ (from_ % 8) % 256)))).drew = w1 at *
  clear hcv c0 z0 hq hm hi1 hm8 HB0 HBT
  go_wp2_with fail
  go_loopw [10] (fun i wr => ∃ (k e : Nat) (y : List UInt8), 1 ≤ k ∧ k ≤ 32 ∧ from_ + k ≤ end_ ∧ i = .int .i64 k ∧ y.length = x.length ∧ Pg.high y = Pg.high x ^^^ 2 ^ from_ * e ∧ e < 2 ^ k ∧ e % 2 = 1 ∧ Bts wr w.heap.size y ∧ Below w.heap.size w wr) (fun i _ => 32 - (intOf i).toNat)
  case atStart => exact ⟨1, 1, Pr.flip x from_, Nat.le_refl _, by omega, by omega, rfl, HL1.out, HH1.out, by decide, rfl, HT1.out, HB1.out⟩
  case round =>
    clear HB1 HT1 HH1 HL1
    obtain ⟨k, e, y, hk1, hk32, hke, rfl, hyl, hyh, he, heo, hbt, hb⟩ := hrel
    have HYH := hid hyh
    have HYL := hid hyl
    have HE := hid he
    have HBT := hid hbt
    have HB := hid hb
    have hylb : y.length ≤ x.length ∧ x.length ≤ y.length := by omega
    clear hyh hyl he hbt hb
    by_cases hgo : k < 32 ∧ from_ + k < end_
    · have hj0 : (from_ + k) / 8 < y.length := by omega
      obtain ⟨c0, z0⟩ := HBT.out.2 ((from_ + k) / 8) hj0
      have hg1 : (k : Int) < 32 := by omega
      have hg2 : (from_ : Int) + (k : Int) < (end_ : Int) := by omega
      have hq : ((from_ : Int) + (k : Int)).tdiv 8 = (((from_ + k) / 8 : Nat) : Int) := by rw [Int.tdiv_eq_ediv_of_nonneg (by omega)]; omega
      have hm : ((from_ : Int) + (k : Int)).tmod 8 = (((from_ + k) % 8 : Nat) : Int) := by rw [Int.tmod_eq_emod_of_nonneg (by omega)]; omega
      have hi1 : (((from_ + k) / 8 : Nat) : Int) < (x.length : Int) := by omega
      have hw1 : IntKind.i64.wrap ((from_ : Int) + (k : Int)) = (from_ : Int) + (k : Int) := IntWalk.i64_in _ ⟨by omega, by omega⟩
      cases hbit : ((bits / 2 ^ k).tmod 2 != 0)
      · have HE2 : Hid (e < 2 ^ (k + 1)) := by show _ < _; have := HE.out; rw [Nat.pow_succ]; omega
        go_wp2_with fail
        go_roundw
        case rel => exact ⟨k + 1, e, y, by omega, by omega, by omega, by go_num, HYL.out, HYH.out, HE2.out, heo, HBT.out, HB.out⟩
        case measure => simp [intOf]; omega
      · obtain ⟨t1, t2, t3, t4⟩ := Pr.turn_step HYL.out HYH.out HE.out heo hk1 (by omega)
        have T1 := hid t1
        have T2 := hid t2
        have T3 := hid t3
        have T4 := hid t4
        clear t1 t2 t3 t4
        have HB2 : Hid (Below w.heap.size w ((wr.setCell ⟨w.heap.size, (from_ + k) / 8, none⟩ (.int .u8 (Go.bits .xor .u8 ((y[(from_ + k) / 8]'hj0).toNat : Int) (2 ^ ((from_ + k) % 8) % 256)))).drew)) := (HB.out.setCell (p := ⟨w.heap.size, (from_ + k) / 8, none⟩) (Nat.le_refl _) _).drew
        have HT2 := hid (bts_flip HBT.out hj0)
        have hm8 : (from_ + k) % 8 < 8 := by omega
        go_wp2_with fail
        go_region
        generalize (wr.setCell ⟨w.heap.size, (from_ + k) / 8, none⟩ (.int .u8 (Go.bits .xor .u8 ((y[(from_ + k) / 8]'hj0).toNat : Int) (2 ^ ((from_ + k) % 8) % 256)))).drew = w2 at *
        go_wp2_with fail
        go_roundw
        case rel => exact ⟨k + 1, _, _, by omega, by omega, by omega, by go_num, T1.out, T2.out, T3.out, T4.out, HT2.out, HB2.out⟩
        case measure => simp [intOf]; omega
    · have hst : (convert 59 9 (.slice (some ⟨w.heap.size, 0, none⟩) x.length gc)).run Try.prog wr = .ok (.string ⟨y.toArray⟩) wr := by
        have := run_convert_bytes_back (P := Try.prog) wr 59 9 5 ⟨w.heap.size, 0, none⟩ gc y Try.underlying59 Try.underlying5 Try.underlying9 (fun j hj => by rw [add_at]; exact (HBT.out.2 j hj).1)
        rw [HYL.out] at this
        exact this
      have HQ : Hid (TurnQ x from_ end_ (.returned (.string ⟨y.toArray⟩))) := by
        refine ⟨y, e, rfl, HYL.out, HYH.out, heo, Nat.lt_of_lt_of_le HE.out (Nat.pow_le_pow_right (by decide) hk32), ?_⟩
        have a1 : 2 ^ from_ * e < 2 ^ from_ * 2 ^ k := Nat.mul_lt_mul_of_pos_left HE.out (Nat.two_pow_pos _)
        rw [← Nat.pow_add] at a1
        exact Nat.lt_of_lt_of_le a1 (Nat.pow_le_pow_right (by decide) hke)
      by_cases hk : k < 32
      · have hg1 : (k : Int) < 32 := by omega
        have hg2 : ¬ (from_ : Int) + (k : Int) < (end_ : Int) := by omega
        go_wp2_with fail
        go_ret
        exact ⟨HQ.out, HB.out⟩
      · have hg1 : ¬ (k : Int) < 32 := by omega
        go_wp2_with fail
        go_ret
        exact ⟨HQ.out, HB.out⟩
end Go.Proofs.Ytolgpnaoaodepaa
