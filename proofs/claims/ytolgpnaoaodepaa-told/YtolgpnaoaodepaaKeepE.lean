/- The walks of siltkeep's value, raw and change. -/
import Derived.Test.YtolgpnaoaodepaaKeepD
namespace Go.Proofs.Ytolgpnaoaodepaa
open Go.RowKit

set_option maxHeartbeats 1000000 in
set_option maxRecDepth 20000 in
theorem value_any (c : Int) (w : World) (h1 : -9223372036854775808 ≤ c) (h2 : c ≤ 9223372036854775807) :
    Calls Try.prog 31 #[.int .i64 c] w fun r w' => (∃ s : ByteArray, r = .returned (.string s) ∧ s.size ≤ 16) ∧ Below w.heap.size w w' := by
  have hn := pk_lt c 17 (by decide)
  have hq : -9223372036854775808 ≤ c.tdiv 17 ∧ c.tdiv 17 ≤ 9223372036854775807 := by
    by_cases hc : 0 ≤ c
    · rw [Int.tdiv_eq_ediv_of_nonneg hc]; omega
    · have e : c.tdiv 17 = -((-c).tdiv 17) := by rw [Int.neg_tdiv]; omega
      rw [e, Int.tdiv_eq_ediv_of_nonneg (by omega)]; omega
  have hn3 := pk_lt (c.tdiv 17) 3 (by decide)
  go_enter Try.func31, Try.ntmps31
  go_wp2_with fail
  go_loopw [3, 4] (fun s i wr => ∃ (k : Nat) (sb : ByteArray), k ≤ 17 ∧ i = .int .i64 k ∧ s = .string sb ∧ sb.size ≤ k ∧ k ≤ pk c 17 ∧ Below w.heap.size w wr) (fun _ i _ => 17 - (intOf i).toNat)
  case atStart => exact ⟨0, ⟨#[]⟩, by omega, rfl, rfl, Nat.le_refl 0, by omega, Below.refl _ _⟩
  case round =>
    obtain ⟨k, sb, hk, rfl, rfl, hsb, hkp, hb⟩ := hrel
    have HB := hid hb
    have hsz := hb.size
    clear hb
    have CP := hid (pick_any c 17 wr h1 h2 (by decide) (by decide))
    have CQ := hid (pick_any (c.tdiv 17) 3 wr hq.1 hq.2 (by decide) (by decide))
    generalize pk c 17 = p at *
    generalize pk (c.tdiv 17) 3 = q at *
    go_wp2_with fail
    refine CP.out.mono ?_
    rintro r w1 ⟨rfl, rfl⟩
    by_cases hkl : k < p
    · have hd : (k : Int) < (p : Int) := by omega
      go_wp2_with fail
      refine CQ.out.mono ?_
      rintro r w2 ⟨rfl, rfl⟩
      have hm : q * k ≤ 2 * 17 := Nat.mul_le_mul (by omega) hk
      have hm1 : (0 : Int) ≤ (q : Int) * (k : Int) := by rw [← Int.natCast_mul]; omega
      have hm2 : (q : Int) * (k : Int) ≤ 34 := by rw [← Int.natCast_mul]; omega
      have ht : ((q : Int) * (k : Int)).tmod 7 = (q : Int) * (k : Int) % 7 := Int.tmod_eq_emod_of_nonneg hm1
      have b0 : (0 : Int) ≤ 97 + (q : Int) * (k : Int) % 7 := by omega
      have b1 : (97 : Int) + (q : Int) * (k : Int) % 7 < 256 := by omega
      obtain ⟨s, hs, hcv⟩ := conv1 w2 (97 + (q : Int) * (k : Int) % 7) b0 b1
      have HB2 := hid (HB.out.alloc (by omega) (.cells #[.int .u8 (97 + (q : Int) * (k : Int) % 7)] 5))
      have e1 : ∀ w, (Op.stringOp .add sb s).run Try.prog w = .ok (.string (sb ++ s)) w := fun w => run_string_add_sum w _ _ (by omega)
      have hsum : (sb ++ s).size ≤ k + 1 := by rw [ByteArray.size_append]; omega
      go_wp2_with fail
      go_roundw
      case rel => exact ⟨k + 1, _, by omega, by go_num, rfl, hsum, by omega, HB2.out⟩
      case measure => simp [intOf]; omega
    · have hd : ¬ (k : Int) < (p : Int) := by omega
      go_wp2_with fail
      go_ret
      exact ⟨⟨sb, rfl, by omega⟩, HB.out⟩

theorem chg_cells {W : World} {b : Nat} {v0 v1 v2 : Value} (h : W.heap[b]? = some (.cells #[v0, v1, v2] 52 (0, 0))) : W.cell? ⟨b, 0, none⟩ = some v0 ∧ W.cell? ⟨b, 1, none⟩ = some v1 ∧ W.cell? ⟨b, 2, none⟩ = some v2 ∧ W.frozen? ⟨b, 0, none⟩ = false ∧ W.frozen? ⟨b, 1, none⟩ = false ∧ W.frozen? ⟨b, 2, none⟩ = false := by
  refine ⟨?_, ?_, ?_, ?_, ?_, ?_⟩ <;> simp [World.cell?, World.frozen?, h]
set_option maxHeartbeats 1000000 in
theorem change_any (a b c : Int) (w : World) (a1 : -9223372036854775808 ≤ a) (a2 : a ≤ 9223372036854775807) (b1 : -9223372036854775808 ≤ b) (b2 : b ≤ 9223372036854775807) (c1 : -9223372036854775808 ≤ c) (c2 : c ≤ 9223372036854775807) :
    Calls Try.prog 23 #[.int .i64 a, .int .i64 b, .int .i64 c] w fun r w' => (∃ (k : Int) (s v : ByteArray), r = .returned (.agg #[.int .i64 k, .string s, .string v]) ∧ Pg.okChange (k, s.data.toList, v.data.toList) = true) ∧ Below w.heap.size w w' := by
  have HB0 := hid ((Below.refl w.heap.size w).alloc (Nat.le_refl _) (.cells #[.int .i64 0, .string ⟨#[]⟩, .string ⟨#[]⟩] 52))
  have hs0 : w.heap.size < (w.alloc (.cells #[.int .i64 0, .string ⟨#[]⟩, .string ⟨#[]⟩] 52)).heap.size := by simp
  have HN0 : Hid ((w.alloc (.cells #[.int .i64 0, .string ⟨#[]⟩, .string ⟨#[]⟩] 52)).heap[w.heap.size]? = some (.cells #[.int .i64 0, .string ⟨#[]⟩, .string ⟨#[]⟩] 52 (0, 0))) := heap_alloc_new _ _
  have hk := pk_lt a 3 (by decide)
  go_enter Try.func23, Try.ntmps23
  go_wp2_with fail
  generalize w.alloc (.cells #[.int .i64 0, .string ⟨#[]⟩, .string ⟨#[]⟩] 52) = w0 at *
  refine (pick_any a 3 _ a1 a2 (by decide) (by decide)).mono ?_
  rintro r w1 ⟨rfl, rfl⟩
  generalize pk a 3 = p at *
  go_wp2_with fail
  refine (key_any b _ b1 b2).mono ?_
  rintro r w2 ⟨⟨s, rfl, hs1, hs2⟩, hb2⟩
  have HB2 := hid (HB0.out.trans (hb2.mono (by omega)))
  have HN2 := hid ((hb2.block w.heap.size hs0).trans HN0.out)
  have hz2 := hb2.size
  obtain ⟨kk, hkk⟩ : ∃ kk : Int, kk = 1 + (p : Int) := ⟨_, rfl⟩
  rw [← hkk]
  have hkb : 1 ≤ kk ∧ kk ≤ 3 := by omega
  clear hkk hk
  have HB3 := hid (HB2.out.alloc (by omega) (.cells #[.int .i64 kk, .string s, .string ⟨#[]⟩] 52))
  have HN3 := hid ((Below.heap_alloc w2 (.cells #[.int .i64 kk, .string s, .string ⟨#[]⟩] 52) w.heap.size (by omega)).trans HN2.out)
  have HM3 : Hid ((w2.alloc (.cells #[.int .i64 kk, .string s, .string ⟨#[]⟩] 52)).heap[w2.heap.size]? = some (.cells #[.int .i64 kk, .string s, .string ⟨#[]⟩] 52 (0, 0))) := heap_alloc_new _ _
  have hz3 : w2.heap.size < (w2.alloc (.cells #[.int .i64 kk, .string s, .string ⟨#[]⟩] 52)).heap.size := by simp
  have HQ : Hid (∀ v : ByteArray, v.size ≤ 16 → (kk = 2 → v.size = 0) → Pg.okChange (kk, s.data.toList, v.data.toList) = true) := fun v h1 h2 => by
    simp only [Pg.okChange, Pg.isChange, Pg.isKey, Bool.and_eq_true, Bool.or_eq_true, decide_eq_true_eq, len_size]
    refine ⟨⟨⟨hs1, hs2⟩, h1⟩, ?_⟩
    by_cases hp : kk = 2
    · exact .inr ⟨by omega, h2 hp⟩
    · left; omega
  clear hb2 HB0 HN0 HB2 HN2
  by_cases hp : kk = 2
  · have HQF := hid (HQ.out ⟨#[]⟩ (by decide) (fun _ => rfl))
    obtain ⟨n0, n1, n2, y0, y1, y2⟩ := chg_cells HN3.out
    obtain ⟨m0, m1, m2, z0, z1, z2⟩ := chg_cells HM3.out
    subst hp
    have HNF := hid (heap_setCell_at (i := 2) (heap_setCell_at (i := 1) (heap_setCell_at (i := 0) HN3.out (.int .i64 2)) (.string s)) (.string ⟨#[]⟩))
    have HBF := hid (((HB3.out.setCell (p := ⟨w.heap.size, 0, none⟩) (Nat.le_refl _) (.int .i64 2)).setCell (p := ⟨w.heap.size, 1, none⟩) (Nat.le_refl _) (.string s)).setCell (p := ⟨w.heap.size, 2, none⟩) (Nat.le_refl _) (.string ⟨#[]⟩))
    go_wp2_with fail
    refine bodyPost_ret (v := .agg #[.int .i64 2, .string s, .string ⟨#[]⟩]) ?_ rfl ⟨⟨2, s, ⟨#[]⟩, rfl, HQF.out⟩, HBF.out⟩
    obtain ⟨q0, q1, q2, -⟩ := chg_cells HNF.out
    simp [results, Try.results23, go_sem, q0, q1, q2]
  · obtain ⟨m0, m1, m2, z0, z1, z2⟩ := chg_cells HM3.out
    go_wp2_with fail
    generalize w2.alloc (.cells #[.int .i64 kk, .string s, .string ⟨#[]⟩] 52) = w3 at *
    refine (value_any c _ c1 c2).mono ?_
    rintro r w4 ⟨⟨v, rfl, hv⟩, hb4⟩
    have HQF := hid (HQ.out v hv (fun e => absurd e hp))
    have HM4 := hid ((hb4.block w2.heap.size hz3).trans HM3.out)
    have HN4 := hid ((hb4.block w.heap.size (by omega)).trans HN3.out)
    have HB4 := hid (HB3.out.trans (hb4.mono (by omega)))
    clear hb4 HB3 HN3 HM3 m0 m1 m2 z0 z1 z2
    obtain ⟨m0, m1, m2, z0, z1, z2⟩ := chg_cells HM4.out
    have HM5 := hid (heap_setCell_at (i := 2) HM4.out (.string v))
    have HN5 := hid ((Below.heap_setCell w4 ⟨w2.heap.size, 2, none⟩ (.string v) w.heap.size (by simp; omega)).trans HN4.out)
    have HB5 := hid (HB4.out.setCell (p := ⟨w2.heap.size, 2, none⟩) (by show w.heap.size ≤ w2.heap.size; omega) (.string v))
    obtain ⟨n0, n1, n2, y0, y1, y2⟩ := chg_cells HN5.out
    obtain ⟨m0', m1', m2', -, -, -⟩ := chg_cells HM5.out
    have HNF := hid (heap_setCell_at (i := 2) (heap_setCell_at (i := 1) (heap_setCell_at (i := 0) HN5.out (.int .i64 kk)) (.string s)) (.string v))
    have HBF := hid (((HB5.out.setCell (p := ⟨w.heap.size, 0, none⟩) (Nat.le_refl _) (.int .i64 kk)).setCell (p := ⟨w.heap.size, 1, none⟩) (Nat.le_refl _) (.string s)).setCell (p := ⟨w.heap.size, 2, none⟩) (Nat.le_refl _) (.string v))
    go_wp2_with fail
    refine bodyPost_ret (v := .agg #[.int .i64 kk, .string s, .string v]) ?_ rfl ⟨⟨kk, s, v, rfl, HQF.out⟩, HBF.out⟩
    obtain ⟨q0, q1, q2, -⟩ := chg_cells HNF.out
    simp [results, Try.results23, go_sem, q0, q1, q2]
end Go.Proofs.Ytolgpnaoaodepaa
