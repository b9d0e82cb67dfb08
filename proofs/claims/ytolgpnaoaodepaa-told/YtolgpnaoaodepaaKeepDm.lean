/- The walks of siltkeep's key, value, raw and change. -/
import Derived.Test.YtolgpnaoaodepaaKeepA
import Derived.Test.YtolgpnaoaodepaaMathLm
import Derived.Deep.DeepCutAuto
import Derived.Laws.AppendOwnNone
namespace Go.Proofs.Ytolgpnaoaodepaa
open Go.RowKit

theorem u8_of (p : Int) (h1 : 0 ≤ p) (h2 : p < 256) : ((UInt8.ofNat p.toNat).toNat : Int) = p := by rw [UInt8.toNat_ofNat']; omega
theorem conv2 (w : World) (p q : Int) (h1 : 0 ≤ p) (h2 : p < 256) (h3 : 0 ≤ q) (h4 : q < 256) : ∃ s : ByteArray, s.size = 2 ∧ (convert 59 9 (.slice (some ⟨w.heap.size, 0, none⟩) 2 2)).run Try.prog (w.alloc (.cells #[.int .u8 p, .int .u8 q] 5)) = .ok (.string s) (w.alloc (.cells #[.int .u8 p, .int .u8 q] 5)) := by
  refine ⟨⟨#[UInt8.ofNat p.toNat, UInt8.ofNat q.toNat]⟩, rfl, ?_⟩
  have e := heap_alloc_new w (.cells #[.int .u8 p, .int .u8 q] 5)
  refine run_convert_bytes_back (P := Try.prog) _ 59 9 5 ⟨w.heap.size, 0, none⟩ 2 [UInt8.ofNat p.toNat, UInt8.ofNat q.toNat] Try.underlying59 Try.underlying5 Try.underlying9 (fun j hj => ?_)
  rw [add_at]
  match j, hj with
  | 0, _ => unfold World.cell?; rw [e]; show some (Value.int .u8 p) = some (Value.int .u8 ((UInt8.ofNat p.toNat).toNat : Int)); rw [u8_of p h1 h2]
  | 1, _ => unfold World.cell?; rw [e]; show some (Value.int .u8 q) = some (Value.int .u8 ((UInt8.ofNat q.toNat).toNat : Int)); rw [u8_of q h3 h4]
theorem conv1 (w : World) (p : Int) (h1 : 0 ≤ p) (h2 : p < 256) : ∃ s : ByteArray, s.size = 1 ∧ (convert 59 9 (.slice (some ⟨w.heap.size, 0, none⟩) 1 1)).run Try.prog (w.alloc (.cells #[.int .u8 p] 5)) = .ok (.string s) (w.alloc (.cells #[.int .u8 p] 5)) := by
  refine ⟨⟨#[UInt8.ofNat p.toNat]⟩, rfl, ?_⟩
  have e := heap_alloc_new w (.cells #[.int .u8 p] 5)
  refine run_convert_bytes_back (P := Try.prog) _ 59 9 5 ⟨w.heap.size, 0, none⟩ 1 [UInt8.ofNat p.toNat] Try.underlying59 Try.underlying5 Try.underlying9 (fun j hj => ?_)
  rw [add_at]
  match j, hj with
  | 0, _ => unfold World.cell?; rw [e]; show some (Value.int .u8 p) = some (Value.int .u8 ((UInt8.ofNat p.toNat).toNat : Int)); rw [u8_of p h1 h2]

set_option maxHeartbeats 1000000 in
set_option maxRecDepth 20000 in
theorem key_any (c : Int) (w : World) (h1 : -9223372036854775808 ≤ c) (h2 : c ≤ 9223372036854775807) :
    Calls Try.prog 14 #[.int .i64 c] w fun r w' => (∃ s : ByteArray, r = .returned (.string s) ∧ 1 ≤ s.size ∧ s.size ≤ 12) ∧ Below w.heap.size w w' := by
  have HC := hid (pick_any c 150 w h1 h2 (by decide) (by decide))
  have hn := pk_lt c 150 (by decide)
  generalize pk c 150 = n at *
  go_enter Try.func14, Try.ntmps14
  go_wp2_with fail
  refine HC.out.mono ?_
  rintro r w1 ⟨rfl, rfl⟩
  have t1 : (n : Int).tmod 5 = ((n % 5 : Nat) : Int) := by rw [Int.tmod_eq_emod_of_nonneg (by omega)]; omega
  have t2 : (n : Int).tdiv 5 = ((n / 5 : Nat) : Int) := by rw [Int.tdiv_eq_ediv_of_nonneg (by omega)]; omega
  have t3 : ((n / 5 : Nat) : Int).tmod 6 = ((n / 5 % 6 : Nat) : Int) := by rw [Int.tmod_eq_emod_of_nonneg (by omega)]; omega
  have t4 : (n : Int).tdiv 30 = ((n / 30 : Nat) : Int) := by rw [Int.tdiv_eq_ediv_of_nonneg (by omega)]; omega
  have b1 : n % 5 < 5 := by omega
  have b2 : n / 5 % 6 < 6 := by omega
  generalize n % 5 = x at *
  have b3 : (0 : Int) ≤ 97 + (n : Int) / 5 % 6 ∧ (97 : Int) + (n : Int) / 5 % 6 < 256 := by omega
  obtain ⟨s, hs, hcv⟩ := conv2 w1 (97 + (x : Int)) (97 + (n : Int) / 5 % 6) (by omega) (by omega) b3.1 b3.2
  have HB1 := hid ((Below.refl w1.heap.size w1).alloc (Nat.le_refl _) (.cells #[.int .u8 (97 + (x : Int)), .int .u8 (97 + (n : Int) / 5 % 6)] 5))
  by_cases h30 : 30 ≤ n
  · have hi30 : (30 : Int) ≤ (n : Int) := by omega
    have key : ∀ (k : ByteArray), k.size ≤ 10 → ∀ w, (Op.stringOp .add s k).run Try.prog w = .ok (.string (s ++ k)) w := fun k hk w => run_string_add_sum w _ _ (by omega)
    have fin : ∀ (k : ByteArray), k.size ≤ 10 → 1 ≤ (s ++ k).size ∧ (s ++ k).size ≤ 12 := fun k hk => by rw [ByteArray.size_append]; omega
    obtain h | h | h | h : n / 30 = 1 ∨ n / 30 = 2 ∨ n / 30 = 3 ∨ n / 30 = 4 := by omega
    all_goals
      have hd : (n : Int) / 30 = ((n / 30 : Nat) : Int) := by omega
      rw [h] at hd t4
      have k1 := key ⟨#[98, 99, 100, 101, 102, 103, 104, 105, 106, 107]⟩ (by decide)
      have k2 := key ⟨#[0]⟩ (by decide)
      have k3 := key ⟨#[120, 120]⟩ (by decide)
      have k4 := key ⟨#[120, 121]⟩ (by decide)
      have FIN := hid fin
      clear key fin h
      go_wp2_with fail
      go_ret
      refine ⟨⟨_, rfl, ?_⟩, HB1.out.alloc (by simp) _⟩
      exact FIN.out _ (by decide)
  · have hi30 : ¬ (30 : Int) ≤ (n : Int) := by omega
    go_wp2_with fail
    go_ret
    exact ⟨⟨s, rfl, by omega, by omega⟩, HB1.out⟩
end Go.Proofs.Ytolgpnaoaodepaa
/- The walks of siltkeep's value, raw and change. -/
namespace Go.Proofs.Ytolgpnaoaodepaa
open Go.RowKit

set_option maxHeartbeats 1000000 in
set_option maxRecDepth 20000 in
theorem value_any (c : Int) (w : World) (h1 : -9223372036854775808 ≤ c) (h2 : c ≤ 9223372036854775807) :
    Calls Try.prog 31 #[.int .i64 c] w fun r w' => (∃ s : ByteArray, r = .returned (.string s) ∧ s.size ≤ 16) ∧ Below w.heap.size w w' := by
  have hn := pk_lt c 17 (by decide)
  have hq : -9223372036854775808 ≤ c.tdiv 17 ∧ c.tdiv 17 ≤ 9223372036854775807 := by
    by_cases hc : 0 ≤ c
    · rw [Int.tdiv_eq_ediv_of_nonneg hc]; omega
    · have e : c.tdiv 17 = -((-c).tdiv 17) := by rw [Int.neg_tdiv]; omega
      rw [e, Int.tdiv_eq_ediv_of_nonneg (by omega)]; omega
  have hn3 := pk_lt (c.tdiv 17) 3 (by decide)
  go_enter Try.func31, Try.ntmps31
  go_wp2_with fail
  go_loopw [3, 4] (fun s i wr => ∃ (k : Nat) (sb : ByteArray), k ≤ 17 ∧ i = .int .i64 k ∧ s = .string sb ∧ sb.size ≤ k ∧ k ≤ pk c 17 ∧ Below w.heap.size w wr) (fun _ i _ => 17 - (intOf i).toNat)
  case atStart => exact ⟨0, ⟨#[]⟩, by omega, rfl, rfl, Nat.le_refl 0, by omega, Below.refl _ _⟩
  case round =>
    obtain ⟨k, sb, hk, rfl, rfl, hsb, hkp, hb⟩ := hrel
    have HB := hid hb
    have hsz := hb.size
    clear hb
    have CP := hid (pick_any c 17 wr h1 h2 (by decide) (by decide))
    have CQ := hid (pick_any (c.tdiv 17) 3 wr hq.1 hq.2 (by decide) (by decide))
    generalize pk c 17 = p at *
    generalize pk (c.tdiv 17) 3 = q at *
    go_wp2_with fail
    refine CP.out.mono ?_
    rintro r w1 ⟨rfl, rfl⟩
    by_cases hkl : k < p
    · have hd : (k : Int) < (p : Int) := by omega
      go_wp2_with fail
      refine CQ.out.mono ?_
      rintro r w2 ⟨rfl, rfl⟩
      have hm : q * k ≤ 2 * 17 := Nat.mul_le_mul (by omega) hk
      have hm1 : (0 : Int) ≤ (q : Int) * (k : Int) := by rw [← Int.natCast_mul]; omega
      have hm2 : (q : Int) * (k : Int) ≤ 34 := by rw [← Int.natCast_mul]; omega
      have ht : ((q : Int) * (k : Int)).tmod 7 = (q : Int) * (k : Int) % 7 := Int.tmod_eq_emod_of_nonneg hm1
      have b0 : (0 : Int) ≤ 97 + (q : Int) * (k : Int) % 7 := by omega
      have b1 : (97 : Int) + (q : Int) * (k : Int) % 7 < 256 := by omega
      obtain ⟨s, hs, hcv⟩ := conv1 w2 (97 + (q : Int) * (k : Int) % 7) b0 b1
      have HB2 := hid (HB.out.alloc (by omega) (.cells #[.int .u8 (97 + (q : Int) * (k : Int) % 7)] 5))
      have e1 : ∀ w, (Op.stringOp .add sb s).run Try.prog w = .ok (.string (sb ++ s)) w := fun w => run_string_add_sum w _ _ (by omega)
      have hsum : (sb ++ s).size ≤ k + 1 := by rw [ByteArray.size_append]; omega
      go_wp2_with fail
      go_roundw
      case rel => exact ⟨k + 1, _, by omega, by go_num, rfl, hsum, by omega, HB2.out⟩
      case measure => simp [intOf]; omega
    · have hd : ¬ (k : Int) < (p : Int) := by omega
      go_wp2_with fail
      go_ret
      exact ⟨⟨sb, rfl, by omega⟩, HB.out⟩

theorem chg_cells {W : World} {b : Nat} {v0 v1 v2 : Value} (h : W.heap[b]? = some (.cells #[v0, v1, v2] 52 (0, 0))) : W.cell? ⟨b, 0, none⟩ = some v0 ∧ W.cell? ⟨b, 1, none⟩ = some v1 ∧ W.cell? ⟨b, 2, none⟩ = some v2 ∧ W.frozen? ⟨b, 0, none⟩ = false ∧ W.frozen? ⟨b, 1, none⟩ = false ∧ W.frozen? ⟨b, 2, none⟩ = false := by
  refine ⟨?_, ?_, ?_, ?_, ?_, ?_⟩ <;> simp [World.cell?, World.frozen?, h]
set_option maxHeartbeats 1000000 in
theorem change_any (a b c : Int) (w : World) (a1 : -9223372036854775808 ≤ a) (a2 : a ≤ 9223372036854775807) (b1 : -9223372036854775808 ≤ b) (b2 : b ≤ 9223372036854775807) (c1 : -9223372036854775808 ≤ c) (c2 : c ≤ 9223372036854775807) :
    Calls Try.prog 23 #[.int .i64 a, .int .i64 b, .int .i64 c] w fun r w' => (∃ (k : Int) (s v : ByteArray), r = .returned (.agg #[.int .i64 k, .string s, .string v]) ∧ Pg.okChange (k, s.data.toList, v.data.toList) = true) ∧ Below w.heap.size w w' := by
  have HB0 := hid ((Below.refl w.heap.size w).alloc (Nat.le_refl _) (.cells #[.int .i64 0, .string ⟨#[]⟩, .string ⟨#[]⟩] 52))
  have hs0 : w.heap.size < (w.alloc (.cells #[.int .i64 0, .string ⟨#[]⟩, .string ⟨#[]⟩] 52)).heap.size := by simp
  have HN0 : Hid ((w.alloc (.cells #[.int .i64 0, .string ⟨#[]⟩, .string ⟨#[]⟩] 52)).heap[w.heap.size]? = some (.cells #[.int .i64 0, .string ⟨#[]⟩, .string ⟨#[]⟩] 52 (0, 0))) := heap_alloc_new _ _
  have hk := pk_lt a 3 (by decide)
  go_enter Try.func23, Try.ntmps23
  go_wp2_with fail
  generalize w.alloc (.cells #[.int .i64 0, .string ⟨#[]⟩, .string ⟨#[]⟩] 52) = w0 at *
  refine (pick_any a 3 _ a1 a2 (by decide) (by decide)).mono ?_
  rintro r w1 ⟨rfl, rfl⟩
  generalize pk a 3 = p at *
  go_wp2_with fail
  refine (key_any b _ b1 b2).mono ?_
  rintro r w2 ⟨⟨s, rfl, hs1, hs2⟩, hb2⟩
  have HB2 := hid (HB0.out.trans (hb2.mono (by omega)))
  have HN2 := hid ((hb2.block w.heap.size hs0).trans HN0.out)
  have hz2 := hb2.size
  obtain ⟨kk, hkk⟩ : ∃ kk : Int, kk = 1 + (p : Int) := ⟨_, rfl⟩
  rw [← hkk]
  have hkb : 1 ≤ kk ∧ kk ≤ 3 := by omega
  clear hkk hk
  have HB3 := hid (HB2.out.alloc (by omega) (.cells #[.int .i64 kk, .string s, .string ⟨#[]⟩] 52))
  have HN3 := hid ((Below.heap_alloc w2 (.cells #[.int .i64 kk, .string s, .string ⟨#[]⟩] 52) w.heap.size (by omega)).trans HN2.out)
  have HM3 : Hid ((w2.alloc (.cells #[.int .i64 kk, .string s, .string ⟨#[]⟩] 52)).heap[w2.heap.size]? = some (.cells #[.int .i64 kk, .string s, .string ⟨#[]⟩] 52 (0, 0))) := heap_alloc_new _ _
  have hz3 : w2.heap.size < (w2.alloc (.cells #[.int .i64 kk, .string s, .string ⟨#[]⟩] 52)).heap.size := by simp
  have HQ : Hid (∀ v : ByteArray, v.size ≤ 16 → (kk = 2 → v.size = 0) → Pg.okChange (kk, s.data.toList, v.data.toList) = true) := fun v h1 h2 => by
    simp only [Pg.okChange, Pg.isChange, Pg.isKey, Bool.and_eq_true, Bool.or_eq_true, decide_eq_true_eq, len_size]
    refine ⟨⟨⟨hs1, hs2⟩, h1⟩, ?_⟩
    by_cases hp : kk = 2
    · exact .inr ⟨by omega, h2 hp⟩
    · left; omega
  clear hb2 HB0 HN0 HB2 HN2
  by_cases hp : kk = 2
  · have HQF := hid (HQ.out ⟨#[]⟩ (by decide) (fun _ => rfl))
    obtain ⟨n0, n1, n2, y0, y1, y2⟩ := chg_cells HN3.out
    obtain ⟨m0, m1, m2, z0, z1, z2⟩ := chg_cells HM3.out
    subst hp
    have HNF := hid (heap_setCell_at (i := 2) (heap_setCell_at (i := 1) (heap_setCell_at (i := 0) HN3.out (.int .i64 2)) (.string s)) (.string ⟨#[]⟩))
    have HBF := hid (((HB3.out.setCell (p := ⟨w.heap.size, 0, none⟩) (Nat.le_refl _) (.int .i64 2)).setCell (p := ⟨w.heap.size, 1, none⟩) (Nat.le_refl _) (.string s)).setCell (p := ⟨w.heap.size, 2, none⟩) (Nat.le_refl _) (.string ⟨#[]⟩))
    go_wp2_with fail
    refine bodyPost_ret (v := .agg #[.int .i64 2, .string s, .string ⟨#[]⟩]) ?_ rfl ⟨⟨2, s, ⟨#[]⟩, rfl, HQF.out⟩, HBF.out⟩
    obtain ⟨q0, q1, q2, -⟩ := chg_cells HNF.out
    simp [results, Try.results23, go_sem, q0, q1, q2]
  · obtain ⟨m0, m1, m2, z0, z1, z2⟩ := chg_cells HM3.out
    go_wp2_with fail
    generalize w2.alloc (.cells #[.int .i64 kk, .string s, .string ⟨#[]⟩] 52) = w3 at *
    refine (value_any c _ c1 c2).mono ?_
    rintro r w4 ⟨⟨v, rfl, hv⟩, hb4⟩
    have HQF := hid (HQ.out v hv (fun e => absurd e hp))
    have HM4 := hid ((hb4.block w2.heap.size hz3).trans HM3.out)
    have HN4 := hid ((hb4.block w.heap.size (by omega)).trans HN3.out)
    have HB4 := hid (HB3.out.trans (hb4.mono (by omega)))
    clear hb4 HB3 HN3 HM3 m0 m1 m2 z0 z1 z2
    obtain ⟨m0, m1, m2, z0, z1, z2⟩ := chg_cells HM4.out
    have HM5 := hid (heap_setCell_at (i := 2) HM4.out (.string v))
    have HN5 := hid ((Below.heap_setCell w4 ⟨w2.heap.size, 2, none⟩ (.string v) w.heap.size (by simp; omega)).trans HN4.out)
    have HB5 := hid (HB4.out.setCell (p := ⟨w2.heap.size, 2, none⟩) (by show w.heap.size ≤ w2.heap.size; omega) (.string v))
    obtain ⟨n0, n1, n2, y0, y1, y2⟩ := chg_cells HN5.out
    obtain ⟨m0', m1', m2', -, -, -⟩ := chg_cells HM5.out
    have HNF := hid (heap_setCell_at (i := 2) (heap_setCell_at (i := 1) (heap_setCell_at (i := 0) HN5.out (.int .i64 kk)) (.string s)) (.string v))
    have HBF := hid (((HB5.out.setCell (p := ⟨w.heap.size, 0, none⟩) (Nat.le_refl _) (.int .i64 kk)).setCell (p := ⟨w.heap.size, 1, none⟩) (Nat.le_refl _) (.string s)).setCell (p := ⟨w.heap.size, 2, none⟩) (Nat.le_refl _) (.string v))
    go_wp2_with fail
    refine bodyPost_ret (v := .agg #[.int .i64 kk, .string s, .string v]) ?_ rfl ⟨⟨kk, s, v, rfl, HQF.out⟩, HBF.out⟩
    obtain ⟨q0, q1, q2, -⟩ := chg_cells HNF.out
    simp [results, Try.results23, go_sem, q0, q1, q2]
end Go.Proofs.Ytolgpnaoaodepaa
/- The walk of siltkeep's leaf. -/
namespace Go.Proofs.Ytolgpnaoaodepaa
open Go.RowKit

/-- A row of numbers that was handed in. -/
def IsInts (w : World) (v : Value) (l : List Int) : Prop := ∃ a cap, v = .slice a l.length cap ∧ l.length ≤ 1000000000000000000 ∧ (∀ x ∈ l, -9223372036854775808 ≤ x ∧ x ≤ 9223372036854775807) ∧ (l.length = 0 ∨ ∃ b off, a = some ⟨b, off, none⟩ ∧ b < w.heap.size ∧ ∀ i (h : i < l.length), w.cell? ⟨b, off + i, none⟩ = some (.int .i64 (l[i]'h)))
theorem IsInts.below {w w' : World} {v : Value} {l : List Int} (h : IsInts w v l) (hb : Below w.heap.size w w') : IsInts w' v l := by
  obtain ⟨a, cap, h1, h2, h3, h4⟩ := h
  refine ⟨a, cap, h1, h2, h3, h4.imp_right ?_⟩
  rintro ⟨b, off, e, hlt, hc⟩
  exact ⟨b, off, e, Nat.lt_of_lt_of_le hlt hb.size, fun i hi => by rw [hb.cell (p := ⟨b, _, none⟩) hlt]; exact hc i hi⟩
theorem IsInts.at {w : World} {a : Option Addr} {cap : Nat} {l : List Int} (h : IsInts w (.slice a l.length cap) l) (i : Nat) (hi : i < l.length) : ∃ b off, a = some ⟨b, off, none⟩ ∧ b < w.heap.size ∧ w.cell? ⟨b, off + i, none⟩ = some (.int .i64 (l[i]'hi)) ∧ -9223372036854775808 ≤ l[i]'hi ∧ l[i]'hi ≤ 9223372036854775807 := by
  obtain ⟨a', cap', h1, h2, h3, h4⟩ := h
  injection h1 with e1 e2 e3
  subst e1 e3
  rcases h4 with h4 | ⟨b, off, e, hlt, hc⟩
  · omega
  · exact ⟨b, off, e, hlt, hc i hi, h3 _ (List.getElem_mem hi)⟩

theorem itm_cells {W : World} {b : Nat} {v0 v1 : Value} (h : W.heap[b]? = some (.cells #[v0, v1] 43 (0, 0))) : W.cell? ⟨b, 0, none⟩ = some v0 ∧ W.cell? ⟨b, 1, none⟩ = some v1 ∧ W.frozen? ⟨b, 0, none⟩ = false ∧ W.frozen? ⟨b, 1, none⟩ = false := by
  refine ⟨?_, ?_, ?_, ?_⟩ <;> simp [World.cell?, World.frozen?, h]
theorem new_kept {w w' : World} {o : Obj} (h : Below (w.alloc o).heap.size (w.alloc o) w') : w'.heap[w.heap.size]? = (w.alloc o).heap[w.heap.size]? := h.block _ (by simp)
theorem grown_refl (w : World) (r : Option Nat) : w.grownBy w r := ⟨rfl, rfl, rfl, Nat.le_refl _, fun _ _ _ => rfl⟩
/-- append(v, x...), x a row of items, or nil. -/
theorem wpApI (w : World) {ops : Array Oper} {rest : List Oper} {o : Oper} {a : Act} {Q : Exit → Act → World → Prop} (hgd : o.guard = none) (sl x : Operand)
    (ho : o.op = Op.call { callee := Callee.builtin Builtin.append, args := #[sl, x], argTypes := #[30, 30] }) (B : Nat) (v : Value) (l : List (ByteArray × ByteArray)) (hs : a.eval sl = v) (hown : OwnsI B w v l)
    (xv : Value) (xl : List (ByteArray × ByteArray)) (hx : a.eval x = xv) (hsrc : (xv = .slice none 0 0 ∧ xl = []) ∨ ∃ ad cap, xv = .slice (some ad) xl.length cap ∧ ∀ j u, (icells xl)[j]? = some u → w.cell? (ad.add j) = some u) (hb : l.length + xl.length ≤ 1000000000) (hB : B ≤ w.heap.size)
    (h : ∀ (v' : Value) (w' : World), OwnsI B w' v' (l ++ xl) → w.grownBy w' v.ownBlock → wpList Try.prog ops Q rest (a.put o.dst v') w') : wpList Try.prog ops Q (o :: rest) a w := by
  obtain ⟨i, hi, hz0, hz1, hz2⟩ := info_parts info_item
  rcases hsrc with ⟨rfl, rfl⟩ | ⟨ad, cap, rfl, hc⟩
  · refine wpList_append_own_none hgd sl x 30 ho B 43 i 2 Try.underlying30 hi v l.length (icells l) hs hown hx ?_
    exact h v w (by rw [List.append_nil]; exact hown) (grown_refl _ _)
  · refine wpList_append_own_at w hgd sl x 30 ho B 43 i (.agg #[.string ⟨#[]⟩, .string ⟨#[]⟩]) 2 32 Try.underlying30 hi hz0 hz1 hz2 rfl (by decide) v l.length (icells l) hs hown ad xl.length cap (icells xl) hx (icells_len xl) hc (icells_one xl) (by unfold maxLen; omega) (by omega) hB ?_
    intro v' w' ho' hg _ _
    refine h v' w' ?_ hg
    unfold OwnsI
    rw [List.length_append, icells_app]
    exact ho'
theorem fine_insert (a b : Pr.Its) (x : List UInt8 × List UInt8) (hf : Pr.Fine (a ++ b)) (hx1 : Pg.isKey x.1.length = true) (hx2 : x.2.length ≤ 16) (ha : ∀ y ∈ a, y.1 < x.1) (hb : ∀ y ∈ b, x.1 < y.1) : Pr.Fine (a ++ [x] ++ b) := by
  obtain ⟨h1, h2⟩ := hf
  rw [List.pairwise_append] at h2
  refine ⟨fun y hy => ?_, ?_⟩
  · rw [List.append_assoc] at hy
    rcases List.mem_append.1 hy with h | h
    · exact h1 y (by simp [h])
    · rcases List.mem_append.1 h with h | h
      · rw [List.mem_singleton.1 h]; exact ⟨hx1, hx2⟩
      · exact h1 y (by simp [h])
  · rw [List.append_assoc, List.pairwise_append]
    refine ⟨h2.1, ?_, ?_⟩
    · rw [List.singleton_append, List.pairwise_cons]; exact ⟨hb, h2.2.1⟩
    · intro y hy z hz
      rcases List.mem_append.1 hz with h | h
      · rw [List.mem_singleton.1 h]; exact ha y hy
      · exact h2.2.2 y hy z h
theorem plain_insert {il : List (ByteArray × ByteArray)} {s t : ByteArray} (hf : Pr.Fine (plain il)) (hs1 : 1 ≤ s.size) (hs2 : s.size ≤ 12) (ht : t.size ≤ 16) (j : Nat) (ha : ∀ y ∈ il.take j, y.1.data.toList < s.data.toList) (hb : ∀ y ∈ il.drop j, s.data.toList < y.1.data.toList) : Pr.Fine (plain (il.take j ++ [(s, t)] ++ il.drop j)) := by
  rw [plain_app, plain_app]
  refine fine_insert _ _ (s.data.toList, t.data.toList) (by rw [← plain_app, List.take_append_drop]; exact hf) ?_ (by rw [len_size]; exact ht) ?_ ?_
  · simp only [Pg.isKey, len_size, Bool.and_eq_true, decide_eq_true_eq]; exact ⟨hs1, hs2⟩
  · intro y hy
    obtain ⟨z, hz, rfl⟩ := List.mem_map.1 hy
    exact ha z hz
  · intro y hy
    obtain ⟨z, hz, rfl⟩ := List.mem_map.1 hy
    exact hb z hz
theorem later {il : List (ByteArray × ByteArray)} {s : List UInt8} (hf : Pr.Fine (plain il)) (j : Nat) (hj : j < il.length) (h : s < (il[j]'hj).1.data.toList) : ∀ y ∈ il.drop j, s < y.1.data.toList := by
  intro y hy
  rw [List.drop_eq_getElem_cons hj] at hy
  rcases List.mem_cons.1 hy with rfl | hy
  · exact h
  · have hp : (il.drop j).Pairwise fun x y => x.1.data.toList < y.1.data.toList := by
      have := hf.2
      unfold plain at this
      rw [List.pairwise_map] at this
      exact this.sublist (List.drop_sublist _ _)
    rw [List.drop_eq_getElem_cons hj, List.pairwise_cons] at hp
    exact Pr.lt_tr h (hp.1 y hy)
theorem icells_get_left {a b : List (ByteArray × ByteArray)} {j : Nat} {u : Value} (h : (icells a)[j]? = some u) : (icells (a ++ b))[j]? = some u := by
  rw [icells_app, List.getElem?_append_left (List.getElem?_eq_some_iff.1 h).1]; exact h
theorem icells_get_right {a b : List (ByteArray × ByteArray)} {j : Nat} {u : Value} (h : (icells b)[j]? = some u) : (icells (a ++ b))[a.length * 2 + j]? = some u := by
  rw [icells_app, ← icells_len, List.getElem?_append_right (by omega), Nat.add_sub_cancel_left]; exact h
theorem add_off (g off j : Nat) : (⟨g, off, none⟩ : Addr).add j = ⟨g, off + j, none⟩ := by
  by_cases h0 : j = 0
  · subst h0; simp [Addr.add]
  · simp [Addr.add, h0]
theorem src_take {B : Nat} {w : World} {g n c : Nat} {il : List (ByteArray × ByteArray)} (h : OwnsI B w (.slice (some ⟨g, 0, none⟩) n c) il) (j : Nat) : ∀ i u, (icells (il.take j))[i]? = some u → w.cell? ((⟨g, 0, none⟩ : Addr).add i) = some u := fun i u hi =>
  World.ownsRow.cells h rfl i u (by have := icells_get_left (b := il.drop j) hi; rwa [List.take_append_drop] at this)
theorem src_drop {B : Nat} {w : World} {g n c : Nat} {il : List (ByteArray × ByteArray)} (h : OwnsI B w (.slice (some ⟨g, 0, none⟩) n c) il) (j : Nat) (hj : j ≤ il.length) : ∀ i u, (icells (il.drop j))[i]? = some u → w.cell? ((⟨g, j * 2, none⟩ : Addr).add i) = some u := fun i u hi => by
  have := icells_get_right (a := il.take j) hi
  rw [List.take_append_drop, List.length_take, Nat.min_eq_left hj] at this
  have := World.ownsRow.cells h rfl _ u this
  rw [add_off] at this ⊢
  rw [Nat.zero_add] at this
  exact this
def LeafQ (w : World) (r : Ending) (w' : World) : Prop := (∃ il v, r = .returned v ∧ OwnsI w.heap.size w' v il ∧ il.length ≤ 16 ∧ Pr.Fine (plain il)) ∧ Below w.heap.size w w'
set_option maxHeartbeats 4000000 in
set_option maxRecDepth 20000 in
theorem leaf_any (v : Value) (l : List Int) (w : World) (hv : IsInts w v l) :
    Calls Try.prog 16 #[v] w fun r w' => LeafQ w r w' := by
  have HV := hid hv
  obtain ⟨va, vc, rfl, hl18, -, -⟩ := hv
  go_enter Try.func16, Try.ntmps16
  go_wp2_with fail
  go_loopw [3, 4] (fun o i wr => ∃ (k : Nat) (il : List (ByteArray × ByteArray)), 2 * k ≤ l.length + 1 ∧ i = .int .i64 k ∧ il.length ≤ 16 ∧ OwnsI w.heap.size wr o il ∧ Pr.Fine (plain il) ∧ Below w.heap.size w wr) (fun _ i _ => l.length + 1 - (intOf i).toNat)
  case atStart => exact ⟨0, [], by omega, rfl, by simp, World.ownsRow_nil _ _ _ _, ⟨by simp [plain], by simp [plain]⟩, Below.refl _ _⟩
  case round =>
    obtain ⟨k, il, hk, rfl, hil, ho, hf, hb⟩ := hrel
    have HO := hid ho
    have HF := hid hf
    have HB := hid hb
    have hsz := hb.size
    obtain ⟨oa, oc, rfl⟩ := rowShape ho
    clear ho hf hb
    by_cases hgo : 2 * k + 1 < l.length ∧ il.length < 16
    · obtain ⟨hg1, hg2⟩ := hgo
      obtain ⟨b, off, rfl, hbl, c0, x1, x2⟩ := HV.out.at (2 * k) (by omega)
      generalize hx : l[2 * k]'(by omega) = x at *
      obtain ⟨b', off', e, -, c1, y1, y2⟩ := HV.out.at (2 * k + 1) hg1
      generalize hy : l[2 * k + 1]'hg1 = y at *
      clear hx hy
      injection e with e; injection e with e1 e2
      subst e1 e2
      rw [show 2 * k = (2 * (k : Int)).toNat by omega] at c0
      rw [show 2 * k + 1 = (2 * (k : Int) + 1).toNat by omega] at c1
      have c0 := (HB.out.cell (p := ⟨b, off + (2 * (k : Int)).toNat, none⟩) hbl).trans c0
      have c1 := (HB.out.cell (p := ⟨b, off + (2 * (k : Int) + 1).toNat, none⟩) hbl).trans c1
      have hi1 : (2 : Int) * (k : Int) + 1 < (l.length : Int) := by omega
      have hi2 : (il.length : Int) < 16 := by omega
      have hi3 : (2 : Int) * (k : Int) < (l.length : Int) := by omega
      have hi4 : (0 : Int) ≤ 2 * (k : Int) := by omega
      have hi5 : (0 : Int) ≤ 2 * (k : Int) + 1 := by omega
      have B0 : Below wr.heap.size wr wr.drew := (Below.refl wr.heap.size wr).drew
      have hbr : b < wr.heap.size := by omega
      have hw1 : IntKind.i64.wrap (2 * (k : Int)) = 2 * (k : Int) := IntWalk.i64_in _ ⟨by omega, by omega⟩
      have hw2 : IntKind.i64.wrap (2 * (k : Int) + 1) = 2 * (k : Int) + 1 := IntWalk.i64_in _ ⟨by omega, by omega⟩
      have c0a : ∀ o, (wr.drew.alloc o).cell? ⟨b, off + (2 * (k : Int)).toNat, none⟩ = some (.int .i64 x) := fun o => (World.cell?_alloc_past _ _ _ hbr).trans c0
      have c1a : ∀ o, (wr.drew.alloc o).cell? ⟨b, off + (2 * (k : Int) + 1).toNat, none⟩ = some (.int .i64 y) := fun o => (World.cell?_alloc_past _ _ _ hbr).trans c1
      go_wp2_with fail
      go_cut [5] (fun s5 wx => ∃ (xb : Nat) (s t : ByteArray), s5 = .pointer (some ⟨xb, 0, none⟩) ∧ wr.heap.size ≤ xb ∧ wx.heap[xb]? = some (.cells #[.string s, .string t] 43 (0, 0)) ∧ Below wr.heap.size wr wx ∧ 1 ≤ s.size ∧ s.size ≤ 12 ∧ t.size ≤ 16)
      case first =>
        go_region_law (first
          | (go_simp
             refine (key_any x _ x1 x2).mono ?_
             rintro r wk ⟨⟨s, rfl, hs1, hs2⟩, hbk⟩
             have BRK : Hid (Below wr.heap.size wr wk) := by
               first
               | exact B0.trans (hbk.mono (Nat.le_refl _))
               | exact (B0.alloc (Nat.le_refl _) _).trans (hbk.mono (by simp))
             try have hxk := (new_kept (w := wr.drew) hbk).trans (heap_alloc_new _ _)
             have hsk := hbk.size
             have hsk2 := BRK.out.size
             have c1k := (BRK.out.cell (p := ⟨b, off + (2 * (k : Int) + 1).toNat, none⟩) hbr).trans c1
             have c1ka : ∀ o, (wk.alloc o).cell? ⟨b, off + (2 * (k : Int) + 1).toNat, none⟩ = some (.int .i64 y) := fun o => (World.cell?_alloc_past _ _ _ (by show b < _; omega)).trans c1k
             clear hbk)
          | (go_simp
             refine (value_any y _ y1 y2).mono ?_
             rintro r wv ⟨⟨t, rfl, ht⟩, hbv⟩
             have BRV : Hid (Below wr.heap.size wr wv) := by
               first
               | exact BRK.out.trans (hbv.mono (by omega))
               | exact (BRK.out.alloc (by omega) _).trans (hbv.mono (by simp; omega))
             have hsv := BRV.out.size
             try have hxv := (new_kept (w := wk) hbv).trans (heap_alloc_new _ _)
             try have hxv := (hbv.block wr.heap.size (by simp at hsk; omega)).trans hxk
             try have m0 := (itm_cells hxv).1
             try have m1 := (itm_cells hxv).2.1
             try have z0 := (itm_cells hxv).2.2.1
             try have z1 := (itm_cells hxv).2.2.2
             clear hbv))
        all_goals
          go_wp2_with fail
          go_meet
          first
            | exact ⟨_, s, t, rfl, hsv, heap_alloc_new _ _, BRV.out.alloc hsv _, hs1, hs2, ht⟩
            | exact ⟨_, s, t, rfl, by omega, heap_setCell_at (i := 1) (heap_setCell_at (i := 0) hxv (.string s)) (.string t), (BRV.out.setCell (p := ⟨_, 0, none⟩) (by first | exact Nat.le_refl _ | assumption) _).setCell (p := ⟨_, 1, none⟩) (by first | exact Nat.le_refl _ | assumption) _, hs1, hs2, ht⟩
      case rest =>
        obtain ⟨xb, s, t, rfl, hxb, hxc, hbc, hs1, hs2, ht⟩ := hcut
        have HXC := hid hxc
        have HBC := hid hbc
        have hsc := hbc.size
        have HOC : Hid (OwnsI w.heap.size wc (.slice oa il.length oc) il) := row_below HO.out hbc (Nat.le_refl _)
        have hxl : xb < wc.heap.size := (Array.getElem?_eq_some_iff.1 hxc).1
        clear hbc hxc hw1 hw2 c0 c1 c0a c1a B0 HO hi1 hi2 hi3 hi4 hi5
        go_wp2_with fail
        go_loopw [6] (fun i wx => ∃ (j : Nat), j ≤ il.length ∧ i = .int .i64 j ∧ (∀ y ∈ il.take j, y.1.data.toList < s.data.toList) ∧ Below wc.heap.size wc wx) (fun i _ => il.length - (intOf i).toNat)
        case atStart => exact ⟨0, Nat.zero_le _, rfl, by simp, Below.refl _ _⟩
        case round =>
          obtain ⟨j, hj, rfl, hall, hbx⟩ := hrel
          have HALL := hid hall
          have HBX := hid hbx
          have hsx := hbx.size
          have HXX := hid ((hbx.block xb hxl).trans HXC.out)
          have HOX : Hid (OwnsI w.heap.size wr (.slice oa il.length oc) il) := row_below HOC.out hbx (Nat.le_refl _)
          have HBWX := hid (HB.out.trans ((HBC.out.trans (hbx.mono hsc)).mono hsz))
          have e0 := (itm_cells HXX.out).1
          have e1 := (itm_cells HXX.out).2.1
          clear hall hbx
          by_cases hjl : j < il.length
          · obtain ⟨g, cap, hge, hgc, hg1, hgw, hia⟩ := HOX.out.isItems.resolve_left (by rintro ⟨_, _, _, rfl⟩; simp at hjl)
            injection hge with q1 q2 q3
            subst q1 q3
            obtain ⟨k0, k1⟩ := hia j hjl
            simp only [Nat.zero_add] at k0 k1
            have HIA := hid hia
            clear hia
            have HTK : Hid (il.take (j + 1) = il.take j ++ [il[j]'hjl]) := by show _ = _; rw [List.take_add_one, List.getElem?_eq_getElem hjl]; rfl
            have HLT : Hid (∀ q : List UInt8, q < (il[j]'hjl).1.data.toList → ∀ y ∈ il.drop j, q < y.1.data.toList) := fun q hq => later HF.out j hjl hq
            have hi1 : (0 : Int) ≤ (j : Int) := by omega
            have hi2 : (j : Int) < (il.length : Int) := by omega
            have hd1 : decide (j < il.length) = true := decide_eq_true hjl
            have hd2 : decide ((j : Int) < (il.length : Int)) = true := decide_eq_true hi2
            generalize hyy : il[j]'hjl = yy at *
            obtain ⟨kb, vb⟩ := yy
            simp only at k0 k1
            by_cases hless : kb.data.toList < s.data.toList
            · have HA2 : Hid (∀ y ∈ il.take (j + 1), y.1.data.toList < s.data.toList) := by
                intro y hy
                rw [HTK.out] at hy
                rcases List.mem_append.1 hy with h | h
                · exact HALL.out y h
                · rw [List.mem_singleton.1 h]; exact hless
              have hcmp : Op.bytesLess kb.toList s.toList = true := by rw [toList_is, toList_is, less_is]; exact decide_eq_true hless
              clear hless hyy
              go_wp2_with fail
              go_quiet (fail)
              go_wp2_with fail
              go_roundw
              case rel => exact ⟨j + 1, by omega, by go_num, HA2.out, below_drewN HBX.out _⟩
              case measure => simp [intOf]; omega
            · have hcmp : Op.bytesLess kb.toList s.toList = false := by rw [toList_is, toList_is, less_is]; exact decide_eq_false hless
              by_cases heq : kb = s
              · subst heq
                clear hless hyy
                go_wp2_with fail
                go_quiet (fail)
                have HXD : Hid ((wr.drewN nq).heap[xb]? = some (.cells #[.string kb, .string t] 43 (0, 0))) := HXX.out
                have HOD : Hid (OwnsI w.heap.size (wr.drewN nq) (.slice (some ⟨g, 0, none⟩) il.length oc) il) := HOX.out
                have HBWD := hid (below_drewN HBWX.out nq)
                have k0' : (wr.drewN nq).cell? ⟨g, j * 2, none⟩ = some (.string kb) := k0
                have e0' := (itm_cells HXD.out).1
                clear k0 e0 e1
                go_wp2_with fail
                generalize wr.drewN nq = wd at *
                go_quiet (fail)
                go_wp2_with fail
                go_roundw
                case rel => exact ⟨k + 1, il, by omega, by go_num, hil, HOD.out, HF.out, below_drewN HBWD.out _⟩
                case measure => simp [intOf]; omega
              · have hne : (kb.toList == s.toList) = false := by rw [toList_is, toList_is]; exact beq_eq_false_iff_ne.2 fun e => heq (bytes_ext e)
                have HDR : Hid (∀ y ∈ il.drop j, s.data.toList < y.1.data.toList) := HLT.out _ (by
                  rcases Pr.lt_tri _ _ hless with h | h
                  · exact h
                  · exact absurd (bytes_ext h) heq)
                clear hless hyy
                go_wp2_with fail
                go_quiet (fail)
                have HXD : Hid ((wr.drewN nq).heap[xb]? = some (.cells #[.string s, .string t] 43 (0, 0))) := HXX.out
                have HOD : Hid (OwnsI w.heap.size (wr.drewN nq) (.slice (some ⟨g, 0, none⟩) il.length oc) il) := HOX.out
                have HBWD := hid (below_drewN HBWX.out nq)
                have k0' : (wr.drewN nq).cell? ⟨g, j * 2, none⟩ = some (.string kb) := k0
                have e0' := (itm_cells HXD.out).1
                have hsd : w.heap.size ≤ (wr.drewN nq).heap.size := by show w.heap.size ≤ wr.heap.size; omega
                have hgd : g < (wr.drewN nq).heap.size := hgw
                clear k0 e0 e1
                go_wp2_with fail
                generalize wr.drewN nq = wd at *
                go_quiet (fail)
                have HXI : Hid ((wd.drewN nq).heap[xb]? = some (.cells #[.string s, .string t] 43 (0, 0))) := HXD.out
                have HOI : Hid (OwnsI w.heap.size (wd.drewN nq) (.slice (some ⟨g, 0, none⟩) il.length oc) il) := HOD.out
                have HBWI := hid (below_drewN HBWD.out nq)
                have hsi : w.heap.size ≤ (wd.drewN nq).heap.size := hsd
                have hgi : g < (wd.drewN nq).heap.size := hgd
                clear k0' e0'
                have hcj : ¬ oc = j := by omega
                have hi3 : (j : Int) ≤ (oc : Int) := by omega
                have hi4 : (j : Int) ≤ (il.length : Int) := by omega
                generalize wd.drewN nq = wi at *
                go_wp2_with (first
                  | (at_builtin; refine wpApI _ rfl (.tmp 65) (.tmp 68) rfl wi.heap.size (.slice none 0 0) [] rfl (World.ownsRow_nil _ _ _ _) _ (il.take j) rfl (.inr ⟨⟨g, 0, none⟩, oc, by rw [List.length_take, Nat.min_eq_left (by omega)]; rfl, src_take HOI.out j⟩) (by rw [List.length_take]; simp; omega) (Nat.le_refl _) ?_))
                intro v1 w1 ho1 hg1
                have hB1 := (Below.refl wi.heap.size wi).grown hg1 (Nat.le_refl _) (fun k hk => by simp [Value.ownBlock] at hk)
                have hs1' := hB1.size
                have hln : (il.take j).length ≤ 16 := by rw [List.length_take]; omega
                have HX1 := hid ((hB1.block xb (Array.getElem?_eq_some_iff.1 HXI.out).1).trans HXI.out)
                have f0 := (itm_cells HX1.out).1
                have f1 := (itm_cells HX1.out).2.1
                have HO1 := hid ho1
                have HB1 := hid hB1
                obtain ⟨ma, mc, rfl⟩ := rowShape ho1
                obtain ⟨mt, hmt⟩ : ∃ mt, mt = il.take j := ⟨_, rfl⟩
                rw [← hmt] at HO1 hln ⊢
                have HMT := hid hmt
                clear ho1 hg1 hB1 hmt
                go_wp2_with (first
                  | (at_builtin; refine wpApG w1 rfl (.tmp 70) (.tmp 72) 30 43 Try.underlying30 _ 2 32 info_item rfl (by decide) (by decide) rfl wi.heap.size (.slice ma mt.length mc) mt.length (icells mt) rfl HO1.out [.string s, .string t] rfl (by intro u hu; simp at hu; rcases hu with rfl | rfl <;> rfl) rfl (by omega) (by omega) ?_))
                intro v2 w2 ho2 hg2 hat2
                have ho2' : OwnsI wi.heap.size w2 v2 (mt ++ [(s, t)]) := by unfold OwnsI; rw [List.length_append, icells_snoc]; exact ho2
                have hB2 := (Below.refl wi.heap.size w1).grown hg2 hs1' (fun k hk => (World.ownsRow.lt HO1.out k hk).1)
                have HB2 := hid (HB1.out.trans hB2)
                have hs2' := HB2.out.size
                have HO2 := hid ho2'
                obtain ⟨na, nc, rfl⟩ := rowShape ho2'
                obtain ⟨nt, hnt⟩ : ∃ nt, nt = mt ++ [(s, t)] := ⟨_, rfl⟩
                rw [← hnt] at HO2 ⊢
                have hnl : nt.length ≤ 17 := by rw [hnt, List.length_append]; simp; omega
                have HNT := hid hnt
                have HOI2 : Hid (OwnsI w.heap.size w2 (.slice (some ⟨g, 0, none⟩) il.length oc) il) := row_below HOI.out HB2.out (Nat.le_refl _)
                clear ho2 ho2' hg2 hat2 hB2 hnt f0 f1
                go_wp2_with (first
                  | (at_builtin; refine wpApI _ rfl (.tmp 74) (.tmp 77) rfl wi.heap.size (.slice na nt.length nc) nt rfl HO2.out _ (il.drop j) rfl (.inr ⟨⟨g, j * 2, none⟩, oc - j, by rw [List.length_drop]; rfl, src_drop HOI2.out j hj⟩) (by rw [List.length_drop]; omega) (by omega) ?_))
                intro v3 w3 ho3 hg3
                have hB3 := (Below.refl wi.heap.size w2).grown hg3 hs2' (fun k hk => (World.ownsRow.lt HO2.out k hk).1)
                have HB3 := hid (HBWI.out.trans ((HB2.out.trans hB3).mono hsi))
                have HO3 := hid (row_shrink ho3 hsi)
                have hl3 : (nt ++ il.drop j).length ≤ 16 := by rw [HNT.out, HMT.out, List.length_append, List.length_append, List.length_take, List.length_drop]; simp; omega
                have HF3 : Hid (Pr.Fine (plain (nt ++ il.drop j))) := by
                  show Pr.Fine _; rw [HNT.out, HMT.out]; exact plain_insert HF.out hs1 hs2 ht j HALL.out HDR.out
                obtain ⟨za, zc, rfl⟩ := rowShape ho3
                obtain ⟨zt, hzt⟩ : ∃ zt, zt = nt ++ il.drop j := ⟨_, rfl⟩
                have HO4 : Hid (OwnsI w.heap.size w3 (.slice za zt.length zc) zt) := by rw [hzt]; exact HO3.out
                rw [← hzt] at hl3 HF3 ⊢
                clear ho3 hg3 hB3 hzt HO3
                go_wp2_with fail
                go_roundw
                case rel => exact ⟨k + 1, zt, by omega, by go_num, hl3, HO4.out, HF3.out, HB3.out⟩
                case measure => simp [intOf]; omega
          · have hje : il.length ≤ j := by omega
            have HDR : Hid (∀ y ∈ il.drop j, s.data.toList < y.1.data.toList) := by rw [List.drop_eq_nil_of_le (by omega)]; intro y hy; simp at hy
            have HDE : Hid (il.drop j = []) := List.drop_eq_nil_of_le (by omega)
            have hi2 : ¬ (j : Int) < (il.length : Int) := by omega
            have hd1 : decide (j < il.length) = false := decide_eq_false hjl
            have hd2 : decide ((j : Int) < (il.length : Int)) = false := decide_eq_false hi2
            rcases HOX.out.2 with ⟨hv, hn⟩ | ⟨g, cap, cur, hv, hgb, hgh, hgc, -⟩
            · have hile : il = [] := List.length_eq_zero_iff.1 hn
              injection hv with q1 q2 q3
              subst q1 q3 hile
              obtain rfl : j = 0 := by simpa using hj
              clear hn q2
              go_wp2_with fail
              go_quiet (fail)
              have HXD : Hid ((wr.drewN nq).heap[xb]? = some (.cells #[.string s, .string t] 43 (0, 0))) := HXX.out
              have HOD : Hid (OwnsI w.heap.size (wr.drewN nq) (.slice none 0 0) []) := HOX.out
              have HBWD := hid (below_drewN HBWX.out nq)
              have e0' := (itm_cells HXD.out).1
              have hsd : w.heap.size ≤ (wr.drewN nq).heap.size := by show w.heap.size ≤ wr.heap.size; omega
              clear e0 e1
              go_wp2_with fail
              generalize wr.drewN nq = wd at *
              go_quiet (fail)
              have HXI : Hid ((wd.drewN nq).heap[xb]? = some (.cells #[.string s, .string t] 43 (0, 0))) := HXD.out
              have HOI : Hid (OwnsI w.heap.size (wd.drewN nq) (.slice none 0 0) []) := HOD.out
              have HBWI := hid (below_drewN HBWD.out nq)
              have hsi : w.heap.size ≤ (wd.drewN nq).heap.size := hsd
              clear e0'
              obtain ⟨mt, hmt⟩ : ∃ mt : List (ByteArray × ByteArray), mt = [] := ⟨_, rfl⟩
              have HMT := hid hmt
              have hln : mt.length ≤ 16 := by rw [hmt]; simp
              obtain ⟨dt, hdt⟩ : ∃ dt : List (ByteArray × ByteArray), dt = [] := ⟨_, rfl⟩
              have HDT := hid hdt
              have hdl : dt.length ≤ 16 := by rw [hdt]; simp
              clear hmt hdt
              generalize wd.drewN nq = wi at *
              go_wp2_with (first
                | (at_builtin; refine wpApI _ rfl (.tmp 65) (.tmp 68) rfl wi.heap.size (.slice none 0 0) [] rfl (World.ownsRow_nil _ _ _ _) _ mt rfl (.inl ⟨rfl, HMT.out⟩) (by simp; omega) (Nat.le_refl _) ?_))
              intro v1 w1 ho1 hg1
              have hB1 := (Below.refl wi.heap.size wi).grown hg1 (Nat.le_refl _) (fun k hk => by simp [Value.ownBlock] at hk)
              have hs1' := hB1.size
              have HX1 := hid ((hB1.block xb (Array.getElem?_eq_some_iff.1 HXI.out).1).trans HXI.out)
              have f0 := (itm_cells HX1.out).1
              have f1 := (itm_cells HX1.out).2.1
              have HO1 := hid ho1
              have HB1 := hid hB1
              obtain ⟨ma, mc, rfl⟩ := rowShape ho1
              clear ho1 hg1 hB1
              go_wp2_with (first
                | (at_builtin; refine wpApG w1 rfl (.tmp 70) (.tmp 72) 30 43 Try.underlying30 _ 2 32 info_item rfl (by decide) (by decide) rfl wi.heap.size (.slice ma mt.length mc) mt.length (icells mt) rfl HO1.out [.string s, .string t] rfl (by intro u hu; simp at hu; rcases hu with rfl | rfl <;> rfl) rfl (by omega) (by omega) ?_))
              intro v2 w2 ho2 hg2 hat2
              have ho2' : OwnsI wi.heap.size w2 v2 (mt ++ [(s, t)]) := by unfold OwnsI; rw [List.length_append, icells_snoc]; exact ho2
              have hB2 := (Below.refl wi.heap.size w1).grown hg2 hs1' (fun k hk => (World.ownsRow.lt HO1.out k hk).1)
              have HB2 := hid (HB1.out.trans hB2)
              have hs2' := HB2.out.size
              have HO2 := hid ho2'
              obtain ⟨na, nc, rfl⟩ := rowShape ho2'
              obtain ⟨nt, hnt⟩ : ∃ nt, nt = mt ++ [(s, t)] := ⟨_, rfl⟩
              rw [← hnt] at HO2 ⊢
              have hnl : nt.length ≤ 17 := by rw [hnt, List.length_append]; simp; omega
              have HNT := hid hnt
              clear ho2 ho2' hg2 hat2 hB2 hnt f0 f1
              go_wp2_with (first
                | (at_builtin; refine wpApI _ rfl (.tmp 74) (.tmp 77) rfl wi.heap.size (.slice na nt.length nc) nt rfl HO2.out _ dt rfl (.inl ⟨rfl, HDT.out⟩) (by omega) (by omega) ?_))
              intro v3 w3 ho3 hg3
              have hB3 := (Below.refl wi.heap.size w2).grown hg3 hs2' (fun k hk => (World.ownsRow.lt HO2.out k hk).1)
              have HB3 := hid (HBWI.out.trans ((HB2.out.trans hB3).mono hsi))
              have HO3 := hid (row_shrink ho3 hsi)
              have hl3 : (nt ++ dt).length ≤ 16 := by rw [HNT.out, HMT.out, HDT.out]; simp
              have HF3 : Hid (Pr.Fine (plain (nt ++ dt))) := by
                show Pr.Fine _; rw [HNT.out, HMT.out, HDT.out]; exact plain_insert (il := []) HF.out hs1 hs2 ht 0 (by simp) (by simp)
              obtain ⟨za, zc, rfl⟩ := rowShape ho3
              obtain ⟨zt, hzt⟩ : ∃ zt, zt = nt ++ dt := ⟨_, rfl⟩
              have HO4 : Hid (OwnsI w.heap.size w3 (.slice za zt.length zc) zt) := by rw [hzt]; exact HO3.out
              rw [← hzt] at hl3 HF3 ⊢
              clear ho3 hg3 hB3 hzt HO3
              go_wp2_with fail
              go_roundw
              case rel => exact ⟨k + 1, zt, by omega, by go_num, hl3, HO4.out, HF3.out, HB3.out⟩
              case measure => simp [intOf]; omega
            · injection hv with q1 q2 q3
              subst q1 q3
              have hgw : g < wr.heap.size := (Array.getElem?_eq_some_iff.1 hgh).1
              clear hgh
              by_cases hcj : oc = j
              ·
                go_wp2_with fail
                go_quiet (fail)
                have HXD : Hid ((wr.drewN nq).heap[xb]? = some (.cells #[.string s, .string t] 43 (0, 0))) := HXX.out
                have HOD : Hid (OwnsI w.heap.size (wr.drewN nq) (.slice (some ⟨g, 0, none⟩) il.length oc) il) := HOX.out
                have HBWD := hid (below_drewN HBWX.out nq)
                have e0' := (itm_cells HXD.out).1
                have hsd : w.heap.size ≤ (wr.drewN nq).heap.size := by show w.heap.size ≤ wr.heap.size; omega
                have hgd : g < (wr.drewN nq).heap.size := hgw
                clear e0 e1
                go_wp2_with fail
                generalize wr.drewN nq = wd at *
                go_quiet (fail)
                have HXI : Hid ((wd.drewN nq).heap[xb]? = some (.cells #[.string s, .string t] 43 (0, 0))) := HXD.out
                have HOI : Hid (OwnsI w.heap.size (wd.drewN nq) (.slice (some ⟨g, 0, none⟩) il.length oc) il) := HOD.out
                have HBWI := hid (below_drewN HBWD.out nq)
                have hsi : w.heap.size ≤ (wd.drewN nq).heap.size := hsd
                have hgi : g < (wd.drewN nq).heap.size := hgd
                clear e0'
                have hi3 : (j : Int) ≤ (oc : Int) := by omega
                have hi4 : (j : Int) ≤ (il.length : Int) := by omega
                generalize wd.drewN nq = wi at *
                go_wp2_with (first
                  | (at_builtin; refine wpApI _ rfl (.tmp 65) (.tmp 68) rfl wi.heap.size (.slice none 0 0) [] rfl (World.ownsRow_nil _ _ _ _) _ (il.take j) rfl (.inr ⟨⟨g, 0, none⟩, _, by rw [List.length_take, Nat.min_eq_left (by omega)]; rfl, src_take HOI.out j⟩) (by rw [List.length_take]; simp; omega) (Nat.le_refl _) ?_))
                intro v1 w1 ho1 hg1
                have hB1 := (Below.refl wi.heap.size wi).grown hg1 (Nat.le_refl _) (fun k hk => by simp [Value.ownBlock] at hk)
                have hs1' := hB1.size
                have hln : (il.take j).length ≤ 16 := by rw [List.length_take]; omega
                have HX1 := hid ((hB1.block xb (Array.getElem?_eq_some_iff.1 HXI.out).1).trans HXI.out)
                have f0 := (itm_cells HX1.out).1
                have f1 := (itm_cells HX1.out).2.1
                have HO1 := hid ho1
                have HB1 := hid hB1
                obtain ⟨ma, mc, rfl⟩ := rowShape ho1
                obtain ⟨mt, hmt⟩ : ∃ mt, mt = il.take j := ⟨_, rfl⟩
                rw [← hmt] at HO1 hln ⊢
                have HMT := hid hmt
                clear ho1 hg1 hB1 hmt
                go_wp2_with (first
                  | (at_builtin; refine wpApG w1 rfl (.tmp 70) (.tmp 72) 30 43 Try.underlying30 _ 2 32 info_item rfl (by decide) (by decide) rfl wi.heap.size (.slice ma mt.length mc) mt.length (icells mt) rfl HO1.out [.string s, .string t] rfl (by intro u hu; simp at hu; rcases hu with rfl | rfl <;> rfl) rfl (by omega) (by omega) ?_))
                intro v2 w2 ho2 hg2 hat2
                have ho2' : OwnsI wi.heap.size w2 v2 (mt ++ [(s, t)]) := by unfold OwnsI; rw [List.length_append, icells_snoc]; exact ho2
                have hB2 := (Below.refl wi.heap.size w1).grown hg2 hs1' (fun k hk => (World.ownsRow.lt HO1.out k hk).1)
                have HB2 := hid (HB1.out.trans hB2)
                have hs2' := HB2.out.size
                have HO2 := hid ho2'
                obtain ⟨na, nc, rfl⟩ := rowShape ho2'
                obtain ⟨nt, hnt⟩ : ∃ nt, nt = mt ++ [(s, t)] := ⟨_, rfl⟩
                rw [← hnt] at HO2 ⊢
                have hnl : nt.length ≤ 17 := by rw [hnt, List.length_append]; simp; omega
                have HNT := hid hnt
                have HOI2 : Hid (OwnsI w.heap.size w2 (.slice (some ⟨g, 0, none⟩) il.length oc) il) := row_below HOI.out HB2.out (Nat.le_refl _)
                clear ho2 ho2' hg2 hat2 hB2 hnt f0 f1
                go_wp2_with (first
                  | (at_builtin; refine wpApI _ rfl (.tmp 74) (.tmp 77) rfl wi.heap.size (.slice na nt.length nc) nt rfl HO2.out _ (il.drop j) rfl (.inr ⟨_, _, by rw [HDE.out]; rfl, by rw [HDE.out]; intro i u hi; simp [icells] at hi⟩) (by rw [List.length_drop]; omega) (by omega) ?_))
                intro v3 w3 ho3 hg3
                have hB3 := (Below.refl wi.heap.size w2).grown hg3 hs2' (fun k hk => (World.ownsRow.lt HO2.out k hk).1)
                have HB3 := hid (HBWI.out.trans ((HB2.out.trans hB3).mono hsi))
                have HO3 := hid (row_shrink ho3 hsi)
                have hl3 : (nt ++ il.drop j).length ≤ 16 := by rw [HNT.out, HMT.out, List.length_append, List.length_append, List.length_take, List.length_drop]; simp; omega
                have HF3 : Hid (Pr.Fine (plain (nt ++ il.drop j))) := by
                  show Pr.Fine _; rw [HNT.out, HMT.out]; exact plain_insert HF.out hs1 hs2 ht j HALL.out HDR.out
                obtain ⟨za, zc, rfl⟩ := rowShape ho3
                obtain ⟨zt, hzt⟩ : ∃ zt, zt = nt ++ il.drop j := ⟨_, rfl⟩
                have HO4 : Hid (OwnsI w.heap.size w3 (.slice za zt.length zc) zt) := by rw [hzt]; exact HO3.out
                rw [← hzt] at hl3 HF3 ⊢
                clear ho3 hg3 hB3 hzt HO3
                go_wp2_with fail
                go_roundw
                case rel => exact ⟨k + 1, zt, by omega, by go_num, hl3, HO4.out, HF3.out, HB3.out⟩
                case measure => simp [intOf]; omega
              ·
                go_wp2_with fail
                go_quiet (fail)
                have HXD : Hid ((wr.drewN nq).heap[xb]? = some (.cells #[.string s, .string t] 43 (0, 0))) := HXX.out
                have HOD : Hid (OwnsI w.heap.size (wr.drewN nq) (.slice (some ⟨g, 0, none⟩) il.length oc) il) := HOX.out
                have HBWD := hid (below_drewN HBWX.out nq)
                have e0' := (itm_cells HXD.out).1
                have hsd : w.heap.size ≤ (wr.drewN nq).heap.size := by show w.heap.size ≤ wr.heap.size; omega
                have hgd : g < (wr.drewN nq).heap.size := hgw
                clear e0 e1
                go_wp2_with fail
                generalize wr.drewN nq = wd at *
                go_quiet (fail)
                have HXI : Hid ((wd.drewN nq).heap[xb]? = some (.cells #[.string s, .string t] 43 (0, 0))) := HXD.out
                have HOI : Hid (OwnsI w.heap.size (wd.drewN nq) (.slice (some ⟨g, 0, none⟩) il.length oc) il) := HOD.out
                have HBWI := hid (below_drewN HBWD.out nq)
                have hsi : w.heap.size ≤ (wd.drewN nq).heap.size := hsd
                have hgi : g < (wd.drewN nq).heap.size := hgd
                clear e0'
                have hi3 : (j : Int) ≤ (oc : Int) := by omega
                have hi4 : (j : Int) ≤ (il.length : Int) := by omega
                generalize wd.drewN nq = wi at *
                go_wp2_with (first
                  | (at_builtin; refine wpApI _ rfl (.tmp 65) (.tmp 68) rfl wi.heap.size (.slice none 0 0) [] rfl (World.ownsRow_nil _ _ _ _) _ (il.take j) rfl (.inr ⟨⟨g, 0, none⟩, _, by rw [List.length_take, Nat.min_eq_left (by omega)]; rfl, src_take HOI.out j⟩) (by rw [List.length_take]; simp; omega) (Nat.le_refl _) ?_))
                intro v1 w1 ho1 hg1
                have hB1 := (Below.refl wi.heap.size wi).grown hg1 (Nat.le_refl _) (fun k hk => by simp [Value.ownBlock] at hk)
                have hs1' := hB1.size
                have hln : (il.take j).length ≤ 16 := by rw [List.length_take]; omega
                have HX1 := hid ((hB1.block xb (Array.getElem?_eq_some_iff.1 HXI.out).1).trans HXI.out)
                have f0 := (itm_cells HX1.out).1
                have f1 := (itm_cells HX1.out).2.1
                have HO1 := hid ho1
                have HB1 := hid hB1
                obtain ⟨ma, mc, rfl⟩ := rowShape ho1
                obtain ⟨mt, hmt⟩ : ∃ mt, mt = il.take j := ⟨_, rfl⟩
                rw [← hmt] at HO1 hln ⊢
                have HMT := hid hmt
                clear ho1 hg1 hB1 hmt
                go_wp2_with (first
                  | (at_builtin; refine wpApG w1 rfl (.tmp 70) (.tmp 72) 30 43 Try.underlying30 _ 2 32 info_item rfl (by decide) (by decide) rfl wi.heap.size (.slice ma mt.length mc) mt.length (icells mt) rfl HO1.out [.string s, .string t] rfl (by intro u hu; simp at hu; rcases hu with rfl | rfl <;> rfl) rfl (by omega) (by omega) ?_))
                intro v2 w2 ho2 hg2 hat2
                have ho2' : OwnsI wi.heap.size w2 v2 (mt ++ [(s, t)]) := by unfold OwnsI; rw [List.length_append, icells_snoc]; exact ho2
                have hB2 := (Below.refl wi.heap.size w1).grown hg2 hs1' (fun k hk => (World.ownsRow.lt HO1.out k hk).1)
                have HB2 := hid (HB1.out.trans hB2)
                have hs2' := HB2.out.size
                have HO2 := hid ho2'
                obtain ⟨na, nc, rfl⟩ := rowShape ho2'
                obtain ⟨nt, hnt⟩ : ∃ nt, nt = mt ++ [(s, t)] := ⟨_, rfl⟩
                rw [← hnt] at HO2 ⊢
                have hnl : nt.length ≤ 17 := by rw [hnt, List.length_append]; simp; omega
                have HNT := hid hnt
                have HOI2 : Hid (OwnsI w.heap.size w2 (.slice (some ⟨g, 0, none⟩) il.length oc) il) := row_below HOI.out HB2.out (Nat.le_refl _)
                clear ho2 ho2' hg2 hat2 hB2 hnt f0 f1
                go_wp2_with (first
                  | (at_builtin; refine wpApI _ rfl (.tmp 74) (.tmp 77) rfl wi.heap.size (.slice na nt.length nc) nt rfl HO2.out _ (il.drop j) rfl (.inr ⟨_, _, by rw [HDE.out]; rfl, by rw [HDE.out]; intro i u hi; simp [icells] at hi⟩) (by rw [List.length_drop]; omega) (by omega) ?_))
                intro v3 w3 ho3 hg3
                have hB3 := (Below.refl wi.heap.size w2).grown hg3 hs2' (fun k hk => (World.ownsRow.lt HO2.out k hk).1)
                have HB3 := hid (HBWI.out.trans ((HB2.out.trans hB3).mono hsi))
                have HO3 := hid (row_shrink ho3 hsi)
                have hl3 : (nt ++ il.drop j).length ≤ 16 := by rw [HNT.out, HMT.out, List.length_append, List.length_append, List.length_take, List.length_drop]; simp; omega
                have HF3 : Hid (Pr.Fine (plain (nt ++ il.drop j))) := by
                  show Pr.Fine _; rw [HNT.out, HMT.out]; exact plain_insert HF.out hs1 hs2 ht j HALL.out HDR.out
                obtain ⟨za, zc, rfl⟩ := rowShape ho3
                obtain ⟨zt, hzt⟩ : ∃ zt, zt = nt ++ il.drop j := ⟨_, rfl⟩
                have HO4 : Hid (OwnsI w.heap.size w3 (.slice za zt.length zc) zt) := by rw [hzt]; exact HO3.out
                rw [← hzt] at hl3 HF3 ⊢
                clear ho3 hg3 hB3 hzt HO3
                go_wp2_with fail
                go_roundw
                case rel => exact ⟨k + 1, zt, by omega, by go_num, hl3, HO4.out, HF3.out, HB3.out⟩
                case measure => simp [intOf]; omega
    · have hg1 : ¬ (2 * (k : Int) + 1 < (l.length : Int) ∧ (il.length : Int) < 16) := by omega
      by_cases hgo1 : 2 * k + 1 < l.length
      · have hi1 : (2 : Int) * (k : Int) + 1 < (l.length : Int) := by omega
        have hi2 : ¬ (il.length : Int) < 16 := by omega
        go_wp2_with fail
        go_ret
        exact ⟨⟨il, _, rfl, HO.out, hil, HF.out⟩, HB.out⟩
      · have hi1 : ¬ (2 : Int) * (k : Int) + 1 < (l.length : Int) := by omega
        go_wp2_with fail
        go_ret
        exact ⟨⟨il, _, rfl, HO.out, hil, HF.out⟩, HB.out⟩
end Go.Proofs.Ytolgpnaoaodepaa
