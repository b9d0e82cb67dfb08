/- The walks of siltkeep's key, value, raw and change. -/
import Derived.Test.YtolgpnaoaodepaaKeepA
import Derived.Test.YtolgpnaoaodepaaMathM
namespace Go.Proofs.Ytolgpnaoaodepaa
open Go.RowKit

theorem u8_of (p : Int) (h1 : 0 ≤ p) (h2 : p < 256) : ((UInt8.ofNat p.toNat).toNat : Int) = p := by rw [UInt8.toNat_ofNat']; omega
theorem conv2 (w : World) (p q : Int) (h1 : 0 ≤ p) (h2 : p < 256) (h3 : 0 ≤ q) (h4 : q < 256) : ∃ s : ByteArray, s.size = 2 ∧ (convert 59 9 (.slice (some ⟨w.heap.size, 0, none⟩) 2 2)).run Try.prog (w.alloc (.cells #[.int .u8 p, .int .u8 q] 5)) = .ok (.string s) (w.alloc (.cells #[.int .u8 p, .int .u8 q] 5)) := by
  refine ⟨⟨#[UInt8.ofNat p.toNat, UInt8.ofNat q.toNat]⟩, rfl, ?_⟩
  have e := heap_alloc_new w (.cells #[.int .u8 p, .int .u8 q] 5)
  refine run_convert_bytes_back (P := Try.prog) _ 59 9 5 ⟨w.heap.size, 0, none⟩ 2 [UInt8.ofNat p.toNat, UInt8.ofNat q.toNat] Try.underlying59 Try.underlying5 Try.underlying9 (fun j hj => ?_)
  rw [add_at]
  match j, hj with
  | 0, _ => unfold World.cell?; rw [e]; show some (Value.int .u8 p) = some (Value.int .u8 ((UInt8.ofNat p.toNat).toNat : Int)); rw [u8_of p h1 h2]
  | 1, _ => unfold World.cell?; rw [e]; show some (Value.int .u8 q) = some (Value.int .u8 ((UInt8.ofNat q.toNat).toNat : Int)); rw [u8_of q h3 h4]
theorem conv1 (w : World) (p : Int) (h1 : 0 ≤ p) (h2 : p < 256) : ∃ s : ByteArray, s.size = 1 ∧ (convert 59 9 (.slice (some ⟨w.heap.size, 0, none⟩) 1 1)).run Try.prog (w.alloc (.cells #[.int .u8 p] 5)) = .ok (.string s) (w.alloc (.cells #[.int .u8 p] 5)) := by
  refine ⟨⟨#[UInt8.ofNat p.toNat]⟩, rfl, ?_⟩
  have e := heap_alloc_new w (.cells #[.int .u8 p] 5)
  refine run_convert_bytes_back (P := Try.prog) _ 59 9 5 ⟨w.heap.size, 0, none⟩ 1 [UInt8.ofNat p.toNat] Try.underlying59 Try.underlying5 Try.underlying9 (fun j hj => ?_)
  rw [add_at]
  match j, hj with
  | 0, _ => unfold World.cell?; rw [e]; show some (Value.int .u8 p) = some (Value.int .u8 ((UInt8.ofNat p.toNat).toNat : Int)); rw [u8_of p h1 h2]

set_option maxHeartbeats 1000000 in
set_option maxRecDepth 20000 in
theorem key_any (c : Int) (w : World) (h1 : -9223372036854775808 ≤ c) (h2 : c ≤ 9223372036854775807) :
    Calls Try.prog 14 #[.int .i64 c] w fun r w' => (∃ s : ByteArray, r = .returned (.string s) ∧ 1 ≤ s.size ∧ s.size ≤ 12) ∧ Below w.heap.size w w' := by
  have HC := hid (pick_any c 150 w h1 h2 (by decide) (by decide))
  have hn := pk_lt c 150 (by decide)
  generalize pk c 150 = n at *
  go_enter Try.func14, Try.ntmps14
  go_wp2_with fail
  refine HC.out.mono ?_
  rintro r w1 ⟨rfl, rfl⟩
  have t1 : (n : Int).tmod 5 = ((n % 5 : Nat) : Int) := by rw [Int.tmod_eq_emod_of_nonneg (by omega)]; omega
  have t2 : (n : Int).tdiv 5 = ((n / 5 : Nat) : Int) := by rw [Int.tdiv_eq_ediv_of_nonneg (by omega)]; omega
  have t3 : ((n / 5 : Nat) : Int).tmod 6 = ((n / 5 % 6 : Nat) : Int) := by rw [Int.tmod_eq_emod_of_nonneg (by omega)]; omega
  have t4 : (n : Int).tdiv 30 = ((n / 30 : Nat) : Int) := by rw [Int.tdiv_eq_ediv_of_nonneg (by omega)]; omega
  have b1 : n % 5 < 5 := by omega
  have b2 : n / 5 % 6 < 6 := by omega
  generalize n % 5 = x at *
  have b3 : (0 : Int) ≤ 97 + (n : Int) / 5 % 6 ∧ (97 : Int) + (n : Int) / 5 % 6 < 256 := by omega
  obtain ⟨s, hs, hcv⟩ := conv2 w1 (97 + (x : Int)) (97 + (n : Int) / 5 % 6) (by omega) (by omega) b3.1 b3.2
  have HB1 := hid ((Below.refl w1.heap.size w1).alloc (Nat.le_refl _) (.cells #[.int .u8 (97 + (x : Int)), .int .u8 (97 + (n : Int) / 5 % 6)] 5))
  by_cases h30 : 30 ≤ n
  · have hi30 : (30 : Int) ≤ (n : Int) := by omega
    have key : ∀ (k : ByteArray), k.size ≤ 10 → ∀ w, (Op.stringOp .add s k).run Try.prog w = .ok (.string (s ++ k)) w := fun k hk w => run_string_add_sum w _ _ (by omega)
    have fin : ∀ (k : ByteArray), k.size ≤ 10 → 1 ≤ (s ++ k).size ∧ (s ++ k).size ≤ 12 := fun k hk => by rw [ByteArray.size_append]; omega
    obtain h | h | h | h : n / 30 = 1 ∨ n / 30 = 2 ∨ n / 30 = 3 ∨ n / 30 = 4 := by omega
    all_goals
      have hd : (n : Int) / 30 = ((n / 30 : Nat) : Int) := by omega
      rw [h] at hd t4
      have k1 := key ⟨#[98, 99, 100, 101, 102, 103, 104, 105, 106, 107]⟩ (by decide)
      have k2 := key ⟨#[0]⟩ (by decide)
      have k3 := key ⟨#[120, 120]⟩ (by decide)
      have k4 := key ⟨#[120, 121]⟩ (by decide)
      have FIN := hid fin
      clear key fin h
      go_wp2_with fail
      go_ret
      refine ⟨⟨_, rfl, ?_⟩, HB1.out.alloc (by simp) _⟩
      exact FIN.out _ (by decide)
  · have hi30 : ¬ (30 : Int) ≤ (n : Int) := by omega
    go_wp2_with fail
    go_ret
    exact ⟨⟨s, rfl, by omega, by omega⟩, HB1.out⟩
end Go.Proofs.Ytolgpnaoaodepaa
