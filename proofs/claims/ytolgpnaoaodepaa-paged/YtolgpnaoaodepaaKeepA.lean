/- The walks of siltkeep's pick and head. -/
import Derived.Test.YtolgpnaoaodepaaWalkAE
import Derived.Test.YtolgpnaoaodepaaMathE
namespace Go.Proofs.Ytolgpnaoaodepaa
open Go.RowKit

/-- Which of n things a raw number speaks of. -/
def pk (c : Int) (n : Nat) : Nat := (if c < 0 then -(c + 1) else c).toNat % n
theorem pk_lt (c : Int) (n : Nat) (h : 0 < n) : pk c n < n := Nat.mod_lt _ h
set_option maxHeartbeats 1000000 in
theorem pick_any (c : Int) (n : Nat) (w : World) (h1 : -9223372036854775808 ≤ c) (h2 : c ≤ 9223372036854775807) (hn : 0 < n) (hn2 : n ≤ 4294967296) :
    Calls Try.prog 7 #[.int .i64 c, .int .i64 n] w fun r w' => r = .returned (.int .i64 (pk c n)) ∧ w' = w := by
  go_enter Try.func7, Try.ntmps7
  by_cases hc : c < 0
  · have HP : Hid ((pk c n : Int) = (-(c + 1)) % (n : Int)) := by
      show _ = _; unfold pk; rw [if_pos hc]; rw [Int.natCast_emod, Int.toNat_of_nonneg (by omega)]
    have ht : (-(c + 1)).tmod (n : Int) = (-(c + 1)) % (n : Int) := Int.tmod_eq_emod_of_nonneg (by omega)
    have hnz : ¬ (n : Int) = 0 := by omega
    go_wp2_with fail
    go_ret
    exact ⟨ret_int (by rw [HP.out]), rfl⟩
  · have HP : Hid ((pk c n : Int) = c % (n : Int)) := by
      show _ = _; unfold pk; rw [if_neg hc]; rw [Int.natCast_emod, Int.toNat_of_nonneg (by omega)]
    have ht : c.tmod (n : Int) = c % (n : Int) := Int.tmod_eq_emod_of_nonneg (by omega)
    have hnz : ¬ (n : Int) = 0 := by omega
    go_wp2_with fail
    go_ret
    exact ⟨ret_int (by rw [HP.out]), rfl⟩

/-- The document's example of a leaf. -/
def leafX : List UInt8 := Pg.leaf [([97], [120])]
theorem ex_squeeze : Sq.squeeze [97, 98, 99, 97, 98, 99, 97, 98, 99] = [2, 97, 98, 99, 131, 3] := by decide +kernel
theorem ex_spread : Sq.spread [0, 97, 128, 1] = some [97, 97, 97, 97] := by decide +kernel
theorem ex_len : leafX.length = 82 := by decide +kernel
theorem ex_fetch : Pr.fetchR leafX [97] = some (some [120]) := by decide +kernel
theorem ex_write : Pg.write 1 [([97], [120])] [] [] [] = (leafX, 0) := by
  unfold Pg.write
  rw [if_pos (by decide)]; rfl

theorem exNode (w : World) : IsNode (w.alloc (.cells #[.string ⟨#[97]⟩, .string ⟨#[120]⟩] 43)) (.agg #[.int .i64 1, .slice (some ⟨w.heap.size, 0, none⟩) 1 1, .slice none 0 0, .slice none 0 0, .slice none 0 0]) 1 [(⟨#[97]⟩, ⟨#[120]⟩)] [] [] [] := by
  refine ⟨_, _, _, _, rfl, .inr ⟨w.heap.size, 0, 1, rfl, by simp, by omega, by simp, fun i hi => ?_⟩, by simp, ⟨none, 0, rfl, by simp, .inl rfl⟩, ⟨none, 0, rfl, by simp, .inl rfl⟩, ⟨none, 0, rfl, by simp, .inl rfl⟩⟩
  match i, hi with
  | 0, _ => simp
theorem exS (w : World) : Calls Try.prog 8 #[.string ⟨#[97, 98, 99, 97, 98, 99, 97, 98, 99]⟩] w fun r w' => r = .returned (.string ⟨#[2, 97, 98, 99, 131, 3]⟩) ∧ Below w.heap.size w w' := by
  have := siltSqueeze_any ⟨#[97, 98, 99, 97, 98, 99, 97, 98, 99]⟩ w (by decide)
  rw [show (⟨#[97, 98, 99, 97, 98, 99, 97, 98, 99]⟩ : ByteArray).data.toList = [97, 98, 99, 97, 98, 99, 97, 98, 99] from rfl, ex_squeeze] at this
  exact this
theorem exP (w : World) : Calls Try.prog 9 #[.string ⟨#[0, 97, 128, 1]⟩] w fun r w' => r = .returned (.tuple #[.string ⟨#[97, 97, 97, 97]⟩, .int .i64 0]) ∧ Below w.heap.size w w' := by
  have := siltSpread_any ⟨#[0, 97, 128, 1]⟩ w (by decide)
  rw [show (⟨#[0, 97, 128, 1]⟩ : ByteArray).data.toList = [0, 97, 128, 1] from rfl, show spreadS [0, 97, 128, 1] = ⟨#[97, 97, 97, 97]⟩ by unfold spreadS; rw [ex_spread], show spreadE [0, 97, 128, 1] = 0 by unfold spreadE; rw [ex_spread]] at this
  exact this
theorem exW (w : World) : Calls Try.prog 11 #[.agg #[.int .i64 1, .slice (some ⟨w.heap.size, 0, none⟩) 1 1, .slice none 0 0, .slice none 0 0, .slice none 0 0]] (w.alloc (.cells #[.string ⟨#[97]⟩, .string ⟨#[120]⟩] 43)) fun r w' => r = .returned (.tuple #[.string ⟨leafX.toArray⟩, .int .i64 0]) ∧ Below (w.heap.size + 1) (w.alloc (.cells #[.string ⟨#[97]⟩, .string ⟨#[120]⟩] 43)) w' := by
  have := siltWrite_any _ 1 [(⟨#[97]⟩, ⟨#[120]⟩)] [] [] [] _ (exNode w)
  rw [show plain [(⟨#[97]⟩, ⟨#[120]⟩)] = [([97], [120])] from rfl, show lists [] = [] from rfl, show plainCh [] = [] from rfl, ex_write, show (w.alloc (.cells #[.string ⟨#[97]⟩, .string ⟨#[120]⟩] 43)).heap.size = w.heap.size + 1 by simp] at this
  exact this
theorem exF (w : World) : Calls Try.prog 15 #[.string ⟨leafX.toArray⟩, .string ⟨#[97]⟩] w fun r w' => r = .returned (.tuple #[.string ⟨#[120]⟩, .int .i64 0]) ∧ Below w.heap.size w w' := by
  have := siltFetch_any leafX ⟨#[97]⟩ w
  rw [show (⟨#[97]⟩ : ByteArray).data.toList = [97] from rfl, ex_fetch, show fetchV (some (some [120])) = ⟨#[120]⟩ from rfl, show fetchN (some (some [120])) = 0 from rfl] at this
  exact this
set_option maxHeartbeats 1000000 in
set_option maxRecDepth 20000 in
theorem head_any (w : World) : Calls Try.prog 6 #[] w fun r w' => r = .returned (.bool true) ∧ Below w.heap.size w w' := by
  have hzl := size_mk leafX
  rw [ex_len] at hzl
  have CF := hid (fun W => exF W)
  have CW := hid (fun W => exW W)
  generalize leafX = lx at *
  go_enter Try.func6, Try.ntmps6
  go_wp2_with fail
  refine (exS _).mono ?_
  rintro r w1 ⟨rfl, hb1⟩
  have HB1 := hid hb1
  have hs1 := hb1.size
  clear hb1
  go_wp2_with fail
  refine (exP _).mono ?_
  rintro r w2 ⟨rfl, hb2⟩
  have HB2 := hid (HB1.out.trans (hb2.mono hs1))
  have hs2 := HB2.out.size
  clear hb2
  have HB3 := hid (HB2.out.alloc hs2 (.cells #[.string ⟨#[97]⟩, .string ⟨#[120]⟩] 43))
  go_wp2_with fail
  refine (CW.out w2).mono ?_
  rintro r w3 ⟨rfl, hb3⟩
  have HB4 := hid (HB3.out.trans (hb3.mono (by omega)))
  have hs3 := HB4.out.size
  clear hb3
  go_wp2_with fail
  refine (CF.out w3).mono ?_
  rintro r w4 ⟨rfl, hb4⟩
  have HB5 := hid (HB4.out.trans (hb4.mono hs3))
  clear hb4
  go_wp2_with fail
  go_ret
  exact ⟨rfl, HB5.out⟩
end Go.Proofs.Ytolgpnaoaodepaa
