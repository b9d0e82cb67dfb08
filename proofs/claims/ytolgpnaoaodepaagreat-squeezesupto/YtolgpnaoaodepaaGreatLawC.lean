/- The walks of plays and of the statement itself, of the kinds 1 and 2. -/
import Derived.Test.YtolgpnaoaodepaaGreatLawB
namespace Go.Proofs.YtolgpnaoaodepaaGreat
open Go.RowKit

/-- A step lies there; its text is not too long. -/
def OpAt (w : World) (b o : Nat) : Prop := ∃ (k : Int) (s : ByteArray) (c1 c3 c4 c5 c6 c7 c8 c9 c10 c11 c12 : Value), s.size ≤ 1048576 ∧ w.cell? ⟨b, o, none⟩ = some (.int .i64 k) ∧ w.cell? ⟨b, o + 1, none⟩ = some c1 ∧ w.cell? ⟨b, o + 2, none⟩ = some (.string s) ∧ w.cell? ⟨b, o + 3, none⟩ = some c3 ∧ w.cell? ⟨b, o + 4, none⟩ = some c4 ∧ w.cell? ⟨b, o + 5, none⟩ = some c5 ∧ w.cell? ⟨b, o + 6, none⟩ = some c6 ∧ w.cell? ⟨b, o + 7, none⟩ = some c7 ∧ w.cell? ⟨b, o + 8, none⟩ = some c8 ∧ w.cell? ⟨b, o + 9, none⟩ = some c9 ∧ w.cell? ⟨b, o + 10, none⟩ = some c10 ∧ w.cell? ⟨b, o + 11, none⟩ = some c11 ∧ w.cell? ⟨b, o + 12, none⟩ = some c12
theorem OpAt.below {w w' : World} {b o B : Nat} (h : OpAt w b o) (hb : Below B w w') (hlt : b < B) : OpAt w' b o := by
  obtain ⟨k, s, c1, c3, c4, c5, c6, c7, c8, c9, c10, c11, c12, hs, e0, e1, e2, e3, e4, e5, e6, e7, e8, e9, e10, e11, e12⟩ := h
  have g := bcell hb
  exact ⟨k, s, c1, c3, c4, c5, c6, c7, c8, c9, c10, c11, c12, hs, (g _ _ hlt).trans e0, (g _ _ hlt).trans e1, (g _ _ hlt).trans e2, (g _ _ hlt).trans e3, (g _ _ hlt).trans e4, (g _ _ hlt).trans e5, (g _ _ hlt).trans e6, (g _ _ hlt).trans e7, (g _ _ hlt).trans e8, (g _ _ hlt).trans e9, (g _ _ hlt).trans e10, (g _ _ hlt).trans e11, (g _ _ hlt).trans e12⟩

/-- A script: nothing, or steps that lie in a row. -/
def IsScript (w : World) (a : Option Addr) (n cap : Nat) : Prop := n = 0 ∨ ∃ b off, a = some ⟨b, off, none⟩ ∧ n ≤ cap ∧ n ≤ 1048576 ∧ b < w.heap.size ∧ ∀ i, i < n → OpAt w b (off + i * 13)

set_option maxHeartbeats 2000000 in
set_option maxRecDepth 100000 in
theorem plays12_any (a : Option Addr) (n cap : Nat) (w : World) (hsc : IsScript w a n cap) :
    Calls Tryz.prog 10 #[.slice a n cap, .int .i64 1, .int .i64 2] w fun r w' => r = .returned (.bool true) ∧ Below w.heap.size w w' := by
  have hn : n ≤ 1048576 := by
    rcases hsc with h | ⟨b, off, _, _, h, _⟩ <;> omega
  have HSC := hid hsc
  clear hsc
  go_enter Tryz.func10, Tryz.ntmps10
  go_wp2_with fail
  refine (given12_any _ _).mono ?_
  rintro r w1 ⟨rfl, hb1⟩
  have HB1 := hid hb1
  clear hb1
  go_wp2_with fail
  go_loopw [9] (fun i wr => ∃ k : Nat, k ≤ n ∧ i = .int .i64 k ∧ Below (w.heap.size + 1) (w.alloc (.cells #[.slice none 0 0, .slice none 0 0, .slice none 0 0, .slice none 0 0, .slice none 0 0, .slice none 0 0, .slice none 0 0, .slice none 0 0, .slice none 0 0, .int .i64 0] 75)) wr) (fun i _ => n - (intOf i).toNat)
  case atStart => exact ⟨0, by omega, rfl, by simpa using HB1.out⟩
  case round =>
    obtain ⟨i, hi, rfl, hbk⟩ := hrel
    have hszk := size_past hbk
    by_cases hin : i < n
    · obtain ⟨b, off, rfl, hcap, _, hbw, hops⟩ : ∃ b off, a = some ⟨b, off, none⟩ ∧ n ≤ cap ∧ n ≤ 1048576 ∧ b < w.heap.size ∧ ∀ i, i < n → OpAt w b (off + i * 13) := by
        rcases HSC.out with h | h
        · omega
        · exact h
      obtain ⟨k, s, c1, c3, c4, c5, c6, c7, c8, c9, c10, c11, c12, hs, e0, e1, e2, e3, e4, e5, e6, e7, e8, e9, e10, e11, e12⟩ := ((hops i hin).below ((Below.refl w.heap.size w).alloc (Nat.le_refl _) _) hbw).below hbk (by omega)
      have HBK := hid hbk
      clear hbk hops
      by_cases hk : k = 1 ∨ k = 2
      · have hk1 : 1 ≤ k ∧ k ≤ 2 := by omega
        have HK := hid hk
        clear hk
        go_wp2_with fail
        refine (step12_any k _ s _ _ _ _ _ _ _ _ _ _ _ _ (by omega) HK.out).mono ?_
        rintro r w5 ⟨rfl, hb5⟩
        have HB5 := hid (HBK.out.trans (hb5.mono hszk))
        clear hb5 e0 e1 e2 e3 e4 e5 e6 e7 e8 e9 e10 e11 e12
        go_wp2_with fail
        go_roundw
        case rel => exact ⟨i + 1, by omega, by go_num, HB5.out⟩
        case measure => simp [intOf]; omega
      · by_cases hk1 : 1 ≤ k
        · have hk2 : 2 < k := by omega
          have hd : decide (k ≤ 2) = false := by simp; omega
          clear hk
          go_wp2_with fail
          go_roundw
          case rel => exact ⟨i + 1, by omega, by go_num, HBK.out⟩
          case measure => simp [intOf]; omega
        · have hd : decide (1 ≤ k) = false := by simp; omega
          clear hk
          go_wp2_with fail
          go_roundw
          case rel => exact ⟨i + 1, by omega, by go_num, HBK.out⟩
          case measure => simp [intOf]; omega
    · have f0 := bcell hbk w.heap.size 0 (by omega)
      have f1 := bcell hbk w.heap.size 1 (by omega)
      have f3 := bcell hbk w.heap.size 3 (by omega)
      have f5 := bcell hbk w.heap.size 5 (by omega)
      have f7 := bcell hbk w.heap.size 7 (by omega)
      simp at f0 f1 f3 f5 f7
      have HBK := hid (((Below.refl w.heap.size w).alloc (Nat.le_refl _) _).trans (hbk.mono (by omega)))
      clear hbk
      go_wp2_with fail
      go_loop [10] (fun i => i = .int .i64 0) (fun _ => 0)
      case atStart => rfl
      case round =>
        subst hrel
        go_wp2_with fail
        refine (looks_none w.heap.size _ f1 f3 f5 f7).mono ?_
        rintro r w5 ⟨rfl, hb5⟩
        have HB5 := hid (HBK.out.trans (hb5.mono (by omega)))
        clear hb5
        go_wp2_with fail
        go_ret
        exact ⟨rfl, HB5.out⟩

set_option maxHeartbeats 1000000 in
theorem squeezes_any (a : Option Addr) (n cap : Nat) (w : World) (hsc : IsScript w a n cap) :
    Calls Tryz.prog 3 #[.slice a n cap] w fun r w' => r = .returned (.bool true) ∧ Below w.heap.size w w' := by
  have HSC := hid hsc
  clear hsc
  go_enter Tryz.func3, Tryz.ntmps3
  go_wp2_with fail
  refine (plays12_any a n cap _ HSC.out).mono ?_
  rintro r w1 ⟨rfl, hb1⟩
  go_wp2_with fail
  go_ret
  exact ⟨rfl, hb1⟩
end Go.Proofs.YtolgpnaoaodepaaGreat
