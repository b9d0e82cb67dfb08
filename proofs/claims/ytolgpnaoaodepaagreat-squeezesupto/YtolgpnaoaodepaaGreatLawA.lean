/- The walks of the statements' own steps: num, squeezed, step (of the kinds 1 and 2), looks (of an empty book). -/
import Derived.Test.YtolgpnaoaodepaaGreatWalkI
namespace Go.Proofs.YtolgpnaoaodepaaGreat
open Go.RowKit

set_option maxHeartbeats 400000 in
theorem num_any (e : Int) (w : World) : Calls Tryz.prog 96 #[.int .i64 e] w fun r w' => r = .returned (.int .i64 e) ∧ w' = w := by
  go_enter Tryz.func96, Tryz.ntmps96
  go_wp2
  go_ret
  exact ⟨rfl, rfl⟩

theorem bcell {W w1 : World} {B : Nat} (hb : Below B W w1) : (∀ b o, b < B → w1.cell? ⟨b, o, none⟩ = W.cell? ⟨b, o, none⟩) :=
  fun b o h => hb.cell (p := ⟨b, o, none⟩) h

set_option maxHeartbeats 1000000 in
theorem squeezed_any (k : Int) (s : ByteArray) (c1 c3 c4 c5 c6 c7 c8 c9 c10 c11 c12 : Value) (w : World) (hs : s.size ≤ 68719476736) :
    Calls Tryz.prog 50 #[.agg #[.int .i64 k, c1, .string s, c3, c4, c5, c6, c7, c8, c9, c10, c11, c12]] w fun r w' => r = .returned (.bool true) ∧ Below w.heap.size w w' := by
  by_cases hk : k = 1
  · subst hk
    go_enter Tryz.func50, Tryz.ntmps50
    go_wp2_with fail
    refine (siltSqueeze_any s _ (by omega)).mono ?_
    rintro r w1 ⟨rfl, hb1⟩
    have hc1 := bcell hb1
    simp only [World.size_alloc] at hc1
    have hsz1 := hb1.size
    simp only [World.size_alloc] at hsz1
    have HB1 := hid hb1
    clear hb1
    go_wp2_with fail
    refine (refSqueeze_any s _ (by omega)).mono ?_
    rintro r w2 ⟨rfl, hb2⟩
    have HB2 := hid ((((Below.refl w.heap.size w).alloc (Nat.le_refl _) _).trans (HB1.out.mono (by simp))).trans (hb2.mono (by omega)))
    clear hb2 hc1
    go_wp2_with fail
    go_ret
    exact ⟨rfl, HB2.out⟩
  · have hk' : (k == 1) = false := by simpa using hk
    go_enter Tryz.func50, Tryz.ntmps50
    go_wp2_with fail
    refine (siltSpread_any s _ hs).mono ?_
    rintro r w1 ⟨rfl, hb1⟩
    have hc1 := bcell hb1
    simp only [World.size_alloc] at hc1
    have hsz1 := hb1.size
    simp only [World.size_alloc] at hsz1
    have HB1 := hid hb1
    clear hb1
    go_wp2_with fail
    refine (refSpread_any s _ hs).mono ?_
    rintro r w2 ⟨rfl, hb2⟩
    have HB2 := hid ((((Below.refl w.heap.size w).alloc (Nat.le_refl _) _).trans (HB1.out.mono (by simp))).trans (hb2.mono (by omega)))
    clear hb2 hc1
    go_wp2_with (go_at_call 96; refine (num_any _ _).mono ?_; rintro e w' ⟨rfl, rfl⟩)
    go_ret
    exact ⟨rfl, HB2.out⟩

/-- The steps of the kinds 1 and 2. -/
theorem step12_any (k : Int) (p : Addr) (s : ByteArray) (c1 c3 c4 c5 c6 c7 c8 c9 c10 c11 c12 : Value) (w : World) (hs : s.size ≤ 68719476736) (hk : k = 1 ∨ k = 2) :
    Calls Tryz.prog 28 #[.pointer (some p), .agg #[.int .i64 k, c1, .string s, c3, c4, c5, c6, c7, c8, c9, c10, c11, c12]] w fun r w' => r = .returned (.bool true) ∧ Below w.heap.size w w' := by
  rcases hk with rfl | rfl
  all_goals
    go_enter Tryz.func28, Tryz.ntmps28
    go_wp2_with fail
    refine (squeezed_any _ s _ _ _ _ _ _ _ _ _ _ _ _ hs).mono ?_
    rintro r w1 ⟨rfl, hb1⟩
    have HB1 := hid (((Below.refl w.heap.size w).alloc (Nat.le_refl _) _).trans (hb1.mono (by simp)))
    clear hb1
    go_wp2_with fail
    go_ret
    exact ⟨rfl, HB1.out⟩

set_option maxHeartbeats 2000000 in
set_option maxRecDepth 100000 in
theorem looks_none (b : Nat) (w : World) (h1 : w.cell? ⟨b, 1, none⟩ = some (.slice none 0 0)) (h3 : w.cell? ⟨b, 3, none⟩ = some (.slice none 0 0)) (h5 : w.cell? ⟨b, 5, none⟩ = some (.slice none 0 0)) (h7 : w.cell? ⟨b, 7, none⟩ = some (.slice none 0 0)) :
    Calls Tryz.prog 30 #[.pointer (some ⟨b, 1, none⟩)] w fun r w' => r = .returned (.bool true) ∧ Below w.heap.size w w' := by
  go_enter Tryz.func30, Tryz.ntmps30
  go_wp2_with fail
  go_loop [3] (fun i => i = .int .i64 0) (fun _ => 0)
  case atStart => rfl
  case round =>
    subst hrel
    go_wp2_with fail
    go_loop [5] (fun i => i = .int .i64 0) (fun _ => 0)
    case atStart => rfl
    case round =>
      subst hrel
      go_wp2_with fail
      go_loop [7] (fun i => i = .int .i64 0) (fun _ => 0)
      case atStart => rfl
      case round =>
        subst hrel
        go_wp2_with fail
        go_loop [9] (fun i => i = .int .i64 0) (fun _ => 0)
        case atStart => rfl
        case round =>
          subst hrel
          go_wp2_with fail
          go_ret
          exact ⟨rfl, Below.refl _ _⟩
end Go.Proofs.YtolgpnaoaodepaaGreat
