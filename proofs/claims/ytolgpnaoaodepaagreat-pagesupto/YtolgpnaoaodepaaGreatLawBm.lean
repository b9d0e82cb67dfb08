/- The walk of given, of the kinds 1 and 2. -/
import Derived.Test.YtolgpnaoaodepaaGreatRefCm
import Derived.Deep.DrawnRows
import Derived.ProofKit
import Derived.OpenShut
import Derived.ShutString
import Derived.ChangeOld
import Derived.JoinedCond
import Derived.Deep.Slices
namespace Go.Proofs.YtolgpnaoaodepaaGreat
open Go.RowKit

/-- The leaf that is given. -/
def gl : List (ByteArray × ByteArray) := [(⟨#[97]⟩, ⟨#[120]⟩)]
def gPage : ByteArray := ⟨(Pg.leaf (plain gl)).toArray⟩
def gOld : ByteArray := ⟨(Pg.oldLeaf (plain gl)).toArray⟩
/-- What given lays first stands as it was laid; nothing elder has turned. -/
structure Giv (w w' : World) : Prop where
  bel : Below w.heap.size w w'
  sz : w.heap.size + 2 ≤ w'.heap.size
  it : w'.heap[w.heap.size]? = some (.cells #[.string ⟨#[97]⟩, .string ⟨#[120]⟩] 51 (0, 0))
  nd : w'.heap[w.heap.size + 1]? = some (.cells #[.int .i64 1, .slice (some ⟨w.heap.size, 0, none⟩) 1 1, .slice none 0 0, .slice none 0 0, .slice none 0 0] 79 (0, 0))
theorem Giv.next {w w' w'' : World} (h : Giv w w') (hb : Below w'.heap.size w' w'') : Giv w w'' :=
  ⟨h.bel.trans (hb.mono h.bel.size), Nat.le_trans h.sz hb.size, (hb.block _ (by have := h.sz; omega)).trans h.it, (hb.block _ (by have := h.sz; omega)).trans h.nd⟩
theorem Giv.cells {w w' : World} (h : Giv w w') : w'.cell? ⟨w.heap.size + 1, 0, none⟩ = some (.int .i64 1) ∧ w'.cell? ⟨w.heap.size + 1, 1, none⟩ = some (.slice (some ⟨w.heap.size, 0, none⟩) 1 1) ∧ w'.cell? ⟨w.heap.size + 1, 2, none⟩ = some (.slice none 0 0) ∧ w'.cell? ⟨w.heap.size + 1, 3, none⟩ = some (.slice none 0 0) ∧ w'.cell? ⟨w.heap.size + 1, 4, none⟩ = some (.slice none 0 0) := by
  have := h.nd
  refine ⟨?_, ?_, ?_, ?_, ?_⟩ <;> simp [World.cell?, this]
theorem Giv.items {w w' : World} (h : Giv w w') : IsItems w' (.slice (some ⟨w.heap.size, 0, none⟩) 1 1) gl := by
  refine .inr ⟨w.heap.size, 0, 1, rfl, Nat.le_refl _, by decide, by have := h.sz; omega, ?_⟩
  intro i hi
  have hi0 : i = 0 := by simp [gl] at hi; exact hi
  subst hi0
  have := h.it
  constructor <;> simp [World.cell?, this, gl]
theorem gl_sz : ∀ x ∈ gl, x.1.size ≤ 12 ∧ x.2.size ≤ 16 := by
  intro x hx; simp [gl] at hx; subst hx; decide
theorem gPage_any {w0 : World} (w : World) (h : Giv w0 w) :
    Calls Tryz.prog 48 #[.agg #[.int .i64 1, .slice (some ⟨w0.heap.size, 0, none⟩) 1 1, .slice none 0 0, .slice none 0 0, .slice none 0 0]] w fun r w' => r = .returned (.string gPage) ∧ Giv w0 w' :=
  (pageLeaf_any 1 _ _ _ _ gl w (by decide) h.items (by decide) gl_sz).mono fun _ _ hx => ⟨hx.1, h.next hx.2⟩
theorem gOld_any {w0 : World} (w : World) (h : Giv w0 w) :
    Calls Tryz.prog 49 #[.agg #[.int .i64 1, .slice (some ⟨w0.heap.size, 0, none⟩) 1 1, .slice none 0 0, .slice none 0 0, .slice none 0 0]] w fun r w' => r = .returned (.string gOld) ∧ Giv w0 w' :=
  (oldLeaf_any _ _ _ _ gl w h.items (by decide) gl_sz).mono fun _ _ hx => ⟨hx.1, h.next hx.2⟩
theorem Giv.drew {w w' : World} (h : Giv w w') : Giv w w'.drew := ⟨h.bel.drew, h.sz, h.it, h.nd⟩

/-- A step as it is laid: its kind and its text. -/
def opList (k : Int) (s : ByteArray) : List Value := [.int .i64 k, .int .i64 0, .string s, .string ⟨#[]⟩, .int .i64 0, .slice none 0 0, .slice none 0 0, .slice none 0 0, .slice none 0 0, .int .i64 0, .string ⟨#[]⟩, .string ⟨#[]⟩, .slice none 0 0]

attribute [local go_sem ↓] Go.wp_at_zero Go.wp_at_succ
set_option maxHeartbeats 1500000 in
set_option maxRecDepth 100000 in
theorem given12_any (p : Addr) (w : World) :
    Calls Tryz.prog 27 #[.pointer (some p), .int .i64 1, .int .i64 2] w fun r w' => r = .returned (.bool true) ∧ Below w.heap.size w w' := by
  have G0 : Giv w ((w.alloc (.cells #[.string ⟨#[97]⟩, .string ⟨#[120]⟩] 51)).alloc (.cells #[.int .i64 1, .slice (some ⟨w.heap.size, 0, none⟩) 1 1, .slice none 0 0, .slice none 0 0, .slice none 0 0] 79)) := by
    refine ⟨((Below.refl _ w).alloc (Nat.le_refl _) _).alloc (by simp) _, by simp, ?_, ?_⟩
    · rw [Below.heap_alloc _ _ _ (by simp)]; exact heap_alloc_new _ _
    · have := heap_alloc_new (w.alloc (.cells #[.string ⟨#[97]⟩, .string ⟨#[120]⟩] 51)) (.cells #[.int .i64 1, .slice (some ⟨w.heap.size, 0, none⟩) 1 1, .slice none 0 0, .slice none 0 0, .slice none 0 0] 79)
      simpa using this
  go_enter Tryz.func27, Tryz.ntmps27
  go_wp2_with fail
  generalize (w.alloc (.cells #[.string ⟨#[97]⟩, .string ⟨#[120]⟩] 51)).alloc (.cells #[.int .i64 1, .slice (some ⟨w.heap.size, 0, none⟩) 1 1, .slice none 0 0, .slice none 0 0, .slice none 0 0] 79) = w0 at *
  obtain ⟨a0, a1, a2, a3, a4⟩ := G0.cells
  have hz0 := G0.sz
  go_region_held3 (fun w' => w'.cell? ⟨w.heap.size + 1, 0, none⟩ = some (.int .i64 1) ∧ w'.cell? ⟨w.heap.size + 1, 1, none⟩ = some (.slice (some ⟨w.heap.size, 0, none⟩) 1 1) ∧ w'.cell? ⟨w.heap.size + 1, 2, none⟩ = some (.slice none 0 0) ∧ w'.cell? ⟨w.heap.size + 1, 3, none⟩ = some (.slice none 0 0) ∧ w'.cell? ⟨w.heap.size + 1, 4, none⟩ = some (.slice none 0 0)) (go_keep)
    (first
      | (go_at_call 48; refine (gPage_any _ (by first | exact G0.drew | assumption)).mono ?_; rintro r w3 ⟨rfl, G3⟩; obtain ⟨b0, b1, b2, b3, b4⟩ := G3.cells; have hz3 := G3.sz)
      | (go_at_call 49; refine (gOld_any _ (by assumption)).mono ?_; rintro r w3 ⟨rfl, G3⟩; obtain ⟨b0, b1, b2, b3, b4⟩ := G3.cells; have hz3 := G3.sz))
  all_goals go_wp2_with fail
  generalize hW : World.alloc (World.alloc w3 _) (Obj.cells _ 81 _) = W at *
  have hsW : w3.heap.size + 2 = W.heap.size := by rw [← hW]; simp
  have F0 : ∀ j, j < 13 → W.cell? ⟨w3.heap.size + 1, j, none⟩ = (opList 1 ⟨#[97, 98, 99, 97, 98, 99, 97, 98, 99]⟩)[j]? := by
    intro j hj
    rw [← hW, World.cell?_alloc_at _ _ _ _ (by simp)]
    match j, hj with
    | 0, _ => rfl
    | 1, _ => rfl
    | 2, _ => rfl
    | 3, _ => rfl
    | 4, _ => rfl
    | 5, _ => rfl
    | 6, _ => rfl
    | 7, _ => rfl
    | 8, _ => rfl
    | 9, _ => rfl
    | 10, _ => rfl
    | 11, _ => rfl
    | 12, _ => rfl
  have F1 : ∀ j, j < 13 → W.cell? ⟨w3.heap.size + 1, 13 + j, none⟩ = (opList 2 ⟨#[2, 97, 98, 99, 131, 3]⟩)[j]? := by
    intro j hj
    rw [← hW, World.cell?_alloc_at _ _ _ _ (by simp)]
    match j, hj with
    | 0, _ => rfl
    | 1, _ => rfl
    | 2, _ => rfl
    | 3, _ => rfl
    | 4, _ => rfl
    | 5, _ => rfl
    | 6, _ => rfl
    | 7, _ => rfl
    | 8, _ => rfl
    | 9, _ => rfl
    | 10, _ => rfl
    | 11, _ => rfl
    | 12, _ => rfl
  have FK : ∀ k, 2 ≤ k → k < 12 → ∃ n : Int, 3 ≤ n ∧ W.cell? ⟨w3.heap.size + 1, k * 13, none⟩ = some (.int .i64 n) := by
    intro k h1 h2
    rw [← hW, World.cell?_alloc_at _ _ _ _ (by simp)]
    match k, h1, h2 with
    | 2, _, _ => exact ⟨_, by decide, rfl⟩
    | 3, _, _ => exact ⟨_, by decide, rfl⟩
    | 4, _, _ => exact ⟨_, by decide, rfl⟩
    | 5, _, _ => exact ⟨_, by decide, rfl⟩
    | 6, _, _ => exact ⟨_, by decide, rfl⟩
    | 7, _, _ => exact ⟨_, by decide, rfl⟩
    | 8, _, _ => exact ⟨_, by decide, rfl⟩
    | 9, _, _ => exact ⟨_, by decide, rfl⟩
    | 10, _, _ => exact ⟨_, by decide, rfl⟩
    | 11, _, _ => exact ⟨_, by decide, rfl⟩
  have HBW : Hid (Below w.heap.size w W) := by
    rw [← hW]; exact (G3.bel.alloc (by omega) _).alloc (by simp; omega) _
  have HF0 := hid F0
  have HF1 := hid F1
  have HFK := hid FK
  clear hW F0 F1 FK
  go_loopw [9] (fun i wr => ∃ k : Nat, k ≤ 12 ∧ i = .int .i64 k ∧ Below (w3.heap.size + 2) W wr) (fun i _ => 12 - (intOf i).toNat)
  case atStart => exact ⟨0, by omega, rfl, Below.refl _ _⟩
  case round =>
    obtain ⟨k, hk, rfl, hbk⟩ := hrel
    by_cases hk12 : k < 12
    · by_cases hk2 : 2 ≤ k
      · obtain ⟨n, hn3, hn⟩ := HFK.out k hk2 hk12
        have hck := (bcell hbk (w3.heap.size + 1) (k * 13) (by omega)).trans hn
        have HBK := hid hbk
        clear hbk hn
        go_wp2_with fail
        go_roundw
        case rel => exact ⟨k + 1, by omega, by go_num, HBK.out⟩
        case measure => simp [intOf]; omega
      · rcases (show k = 0 ∨ k = 1 by omega) with rfl | rfl
        · have d0 : wr.cell? ⟨w3.heap.size + 1, 0, none⟩ = some (.int .i64 1) := (bcell hbk _ _ (by omega)).trans (HF0.out 0 (by omega))
          have d1 : wr.cell? ⟨w3.heap.size + 1, 1, none⟩ = some (.int .i64 0) := (bcell hbk _ _ (by omega)).trans (HF0.out 1 (by omega))
          have d2 : wr.cell? ⟨w3.heap.size + 1, 2, none⟩ = some (.string ⟨#[97, 98, 99, 97, 98, 99, 97, 98, 99]⟩) := (bcell hbk _ _ (by omega)).trans (HF0.out 2 (by omega))
          have d3 : wr.cell? ⟨w3.heap.size + 1, 3, none⟩ = some (.string ⟨#[]⟩) := (bcell hbk _ _ (by omega)).trans (HF0.out 3 (by omega))
          have d4 : wr.cell? ⟨w3.heap.size + 1, 4, none⟩ = some (.int .i64 0) := (bcell hbk _ _ (by omega)).trans (HF0.out 4 (by omega))
          have d5 : wr.cell? ⟨w3.heap.size + 1, 5, none⟩ = some (.slice none 0 0) := (bcell hbk _ _ (by omega)).trans (HF0.out 5 (by omega))
          have d6 : wr.cell? ⟨w3.heap.size + 1, 6, none⟩ = some (.slice none 0 0) := (bcell hbk _ _ (by omega)).trans (HF0.out 6 (by omega))
          have d7 : wr.cell? ⟨w3.heap.size + 1, 7, none⟩ = some (.slice none 0 0) := (bcell hbk _ _ (by omega)).trans (HF0.out 7 (by omega))
          have d8 : wr.cell? ⟨w3.heap.size + 1, 8, none⟩ = some (.slice none 0 0) := (bcell hbk _ _ (by omega)).trans (HF0.out 8 (by omega))
          have d9 : wr.cell? ⟨w3.heap.size + 1, 9, none⟩ = some (.int .i64 0) := (bcell hbk _ _ (by omega)).trans (HF0.out 9 (by omega))
          have d10 : wr.cell? ⟨w3.heap.size + 1, 10, none⟩ = some (.string ⟨#[]⟩) := (bcell hbk _ _ (by omega)).trans (HF0.out 10 (by omega))
          have d11 : wr.cell? ⟨w3.heap.size + 1, 11, none⟩ = some (.string ⟨#[]⟩) := (bcell hbk _ _ (by omega)).trans (HF0.out 11 (by omega))
          have d12 : wr.cell? ⟨w3.heap.size + 1, 12, none⟩ = some (.slice none 0 0) := (bcell hbk _ _ (by omega)).trans (HF0.out 12 (by omega))
          have HBK := hid hbk
          have hszk := hbk.size
          clear hbk
          go_wp2_with fail
          refine (step12_any 1 p ⟨#[97, 98, 99, 97, 98, 99, 97, 98, 99]⟩ _ _ _ _ _ _ _ _ _ _ _ _ (by decide) (by decide)).mono ?_
          rintro r w5 ⟨rfl, hb5⟩
          have HB5 := hid (HBK.out.trans (hb5.mono (by omega)))
          clear hb5 d0 d1 d2 d3 d4 d5 d6 d7 d8 d9 d10 d11 d12
          go_wp2_with fail
          go_roundw
          case rel => exact ⟨1, by omega, rfl, HB5.out⟩
          case measure => simp [intOf]
        · have d0 : wr.cell? ⟨w3.heap.size + 1, 13, none⟩ = some (.int .i64 2) := (bcell hbk _ _ (by omega)).trans (HF1.out 0 (by omega))
          have d1 : wr.cell? ⟨w3.heap.size + 1, 14, none⟩ = some (.int .i64 0) := (bcell hbk _ _ (by omega)).trans (HF1.out 1 (by omega))
          have d2 : wr.cell? ⟨w3.heap.size + 1, 15, none⟩ = some (.string ⟨#[2, 97, 98, 99, 131, 3]⟩) := (bcell hbk _ _ (by omega)).trans (HF1.out 2 (by omega))
          have d3 : wr.cell? ⟨w3.heap.size + 1, 16, none⟩ = some (.string ⟨#[]⟩) := (bcell hbk _ _ (by omega)).trans (HF1.out 3 (by omega))
          have d4 : wr.cell? ⟨w3.heap.size + 1, 17, none⟩ = some (.int .i64 0) := (bcell hbk _ _ (by omega)).trans (HF1.out 4 (by omega))
          have d5 : wr.cell? ⟨w3.heap.size + 1, 18, none⟩ = some (.slice none 0 0) := (bcell hbk _ _ (by omega)).trans (HF1.out 5 (by omega))
          have d6 : wr.cell? ⟨w3.heap.size + 1, 19, none⟩ = some (.slice none 0 0) := (bcell hbk _ _ (by omega)).trans (HF1.out 6 (by omega))
          have d7 : wr.cell? ⟨w3.heap.size + 1, 20, none⟩ = some (.slice none 0 0) := (bcell hbk _ _ (by omega)).trans (HF1.out 7 (by omega))
          have d8 : wr.cell? ⟨w3.heap.size + 1, 21, none⟩ = some (.slice none 0 0) := (bcell hbk _ _ (by omega)).trans (HF1.out 8 (by omega))
          have d9 : wr.cell? ⟨w3.heap.size + 1, 22, none⟩ = some (.int .i64 0) := (bcell hbk _ _ (by omega)).trans (HF1.out 9 (by omega))
          have d10 : wr.cell? ⟨w3.heap.size + 1, 23, none⟩ = some (.string ⟨#[]⟩) := (bcell hbk _ _ (by omega)).trans (HF1.out 10 (by omega))
          have d11 : wr.cell? ⟨w3.heap.size + 1, 24, none⟩ = some (.string ⟨#[]⟩) := (bcell hbk _ _ (by omega)).trans (HF1.out 11 (by omega))
          have d12 : wr.cell? ⟨w3.heap.size + 1, 25, none⟩ = some (.slice none 0 0) := (bcell hbk _ _ (by omega)).trans (HF1.out 12 (by omega))
          have HBK := hid hbk
          have hszk := hbk.size
          clear hbk
          go_wp2_with fail
          refine (step12_any 2 p ⟨#[2, 97, 98, 99, 131, 3]⟩ _ _ _ _ _ _ _ _ _ _ _ _ (by decide) (by decide)).mono ?_
          rintro r w5 ⟨rfl, hb5⟩
          have HB5 := hid (HBK.out.trans (hb5.mono (by omega)))
          clear hb5 d0 d1 d2 d3 d4 d5 d6 d7 d8 d9 d10 d11 d12
          go_wp2_with fail
          go_roundw
          case rel => exact ⟨2, by omega, rfl, HB5.out⟩
          case measure => simp [intOf]
    · have HBK := hid hbk
      clear hbk
      go_wp2_with fail
      go_ret
      exact ⟨rfl, HBW.out.trans (HBK.out.mono (by omega))⟩
end Go.Proofs.YtolgpnaoaodepaaGreat
/- The walks of plays and of the statement itself, of the kinds 1 and 2. -/
namespace Go.Proofs.YtolgpnaoaodepaaGreat
open Go.RowKit

/-- A step lies there; its text is not too long. -/
def OpAt (w : World) (b o : Nat) : Prop := ∃ (k : Int) (s : ByteArray) (c1 c3 c4 c5 c6 c7 c8 c9 c10 c11 c12 : Value), s.size ≤ 1048576 ∧ w.cell? ⟨b, o, none⟩ = some (.int .i64 k) ∧ w.cell? ⟨b, o + 1, none⟩ = some c1 ∧ w.cell? ⟨b, o + 2, none⟩ = some (.string s) ∧ w.cell? ⟨b, o + 3, none⟩ = some c3 ∧ w.cell? ⟨b, o + 4, none⟩ = some c4 ∧ w.cell? ⟨b, o + 5, none⟩ = some c5 ∧ w.cell? ⟨b, o + 6, none⟩ = some c6 ∧ w.cell? ⟨b, o + 7, none⟩ = some c7 ∧ w.cell? ⟨b, o + 8, none⟩ = some c8 ∧ w.cell? ⟨b, o + 9, none⟩ = some c9 ∧ w.cell? ⟨b, o + 10, none⟩ = some c10 ∧ w.cell? ⟨b, o + 11, none⟩ = some c11 ∧ w.cell? ⟨b, o + 12, none⟩ = some c12
theorem OpAt.below {w w' : World} {b o B : Nat} (h : OpAt w b o) (hb : Below B w w') (hlt : b < B) : OpAt w' b o := by
  obtain ⟨k, s, c1, c3, c4, c5, c6, c7, c8, c9, c10, c11, c12, hs, e0, e1, e2, e3, e4, e5, e6, e7, e8, e9, e10, e11, e12⟩ := h
  have g := bcell hb
  exact ⟨k, s, c1, c3, c4, c5, c6, c7, c8, c9, c10, c11, c12, hs, (g _ _ hlt).trans e0, (g _ _ hlt).trans e1, (g _ _ hlt).trans e2, (g _ _ hlt).trans e3, (g _ _ hlt).trans e4, (g _ _ hlt).trans e5, (g _ _ hlt).trans e6, (g _ _ hlt).trans e7, (g _ _ hlt).trans e8, (g _ _ hlt).trans e9, (g _ _ hlt).trans e10, (g _ _ hlt).trans e11, (g _ _ hlt).trans e12⟩

/-- A script: nothing, or steps that lie in a row. -/
def IsScript (w : World) (a : Option Addr) (n cap : Nat) : Prop := n = 0 ∨ ∃ b off, a = some ⟨b, off, none⟩ ∧ n ≤ cap ∧ n ≤ 1048576 ∧ b < w.heap.size ∧ ∀ i, i < n → OpAt w b (off + i * 13)

set_option maxHeartbeats 2000000 in
set_option maxRecDepth 100000 in
theorem plays12_any (a : Option Addr) (n cap : Nat) (w : World) (hsc : IsScript w a n cap) :
    Calls Tryz.prog 10 #[.slice a n cap, .int .i64 1, .int .i64 2] w fun r w' => r = .returned (.bool true) ∧ Below w.heap.size w w' := by
  have hn : n ≤ 1048576 := by
    rcases hsc with h | ⟨b, off, _, _, h, _⟩ <;> omega
  have HSC := hid hsc
  clear hsc
  go_enter Tryz.func10, Tryz.ntmps10
  go_wp2_with fail
  refine (given12_any _ _).mono ?_
  rintro r w1 ⟨rfl, hb1⟩
  have HB1 := hid hb1
  clear hb1
  go_wp2_with fail
  go_loopw [9] (fun i wr => ∃ k : Nat, k ≤ n ∧ i = .int .i64 k ∧ Below (w.heap.size + 1) (w.alloc (.cells #[.slice none 0 0, .slice none 0 0, .slice none 0 0, .slice none 0 0, .slice none 0 0, .slice none 0 0, .slice none 0 0, .slice none 0 0, .slice none 0 0, .int .i64 0] 75)) wr) (fun i _ => n - (intOf i).toNat)
  case atStart => exact ⟨0, by omega, rfl, by simpa using HB1.out⟩
  case round =>
    obtain ⟨i, hi, rfl, hbk⟩ := hrel
    have hszk := size_past hbk
    by_cases hin : i < n
    · obtain ⟨b, off, rfl, hcap, _, hbw, hops⟩ : ∃ b off, a = some ⟨b, off, none⟩ ∧ n ≤ cap ∧ n ≤ 1048576 ∧ b < w.heap.size ∧ ∀ i, i < n → OpAt w b (off + i * 13) := by
        rcases HSC.out with h | h
        · omega
        · exact h
      obtain ⟨k, s, c1, c3, c4, c5, c6, c7, c8, c9, c10, c11, c12, hs, e0, e1, e2, e3, e4, e5, e6, e7, e8, e9, e10, e11, e12⟩ := ((hops i hin).below ((Below.refl w.heap.size w).alloc (Nat.le_refl _) _) hbw).below hbk (by omega)
      have HBK := hid hbk
      clear hbk hops
      by_cases hk : k = 1 ∨ k = 2
      · have hk1 : 1 ≤ k ∧ k ≤ 2 := by omega
        have HK := hid hk
        clear hk
        go_wp2_with fail
        refine (step12_any k _ s _ _ _ _ _ _ _ _ _ _ _ _ (by omega) HK.out).mono ?_
        rintro r w5 ⟨rfl, hb5⟩
        have HB5 := hid (HBK.out.trans (hb5.mono hszk))
        clear hb5 e0 e1 e2 e3 e4 e5 e6 e7 e8 e9 e10 e11 e12
        go_wp2_with fail
        go_roundw
        case rel => exact ⟨i + 1, by omega, by go_num, HB5.out⟩
        case measure => simp [intOf]; omega
      · by_cases hk1 : 1 ≤ k
        · have hk2 : 2 < k := by omega
          have hd : decide (k ≤ 2) = false := by simp; omega
          clear hk
          go_wp2_with fail
          go_roundw
          case rel => exact ⟨i + 1, by omega, by go_num, HBK.out⟩
          case measure => simp [intOf]; omega
        · have hd : decide (1 ≤ k) = false := by simp; omega
          clear hk
          go_wp2_with fail
          go_roundw
          case rel => exact ⟨i + 1, by omega, by go_num, HBK.out⟩
          case measure => simp [intOf]; omega
    · have f0 := bcell hbk w.heap.size 0 (by omega)
      have f1 := bcell hbk w.heap.size 1 (by omega)
      have f3 := bcell hbk w.heap.size 3 (by omega)
      have f5 := bcell hbk w.heap.size 5 (by omega)
      have f7 := bcell hbk w.heap.size 7 (by omega)
      simp at f0 f1 f3 f5 f7
      have HBK := hid (((Below.refl w.heap.size w).alloc (Nat.le_refl _) _).trans (hbk.mono (by omega)))
      clear hbk
      go_wp2_with fail
      go_loop [10] (fun i => i = .int .i64 0) (fun _ => 0)
      case atStart => rfl
      case round =>
        subst hrel
        go_wp2_with fail
        refine (looks_none w.heap.size _ f1 f3 f5 f7).mono ?_
        rintro r w5 ⟨rfl, hb5⟩
        have HB5 := hid (HBK.out.trans (hb5.mono (by omega)))
        clear hb5
        go_wp2_with fail
        go_ret
        exact ⟨rfl, HB5.out⟩

set_option maxHeartbeats 1000000 in
theorem squeezes_any (a : Option Addr) (n cap : Nat) (w : World) (hsc : IsScript w a n cap) :
    Calls Tryz.prog 3 #[.slice a n cap] w fun r w' => r = .returned (.bool true) ∧ Below w.heap.size w w' := by
  have HSC := hid hsc
  clear hsc
  go_enter Tryz.func3, Tryz.ntmps3
  go_wp2_with fail
  refine (plays12_any a n cap _ HSC.out).mono ?_
  rintro r w1 ⟨rfl, hb1⟩
  go_wp2_with fail
  go_ret
  exact ⟨rfl, hb1⟩
end Go.Proofs.YtolgpnaoaodepaaGreat
/- THE STATEMENT: whatever script comes in (of bulk at most 1048576), siltlaw's Squeezes answers true, and the script reads behind the call as it read before. No condition of ours stands in it. -/
namespace Go.Proofs.YtolgpnaoaodepaaGreat
open Go.ChangeShapes Go.WideShapes Go.ChangeAt Go.RowKit Go.Deep

theorem own : ownKnob Tryz.prog.godebug = none := by kernel_rfl
theorem laidOut : laidOutB Tryz.prog = true := by kernel_rfl
theorem cellsOp : Tryz.prog.cellsOf 81 = 13 := by kernel_rfl
theorem cellsInt : Tryz.prog.cellsOf 3 = 1 := by kernel_rfl
theorem cellsStr : Tryz.prog.cellsOf 9 = 1 := by kernel_rfl

theorem bulk_part {H : Type} {d : DataW H} {l : List (DataW H)} (h : d ∈ l) : Rows.uptoBulk d ≤ Rows.uptoBulkAll l := by
  induction l with
  | nil => cases h
  | cons x r ih =>
    simp only [Rows.uptoBulkAll]
    cases List.mem_cons.1 h with
    | inl e => subst e; omega
    | inr e => have := ih e; omega
theorem bulk_one {H : Type} (d : DataW H) : 1 ≤ Rows.uptoBulk d := by
  cases d with
  | lit l => cases l <;> simp [Rows.uptoBulk]
  | nil => simp [Rows.uptoBulk]
  | ptr d => simp [Rows.uptoBulk]
  | slice elems spare => simp [Rows.uptoBulk]
  | agg parts => simp [Rows.uptoBulk]
  | iface t d => simp [Rows.uptoBulk]
  | map entries => simp [Rows.uptoBulk]
  | held h => simp [Rows.uptoBulk]
theorem bulk_len {H : Type} (l : List (DataW H)) : l.length ≤ Rows.uptoBulkAll l := by
  induction l with
  | nil => simp [Rows.uptoBulkAll]
  | cons x r ih => have := bulk_one x; simp only [Rows.uptoBulkAll, List.length_cons]; omega

theorem block_lt {W : World} {b o : Nat} {v : Value} (h : W.cell? ⟨b, o, none⟩ = some v) : b < W.heap.size := by
  rcases Nat.lt_or_ge b W.heap.size with h' | h'
  · exact h'
  · simp [World.cell?, Array.getElem?_eq_none h'] at h

set_option maxRecDepth 100000 in
/-- A step of the script that came in. -/
theorem op_of {H : Type} {enc : TypeId × Value → H} {W : World} {fuel b o : Nat} {cs : List Value} {d : DataW H} {pl : List MemPlace}
    (hc : W.cells? 0 ⟨b, o, none⟩ 13 = some cs) (hd : DataW.trod enc Tryz.prog W 0 (fun _ => true) true fuel 81 cs = some (d, pl)) (hb : Rows.uptoBulk d ≤ 1048576) : OpAt W b o := by
  obtain ⟨_, hlen, hcell⟩ := World.cells?_some hc
  obtain ⟨xs, n, _, hx, _, hxl, hf⟩ := DataW.trod_struct Tryz.underlying81 hd
  have f0 : DataW.trod enc Tryz.prog W 0 (fun _ => true) true n 3 ((cs.drop 0).take (Tryz.prog.cellsOf 3)) = xs[0]? := hf 0 _ rfl
  have f2 : DataW.trod enc Tryz.prog W 0 (fun _ => true) true n 9 ((cs.drop 2).take (Tryz.prog.cellsOf 9)) = xs[2]? := hf 2 _ rfl
  rw [cellsInt] at f0
  rw [cellsStr] at f2
  match cs, hlen with
  | [v0, v1, v2, v3, v4, v5, v6, v7, v8, v9, v10, v11, v12], _ =>
    simp only [List.drop_zero, List.drop_succ_cons, List.take_succ_cons, List.take_zero] at f0 f2
    have hx0 : 0 < xs.length := by rw [hxl]; decide
    have hx2 : 2 < xs.length := by rw [hxl]; decide
    rw [List.getElem?_eq_getElem hx0] at f0
    rw [List.getElem?_eq_getElem hx2] at f2
    obtain ⟨k, e0, _, _⟩ := DataW.trod_int Tryz.underlying3 f0
    obtain ⟨s, e2, hy2, _⟩ := DataW.trod_string Tryz.underlying9 f2
    simp only [List.cons.injEq, and_true] at e0 e2
    subst e0 e2
    have hd' : d = .agg (xs.map (·.1)) := congrArg Prod.fst hx
    have hm : DataW.lit (.string s.data.toList) ∈ xs.map (·.1) := List.mem_map.2 ⟨xs[2], List.getElem_mem hx2, by rw [hy2]⟩
    have h1 := bulk_part hm
    rw [hd'] at hb
    simp only [Rows.uptoBulk] at hb h1
    rw [len_size] at h1
    have g : ∀ j, j < 13 → W.cell? ⟨b, o + j, none⟩ = [Value.int .i64 k, v1, .string s, v3, v4, v5, v6, v7, v8, v9, v10, v11, v12][j]? := fun j hj => by
      have := hcell j hj
      by_cases h0 : j = 0
      · subst h0; simpa [Addr.add] using this
      · simpa [Addr.add, h0] using this
    exact ⟨k, s, v1, v3, v4, v5, v6, v7, v8, v9, v10, v11, v12, by omega, g 0 (by decide), g 1 (by decide), g 2 (by decide), g 3 (by decide), g 4 (by decide), g 5 (by decide), g 6 (by decide), g 7 (by decide), g 8 (by decide), g 9 (by decide), g 10 (by decide), g 11 (by decide), g 12 (by decide)⟩

/-- The script that came in. -/
theorem script_of {H : Type} {enc : TypeId × Value → H} {W : World} {a : Option Addr} {n cap fuel : Nat} {d : DataW H} {pl : List MemPlace}
    (hd : DataW.trod enc Tryz.prog W 0 (fun _ => true) true fuel 22 [.slice a n cap] = some (d, pl)) (hb : Rows.uptoBulk d ≤ 1048576) : IsScript W a n cap := by
  rcases open_slice Tryz.underlying22 hd with ⟨hcs, _⟩ | ⟨ad, len, cp, m, q, D, Pl, hcs, _, hl, hm, hmm, hx, hel⟩
  · simp at hcs; exact .inl hcs.2.1
  · simp only [List.cons.injEq, Value.slice.injEq, and_true] at hcs
    obtain ⟨rfl, rfl, rfl⟩ := hcs
    by_cases hn : n = 0
    · exact .inl hn
    · right
      have hmn : n ≤ m := by rw [hmm]; split <;> omega
      obtain ⟨blk, off, spot⟩ := ad
      have hd' : d = .slice ((List.range n).map D) ((List.range (m - n)).map fun j => D (n + j)) := congrArg Prod.fst hx
      rw [hd'] at hb
      simp only [Rows.uptoBulk] at hb
      have hbe : ∀ i, i < n → Rows.uptoBulk (D i) ≤ 1048576 := fun i hi => by
        have := bulk_part (d := D i) (l := (List.range n).map D) (List.mem_map.2 ⟨i, List.mem_range.2 hi, rfl⟩)
        omega
      have hle := bulk_len ((List.range n).map D)
      rw [List.length_map, List.length_range] at hle
      rw [cellsOp] at hel
      obtain ⟨cs0, hc0, _⟩ := hel 0 (by omega)
      obtain ⟨_, _, hcell0⟩ := World.cells?_some hc0
      have hlen0 : cs0.length = 13 := (World.cells?_some hc0).2.1
      have h00 := hcell0 0 (by omega)
      rw [List.getElem?_eq_getElem (by omega)] at h00
      have hspot : spot = none := by simpa [Addr.add] using World.cell?_spot h00
      subst hspot
      have hblk : blk < W.heap.size := by
        have h01 : W.cell? ⟨blk, off, none⟩ = some cs0[0] := by simpa [Addr.add] using h00
        exact block_lt h01
      refine ⟨blk, off, rfl, hl, by omega, hblk, fun i hi => ?_⟩
      obtain ⟨cs', h1, h2⟩ := hel i (by omega)
      have ha : (⟨blk, off, none⟩ : Addr).add (i * 13) = ⟨blk, off + i * 13, none⟩ := by
        unfold Addr.add; split
        · rename_i h0; rw [h0]; rfl
        · rfl
      rw [ha] at h1
      exact op_of h1 h2 (hbe i hi)

set_option maxRecDepth 100000 in
theorem contract (H : Type) (enc : TypeId × Value → H) (W : World) (base : Nat) (args : Array Value) (ds gs : List (DataW H)) (before : List MemPlace)
    (hval : ∀ (j : Nat) t v, Tryz.f3.params[j]? = some t → args[j]? = some v → Value.okWide Tryz.prog W .any base t v)
    (hW : DataW.Whole enc Tryz.prog Tryz.f3.params.toList Rows.squeezesSpec.vars false W args.toList ds gs before) (hk : Rows.uptoSmall H (ds ++ gs) = true) :
    Calls Tryz.prog 3 args W fun e W' => ∃ v, e = .returned v ∧ Rows.squeezesSpec.post enc Tryz.prog Tryz.f3 false true false false W args v W' := by
  have hW' := hW
  obtain ⟨p, q, hA0, hV, rfl, hfz, hnd⟩ := hW
  have hA : DataW.TrodAll enc Tryz.prog W 0 (fun _ => true) true Tryz.f3.params.toList args.toList ds p := hA0
  rw [Tryz.params3] at hA hval
  obtain ⟨v0, vs0, d0, ds0, p0, q0, hargs, rfl, rfl, h0, r0⟩ := trodAll_cons hA
  obtain ⟨rfl, rfl, rfl⟩ := trodAll_nil r0
  obtain rfl : args = #[v0] := by cases args; simp_all
  obtain ⟨rfl, rfl⟩ := trodVars_none hV
  obtain ⟨a0, len0, cap0, rfl⟩ := okWide_slice Tryz.underlying22 (hval 0 22 v0 rfl rfl)
  have k0 := h0
  have lt0 : ∀ x ∈ p0, x.block < W.heap.size := by obtain ⟨m, hm⟩ := k0; exact DataW.trod_lt m _ _ _ hm
  clear hA0
  simp only [List.append_nil] at hk
  have hbulk : Rows.uptoBulkAll [d0] ≤ 1048576 := of_decide_eq_true hk
  simp only [Rows.uptoBulkAll] at hbulk
  obtain ⟨fuel, hf⟩ := h0
  have hsc : IsScript W a0 len0 cap0 := script_of (by simpa [Value.cells] using hf) (by omega)
  refine (squeezes_any a0 len0 cap0 W hsc).mono fun e W' ⟨he, bel⟩ => ?_
  subst he
  exact ⟨_, rfl, _, _, _, [], _, [], hW', trodAll_mk1 (shut_bool Tryz.underlying4 _), (trodAll_cons_mk (Below.trod laidOut (by kernel_rfl) (of_decide_eq_true (by kernel_rfl)) k0 bel lt0) trodAll_mk0), rfl, bel.frame _, fun h => by cases h⟩

set_option maxRecDepth 100000 in
theorem lifted (os : Os) (started : os.Started) (H : Type) (enc : TypeId × Value → H) (F : Stop.Interp) :
    ReturnsInHanded {} Tryz.checked os 3 .any ((Rows.OpenSpec.upto Rows.squeezesSpec).pre6 enc Tryz.prog Tryz.f3 Rows.squeezesUptoRow.domain false) (((Rows.OpenSpec.upto Rows.squeezesSpec).at F).post enc Tryz.prog Tryz.f3 false true false false) := by
  refine returnsInHanded_of_cond (C := Tryz.checked) (s := Rows.OpenSpec.upto Rows.squeezesSpec) (k := Rows.uptoSmall) rfl own started (by kernel_rfl) Tryz.func3
    (OpenSpec.witness (enc := enc) (C := Tryz.checked) (s := Rows.OpenSpec.upto Rows.squeezesSpec) (k := Rows.uptoSmall) rfl false ⟨#[], #[.slice none 0 0], []⟩ 8 (by kernel_rfl) (by kernel_rfl) (by kernel_rfl)
      (x := ([.nil], [], [])) (by kernel_rfl) rfl (by kernel_rfl)) ?_
  intro W base args ds gs before hval hW _ hk _
  exact contract H enc W base args ds gs before hval hW hk

/-- ████ THE STATEMENT ████ -/
theorem squeezes_upto : Rows.SqueezesUptoSaid :=
  OpenClaim.holds_of_cond 3 Tryz.f3 rfl rfl rfl rfl rfl rfl rfl ⟨rfl, rfl, rfl, rfl, rfl⟩ rfl rfl rfl rfl rfl (by kernel_rfl) Tryz.func3 (by kernel_rfl)
    (of_decide_eq_true (by kernel_rfl)) (by unfold Func.isWrapper; first | (rw [if_pos (by decide +kernel)]; kernel_rfl) | (rw [if_neg (by decide +kernel)]; exact ⟨rfl, rfl⟩))
    (fun os started H enc _ F => lifted os started H enc F)
#print axioms squeezes_upto
end Go.Proofs.YtolgpnaoaodepaaGreat
