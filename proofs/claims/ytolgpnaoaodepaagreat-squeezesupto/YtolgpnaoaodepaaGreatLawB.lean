/- The walk of given, of the kinds 1 and 2. -/
import Derived.Test.YtolgpnaoaodepaaGreatRefE
import Derived.Deep.DrawnRows
namespace Go.Proofs.YtolgpnaoaodepaaGreat
open Go.RowKit

/-- The leaf that is given. -/
def gl : List (ByteArray × ByteArray) := [(⟨#[97]⟩, ⟨#[120]⟩)]
def gPage : ByteArray := ⟨(Pg.leaf (plain gl)).toArray⟩
def gOld : ByteArray := ⟨(Pg.oldLeaf (plain gl)).toArray⟩
/-- What given lays first stands as it was laid; nothing elder has turned. -/
structure Giv (w w' : World) : Prop where
  bel : Below w.heap.size w w'
  sz : w.heap.size + 2 ≤ w'.heap.size
  it : w'.heap[w.heap.size]? = some (.cells #[.string ⟨#[97]⟩, .string ⟨#[120]⟩] 51 (0, 0))
  nd : w'.heap[w.heap.size + 1]? = some (.cells #[.int .i64 1, .slice (some ⟨w.heap.size, 0, none⟩) 1 1, .slice none 0 0, .slice none 0 0, .slice none 0 0] 79 (0, 0))
theorem Giv.next {w w' w'' : World} (h : Giv w w') (hb : Below w'.heap.size w' w'') : Giv w w'' :=
  ⟨h.bel.trans (hb.mono h.bel.size), Nat.le_trans h.sz hb.size, (hb.block _ (by have := h.sz; omega)).trans h.it, (hb.block _ (by have := h.sz; omega)).trans h.nd⟩
theorem Giv.cells {w w' : World} (h : Giv w w') : w'.cell? ⟨w.heap.size + 1, 0, none⟩ = some (.int .i64 1) ∧ w'.cell? ⟨w.heap.size + 1, 1, none⟩ = some (.slice (some ⟨w.heap.size, 0, none⟩) 1 1) ∧ w'.cell? ⟨w.heap.size + 1, 2, none⟩ = some (.slice none 0 0) ∧ w'.cell? ⟨w.heap.size + 1, 3, none⟩ = some (.slice none 0 0) ∧ w'.cell? ⟨w.heap.size + 1, 4, none⟩ = some (.slice none 0 0) := by
  have := h.nd
  refine ⟨?_, ?_, ?_, ?_, ?_⟩ <;> simp [World.cell?, this]
theorem Giv.items {w w' : World} (h : Giv w w') : IsItems w' (.slice (some ⟨w.heap.size, 0, none⟩) 1 1) gl := by
  refine .inr ⟨w.heap.size, 0, 1, rfl, Nat.le_refl _, by decide, by have := h.sz; omega, ?_⟩
  intro i hi
  have hi0 : i = 0 := by simp [gl] at hi; exact hi
  subst hi0
  have := h.it
  constructor <;> simp [World.cell?, this, gl]
theorem gl_sz : ∀ x ∈ gl, x.1.size ≤ 12 ∧ x.2.size ≤ 16 := by
  intro x hx; simp [gl] at hx; subst hx; decide
theorem gPage_any {w0 : World} (w : World) (h : Giv w0 w) :
    Calls Tryz.prog 48 #[.agg #[.int .i64 1, .slice (some ⟨w0.heap.size, 0, none⟩) 1 1, .slice none 0 0, .slice none 0 0, .slice none 0 0]] w fun r w' => r = .returned (.string gPage) ∧ Giv w0 w' :=
  (pageLeaf_any 1 _ _ _ _ gl w (by decide) h.items (by decide) gl_sz).mono fun _ _ hx => ⟨hx.1, h.next hx.2⟩
theorem gOld_any {w0 : World} (w : World) (h : Giv w0 w) :
    Calls Tryz.prog 49 #[.agg #[.int .i64 1, .slice (some ⟨w0.heap.size, 0, none⟩) 1 1, .slice none 0 0, .slice none 0 0, .slice none 0 0]] w fun r w' => r = .returned (.string gOld) ∧ Giv w0 w' :=
  (oldLeaf_any _ _ _ _ gl w h.items (by decide) gl_sz).mono fun _ _ hx => ⟨hx.1, h.next hx.2⟩
theorem Giv.drew {w w' : World} (h : Giv w w') : Giv w w'.drew := ⟨h.bel.drew, h.sz, h.it, h.nd⟩

/-- A step as it is laid: its kind and its text. -/
def opList (k : Int) (s : ByteArray) : List Value := [.int .i64 k, .int .i64 0, .string s, .string ⟨#[]⟩, .int .i64 0, .slice none 0 0, .slice none 0 0, .slice none 0 0, .slice none 0 0, .int .i64 0, .string ⟨#[]⟩, .string ⟨#[]⟩, .slice none 0 0]

attribute [local go_sem ↓] Go.wp_at_zero Go.wp_at_succ
set_option maxHeartbeats 1500000 in
set_option maxRecDepth 100000 in
theorem given12_any (p : Addr) (w : World) :
    Calls Tryz.prog 27 #[.pointer (some p), .int .i64 1, .int .i64 2] w fun r w' => r = .returned (.bool true) ∧ Below w.heap.size w w' := by
  have G0 : Giv w ((w.alloc (.cells #[.string ⟨#[97]⟩, .string ⟨#[120]⟩] 51)).alloc (.cells #[.int .i64 1, .slice (some ⟨w.heap.size, 0, none⟩) 1 1, .slice none 0 0, .slice none 0 0, .slice none 0 0] 79)) := by
    refine ⟨((Below.refl _ w).alloc (Nat.le_refl _) _).alloc (by simp) _, by simp, ?_, ?_⟩
    · rw [Below.heap_alloc _ _ _ (by simp)]; exact heap_alloc_new _ _
    · have := heap_alloc_new (w.alloc (.cells #[.string ⟨#[97]⟩, .string ⟨#[120]⟩] 51)) (.cells #[.int .i64 1, .slice (some ⟨w.heap.size, 0, none⟩) 1 1, .slice none 0 0, .slice none 0 0, .slice none 0 0] 79)
      simpa using this
  go_enter Tryz.func27, Tryz.ntmps27
  go_wp2_with fail
  generalize (w.alloc (.cells #[.string ⟨#[97]⟩, .string ⟨#[120]⟩] 51)).alloc (.cells #[.int .i64 1, .slice (some ⟨w.heap.size, 0, none⟩) 1 1, .slice none 0 0, .slice none 0 0, .slice none 0 0] 79) = w0 at *
  obtain ⟨a0, a1, a2, a3, a4⟩ := G0.cells
  have hz0 := G0.sz
  go_region_held3 (fun w' => w'.cell? ⟨w.heap.size + 1, 0, none⟩ = some (.int .i64 1) ∧ w'.cell? ⟨w.heap.size + 1, 1, none⟩ = some (.slice (some ⟨w.heap.size, 0, none⟩) 1 1) ∧ w'.cell? ⟨w.heap.size + 1, 2, none⟩ = some (.slice none 0 0) ∧ w'.cell? ⟨w.heap.size + 1, 3, none⟩ = some (.slice none 0 0) ∧ w'.cell? ⟨w.heap.size + 1, 4, none⟩ = some (.slice none 0 0)) (go_keep)
    (first
      | (go_at_call 48; refine (gPage_any _ (by first | exact G0.drew | assumption)).mono ?_; rintro r w3 ⟨rfl, G3⟩; obtain ⟨b0, b1, b2, b3, b4⟩ := G3.cells; have hz3 := G3.sz)
      | (go_at_call 49; refine (gOld_any _ (by assumption)).mono ?_; rintro r w3 ⟨rfl, G3⟩; obtain ⟨b0, b1, b2, b3, b4⟩ := G3.cells; have hz3 := G3.sz))
  all_goals go_wp2_with fail
  generalize hW : World.alloc (World.alloc w3 _) (Obj.cells _ 81 _) = W at *
  have hsW : w3.heap.size + 2 = W.heap.size := by rw [← hW]; simp
  have F0 : ∀ j, j < 13 → W.cell? ⟨w3.heap.size + 1, j, none⟩ = (opList 1 ⟨#[97, 98, 99, 97, 98, 99, 97, 98, 99]⟩)[j]? := by
    intro j hj
    rw [← hW, World.cell?_alloc_at _ _ _ _ (by simp)]
    match j, hj with
    | 0, _ => rfl
    | 1, _ => rfl
    | 2, _ => rfl
    | 3, _ => rfl
    | 4, _ => rfl
    | 5, _ => rfl
    | 6, _ => rfl
    | 7, _ => rfl
    | 8, _ => rfl
    | 9, _ => rfl
    | 10, _ => rfl
    | 11, _ => rfl
    | 12, _ => rfl
  have F1 : ∀ j, j < 13 → W.cell? ⟨w3.heap.size + 1, 13 + j, none⟩ = (opList 2 ⟨#[2, 97, 98, 99, 131, 3]⟩)[j]? := by
    intro j hj
    rw [← hW, World.cell?_alloc_at _ _ _ _ (by simp)]
    match j, hj with
    | 0, _ => rfl
    | 1, _ => rfl
    | 2, _ => rfl
    | 3, _ => rfl
    | 4, _ => rfl
    | 5, _ => rfl
    | 6, _ => rfl
    | 7, _ => rfl
    | 8, _ => rfl
    | 9, _ => rfl
    | 10, _ => rfl
    | 11, _ => rfl
    | 12, _ => rfl
  have FK : ∀ k, 2 ≤ k → k < 12 → ∃ n : Int, 3 ≤ n ∧ W.cell? ⟨w3.heap.size + 1, k * 13, none⟩ = some (.int .i64 n) := by
    intro k h1 h2
    rw [← hW, World.cell?_alloc_at _ _ _ _ (by simp)]
    match k, h1, h2 with
    | 2, _, _ => exact ⟨_, by decide, rfl⟩
    | 3, _, _ => exact ⟨_, by decide, rfl⟩
    | 4, _, _ => exact ⟨_, by decide, rfl⟩
    | 5, _, _ => exact ⟨_, by decide, rfl⟩
    | 6, _, _ => exact ⟨_, by decide, rfl⟩
    | 7, _, _ => exact ⟨_, by decide, rfl⟩
    | 8, _, _ => exact ⟨_, by decide, rfl⟩
    | 9, _, _ => exact ⟨_, by decide, rfl⟩
    | 10, _, _ => exact ⟨_, by decide, rfl⟩
    | 11, _, _ => exact ⟨_, by decide, rfl⟩
  have HBW : Hid (Below w.heap.size w W) := by
    rw [← hW]; exact (G3.bel.alloc (by omega) _).alloc (by simp; omega) _
  have HF0 := hid F0
  have HF1 := hid F1
  have HFK := hid FK
  clear hW F0 F1 FK
  go_loopw [9] (fun i wr => ∃ k : Nat, k ≤ 12 ∧ i = .int .i64 k ∧ Below (w3.heap.size + 2) W wr) (fun i _ => 12 - (intOf i).toNat)
  case atStart => exact ⟨0, by omega, rfl, Below.refl _ _⟩
  case round =>
    obtain ⟨k, hk, rfl, hbk⟩ := hrel
    by_cases hk12 : k < 12
    · by_cases hk2 : 2 ≤ k
      · obtain ⟨n, hn3, hn⟩ := HFK.out k hk2 hk12
        have hck := (bcell hbk (w3.heap.size + 1) (k * 13) (by omega)).trans hn
        have HBK := hid hbk
        clear hbk hn
        go_wp2_with fail
        go_roundw
        case rel => exact ⟨k + 1, by omega, by go_num, HBK.out⟩
        case measure => simp [intOf]; omega
      · rcases (show k = 0 ∨ k = 1 by omega) with rfl | rfl
        · have d0 : wr.cell? ⟨w3.heap.size + 1, 0, none⟩ = some (.int .i64 1) := (bcell hbk _ _ (by omega)).trans (HF0.out 0 (by omega))
          have d1 : wr.cell? ⟨w3.heap.size + 1, 1, none⟩ = some (.int .i64 0) := (bcell hbk _ _ (by omega)).trans (HF0.out 1 (by omega))
          have d2 : wr.cell? ⟨w3.heap.size + 1, 2, none⟩ = some (.string ⟨#[97, 98, 99, 97, 98, 99, 97, 98, 99]⟩) := (bcell hbk _ _ (by omega)).trans (HF0.out 2 (by omega))
          have d3 : wr.cell? ⟨w3.heap.size + 1, 3, none⟩ = some (.string ⟨#[]⟩) := (bcell hbk _ _ (by omega)).trans (HF0.out 3 (by omega))
          have d4 : wr.cell? ⟨w3.heap.size + 1, 4, none⟩ = some (.int .i64 0) := (bcell hbk _ _ (by omega)).trans (HF0.out 4 (by omega))
          have d5 : wr.cell? ⟨w3.heap.size + 1, 5, none⟩ = some (.slice none 0 0) := (bcell hbk _ _ (by omega)).trans (HF0.out 5 (by omega))
          have d6 : wr.cell? ⟨w3.heap.size + 1, 6, none⟩ = some (.slice none 0 0) := (bcell hbk _ _ (by omega)).trans (HF0.out 6 (by omega))
          have d7 : wr.cell? ⟨w3.heap.size + 1, 7, none⟩ = some (.slice none 0 0) := (bcell hbk _ _ (by omega)).trans (HF0.out 7 (by omega))
          have d8 : wr.cell? ⟨w3.heap.size + 1, 8, none⟩ = some (.slice none 0 0) := (bcell hbk _ _ (by omega)).trans (HF0.out 8 (by omega))
          have d9 : wr.cell? ⟨w3.heap.size + 1, 9, none⟩ = some (.int .i64 0) := (bcell hbk _ _ (by omega)).trans (HF0.out 9 (by omega))
          have d10 : wr.cell? ⟨w3.heap.size + 1, 10, none⟩ = some (.string ⟨#[]⟩) := (bcell hbk _ _ (by omega)).trans (HF0.out 10 (by omega))
          have d11 : wr.cell? ⟨w3.heap.size + 1, 11, none⟩ = some (.string ⟨#[]⟩) := (bcell hbk _ _ (by omega)).trans (HF0.out 11 (by omega))
          have d12 : wr.cell? ⟨w3.heap.size + 1, 12, none⟩ = some (.slice none 0 0) := (bcell hbk _ _ (by omega)).trans (HF0.out 12 (by omega))
          have HBK := hid hbk
          have hszk := hbk.size
          clear hbk
          go_wp2_with fail
          refine (step12_any 1 p ⟨#[97, 98, 99, 97, 98, 99, 97, 98, 99]⟩ _ _ _ _ _ _ _ _ _ _ _ _ (by decide) (by decide)).mono ?_
          rintro r w5 ⟨rfl, hb5⟩
          have HB5 := hid (HBK.out.trans (hb5.mono (by omega)))
          clear hb5 d0 d1 d2 d3 d4 d5 d6 d7 d8 d9 d10 d11 d12
          go_wp2_with fail
          go_roundw
          case rel => exact ⟨1, by omega, rfl, HB5.out⟩
          case measure => simp [intOf]
        · have d0 : wr.cell? ⟨w3.heap.size + 1, 13, none⟩ = some (.int .i64 2) := (bcell hbk _ _ (by omega)).trans (HF1.out 0 (by omega))
          have d1 : wr.cell? ⟨w3.heap.size + 1, 14, none⟩ = some (.int .i64 0) := (bcell hbk _ _ (by omega)).trans (HF1.out 1 (by omega))
          have d2 : wr.cell? ⟨w3.heap.size + 1, 15, none⟩ = some (.string ⟨#[2, 97, 98, 99, 131, 3]⟩) := (bcell hbk _ _ (by omega)).trans (HF1.out 2 (by omega))
          have d3 : wr.cell? ⟨w3.heap.size + 1, 16, none⟩ = some (.string ⟨#[]⟩) := (bcell hbk _ _ (by omega)).trans (HF1.out 3 (by omega))
          have d4 : wr.cell? ⟨w3.heap.size + 1, 17, none⟩ = some (.int .i64 0) := (bcell hbk _ _ (by omega)).trans (HF1.out 4 (by omega))
          have d5 : wr.cell? ⟨w3.heap.size + 1, 18, none⟩ = some (.slice none 0 0) := (bcell hbk _ _ (by omega)).trans (HF1.out 5 (by omega))
          have d6 : wr.cell? ⟨w3.heap.size + 1, 19, none⟩ = some (.slice none 0 0) := (bcell hbk _ _ (by omega)).trans (HF1.out 6 (by omega))
          have d7 : wr.cell? ⟨w3.heap.size + 1, 20, none⟩ = some (.slice none 0 0) := (bcell hbk _ _ (by omega)).trans (HF1.out 7 (by omega))
          have d8 : wr.cell? ⟨w3.heap.size + 1, 21, none⟩ = some (.slice none 0 0) := (bcell hbk _ _ (by omega)).trans (HF1.out 8 (by omega))
          have d9 : wr.cell? ⟨w3.heap.size + 1, 22, none⟩ = some (.int .i64 0) := (bcell hbk _ _ (by omega)).trans (HF1.out 9 (by omega))
          have d10 : wr.cell? ⟨w3.heap.size + 1, 23, none⟩ = some (.string ⟨#[]⟩) := (bcell hbk _ _ (by omega)).trans (HF1.out 10 (by omega))
          have d11 : wr.cell? ⟨w3.heap.size + 1, 24, none⟩ = some (.string ⟨#[]⟩) := (bcell hbk _ _ (by omega)).trans (HF1.out 11 (by omega))
          have d12 : wr.cell? ⟨w3.heap.size + 1, 25, none⟩ = some (.slice none 0 0) := (bcell hbk _ _ (by omega)).trans (HF1.out 12 (by omega))
          have HBK := hid hbk
          have hszk := hbk.size
          clear hbk
          go_wp2_with fail
          refine (step12_any 2 p ⟨#[2, 97, 98, 99, 131, 3]⟩ _ _ _ _ _ _ _ _ _ _ _ _ (by decide) (by decide)).mono ?_
          rintro r w5 ⟨rfl, hb5⟩
          have HB5 := hid (HBK.out.trans (hb5.mono (by omega)))
          clear hb5 d0 d1 d2 d3 d4 d5 d6 d7 d8 d9 d10 d11 d12
          go_wp2_with fail
          go_roundw
          case rel => exact ⟨2, by omega, rfl, HB5.out⟩
          case measure => simp [intOf]
    · have HBK := hid hbk
      clear hbk
      go_wp2_with fail
      go_ret
      exact ⟨rfl, HBW.out.trans (HBK.out.mono (by omega))⟩
end Go.Proofs.YtolgpnaoaodepaaGreat
