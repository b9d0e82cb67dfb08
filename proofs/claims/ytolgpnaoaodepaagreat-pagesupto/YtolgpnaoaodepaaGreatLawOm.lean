/- The walk of lentNode. -/
import Derived.Test.YtolgpnaoaodepaaGreatLawMm
import Derived.Test.YtolgpnaoaodepaaGreatWalkAFm
import Derived.Deep.DeepCutAuto
import Derived.BigQuiet
namespace Go.Proofs.YtolgpnaoaodepaaGreat
open Go.RowKit

/-- What lentNode hands over of a list: nil, or a copy with one element behind it. -/
def Lent (e : TypeId) (sz : Nat) (ex : List Value) (B : Nat) (w' : World) (v v' : Value) (n : Nat) (cs : List Value) : Prop := (∃ cap, v = .slice none n cap ∧ v' = v) ∨ ∃ g, (∃ a cap, v = .slice (some a) n cap) ∧ v' = .slice (some ⟨g, 0, none⟩) n (n + 1) ∧ w'.ownsRow B e sz (.slice (some ⟨g, 0, none⟩) (n + 1) (n + 1)) (n + 1) (cs ++ ex)
theorem Lent.keep {e : TypeId} {sz : Nat} {ex : List Value} {B : Nat} {w w' : World} {v v' : Value} {n : Nat} {cs : List Value} (h : Lent e sz ex B w v v' n cs) {r : Option Nat} (hg : w.grownBy w' r) (hr : ∀ k, r = some k → k < B ∨ w.heap.size ≤ k) : Lent e sz ex B w' v v' n cs := by
  rcases h with h | ⟨g, h1, h2, h3⟩
  · exact .inl h
  · refine .inr ⟨g, h1, h2, h3.kept hg (.inr fun e => ?_)⟩
    have hk := World.ownsRow.lt h3 g rfl
    have := hr g e.symm
    omega
theorem Lent.below {e : TypeId} {sz : Nat} {ex : List Value} {B : Nat} {w w' : World} {v v' : Value} {n : Nat} {cs : List Value} (h : Lent e sz ex B w v v' n cs) (hb : Below w.heap.size w w') : Lent e sz ex B w' v v' n cs := h.keep (r := none) ⟨hb.os, hb.tape, hb.output, hb.size, fun k hk _ => hb.block k hk⟩ (fun k hk => by cases hk)
/-- Its block is none that comes after. -/
theorem Lent.other {e : TypeId} {sz : Nat} {ex : List Value} {B : Nat} {w w' : World} {v v' : Value} {n : Nat} {cs : List Value} (h : Lent e sz ex B w v v' n cs) {g : Nat} (hg : w.grownBy w' (some g)) (hne : some g ≠ v'.ownBlock) : Lent e sz ex B w' v v' n cs := by
  rcases h with h | ⟨k, h1, rfl, h3⟩
  · exact .inl h
  · exact .inr ⟨k, h1, rfl, h3.kept hg (.inr fun e => hne e.symm)⟩
theorem Lent.fresh {e : TypeId} {sz : Nat} {ex : List Value} {B : Nat} {w : World} {v v' : Value} {n : Nat} {cs : List Value} (h : Lent e sz ex B w v v' n cs) : v'.ownBlock ≠ some w.heap.size := by
  rcases h with ⟨cap, rfl, rfl⟩ | ⟨k, h1, rfl, h3⟩
  · simp [Value.ownBlock]
  · intro e
    have := (World.ownsRow.lt h3 w.heap.size e).2
    omega
theorem set_tail1 (cs zs : List Value) (n : Nat) (hc : cs.length = n) (hz : zs.length = n + 1) (x : Value) : (cs ++ zs.drop cs.length).set n x = cs ++ [x] := by
  obtain ⟨p, e⟩ : ∃ p, zs.drop cs.length = [p] := by
    have hl : (zs.drop cs.length).length = 1 := by simp; omega
    match zs.drop cs.length, hl with
    | [p], _ => exact ⟨p, rfl⟩
  rw [e, set_mid _ _ _ _ _ hc.symm]
theorem set_tailI (cs zs : List Value) (n : Nat) (hc : cs.length = n * 2) (hz : zs.length = (n + 1) * 2) (x y : Value) : ((cs ++ zs.drop cs.length).set (n * 2) x).set (n * 2 + 1) y = cs ++ [x, y] := set_tail2 cs zs (n * 2) hc (by omega) x y
/-- lentNode's variables: the node that came, the result's place, the node that goes. -/
def LN (w wx : World) (kd : Int) (v1 v2 v3 v4 u1 u2 u4 : Value) : Prop := NodeB wx w.heap.size (.int .i64 kd) v1 v2 v3 v4 ∧ NodeB wx (w.heap.size + 1) (.int .i64 0) (.slice none 0 0) (.slice none 0 0) (.slice none 0 0) (.slice none 0 0) ∧ NodeB wx (w.heap.size + 2) (.int .i64 kd) u1 u2 v3 u4 ∧ Below w.heap.size w wx
theorem LN.size {w wx : World} {kd : Int} {v1 v2 v3 v4 u1 u2 u4 : Value} (h : LN w wx kd v1 v2 v3 v4 u1 u2 u4) : w.heap.size + 3 ≤ wx.heap.size := h.2.2.1.lt
theorem LN.step {w wx wy : World} {kd : Int} {v1 v2 v3 v4 u1 u2 u4 : Value} (h : LN w wx kd v1 v2 v3 v4 u1 u2 u4) {r : Option Nat} (hg : wx.grownBy wy r) (hr : ∀ k, r = some k → w.heap.size + 3 ≤ k) : LN w wy kd v1 v2 v3 v4 u1 u2 u4 := by
  have hs := h.size
  obtain ⟨q1, q2, q3, q4⟩ := h
  have hne : ∀ i, i < w.heap.size + 3 → some i ≠ r := fun i hi e => by have := hr i e.symm; omega
  exact ⟨(hg.block _ q1.lt (hne _ (by omega))).trans q1, (hg.block _ q2.lt (hne _ (by omega))).trans q2, (hg.block _ q3.lt (hne _ (by omega))).trans q3, q4.grown hg (by omega) (fun k hk => by have := hr k hk; omega)⟩
theorem LN.belowStep {w wx wy : World} {kd : Int} {v1 v2 v3 v4 u1 u2 u4 : Value} (h : LN w wx kd v1 v2 v3 v4 u1 u2 u4) (hb : Below wx.heap.size wx wy) : LN w wy kd v1 v2 v3 v4 u1 u2 u4 := h.step (r := none) ⟨hb.os, hb.tape, hb.output, hb.size, fun k hk _ => hb.block k hk⟩ (fun k hk => by cases hk)
theorem nb_other {w : World} {b c i : Nat} {v0 v1 v2 v3 v4 : Value} (h : NodeB w b v0 v1 v2 v3 v4) (hne : b ≠ c) (u : Value) : NodeB (w.setCell ⟨c, i, none⟩ u) b v0 v1 v2 v3 v4 := h.but (but_set c i w u) hne
theorem LN.put1 {w wx : World} {kd : Int} {v1 v2 v3 v4 u1 u2 u4 : Value} (h : LN w wx kd v1 v2 v3 v4 u1 u2 u4) (u : Value) : LN w (wx.setCell ⟨w.heap.size + 2, 1, none⟩ u) kd v1 v2 v3 v4 u u2 u4 :=
  ⟨nb_other h.1 (by omega) u, nb_other h.2.1 (by omega) u, h.2.2.1.set1 u, h.2.2.2.setCell (p := ⟨w.heap.size + 2, 1, none⟩) (by show w.heap.size ≤ w.heap.size + 2; omega) u⟩
theorem LN.put2 {w wx : World} {kd : Int} {v1 v2 v3 v4 u1 u2 u4 : Value} (h : LN w wx kd v1 v2 v3 v4 u1 u2 u4) (u : Value) : LN w (wx.setCell ⟨w.heap.size + 2, 2, none⟩ u) kd v1 v2 v3 v4 u1 u u4 :=
  ⟨nb_other h.1 (by omega) u, nb_other h.2.1 (by omega) u, h.2.2.1.set2 u, h.2.2.2.setCell (p := ⟨w.heap.size + 2, 2, none⟩) (by show w.heap.size ≤ w.heap.size + 2; omega) u⟩
theorem LN.put4 {w wx : World} {kd : Int} {v1 v2 v3 v4 u1 u2 u4 : Value} (h : LN w wx kd v1 v2 v3 v4 u1 u2 u4) (u : Value) : LN w (wx.setCell ⟨w.heap.size + 2, 4, none⟩ u) kd v1 v2 v3 v4 u1 u2 u :=
  ⟨nb_other h.1 (by omega) u, nb_other h.2.1 (by omega) u, h.2.2.1.set4 u, h.2.2.2.setCell (p := ⟨w.heap.size + 2, 4, none⟩) (by show w.heap.size ≤ w.heap.size + 2; omega) u⟩
theorem ln_new (w : World) (kd : Int) (v1 v2 v3 v4 : Value) : LN w (((w.alloc (.cells #[.int .i64 kd, v1, v2, v3, v4] 79)).alloc (.cells #[.int .i64 0, .slice none 0 0, .slice none 0 0, .slice none 0 0, .slice none 0 0] 79)).alloc (.cells #[.int .i64 kd, v1, v2, v3, v4] 79)) kd v1 v2 v3 v4 v1 v2 v4 := by
  have s1 : (w.alloc (.cells #[.int .i64 kd, v1, v2, v3, v4] 79)).heap.size = w.heap.size + 1 := by simp
  have s2 : ((w.alloc (.cells #[.int .i64 kd, v1, v2, v3, v4] 79)).alloc (.cells #[.int .i64 0, .slice none 0 0, .slice none 0 0, .slice none 0 0, .slice none 0 0] 79)).heap.size = w.heap.size + 2 := by simp
  have n1 := nodeB_new w (.int .i64 kd) v1 v2 v3 v4
  have n2 := nodeB_new (w.alloc (.cells #[.int .i64 kd, v1, v2, v3, v4] 79)) (.int .i64 0) (.slice none 0 0) (.slice none 0 0) (.slice none 0 0) (.slice none 0 0)
  have n3 := nodeB_new ((w.alloc (.cells #[.int .i64 kd, v1, v2, v3, v4] 79)).alloc (.cells #[.int .i64 0, .slice none 0 0, .slice none 0 0, .slice none 0 0, .slice none 0 0] 79)) (.int .i64 kd) v1 v2 v3 v4
  rw [s1] at n2
  rw [s2] at n3
  exact ⟨(n1.keep ((Below.refl _ _).alloc (Nat.le_refl _) _)).keep ((Below.refl _ _).alloc (Nat.le_refl _) _), n2.keep ((Below.refl _ _).alloc (Nat.le_refl _) _), n3, (((Below.refl _ w).alloc (Nat.le_refl _) _).alloc (by omega) _).alloc (by omega) _⟩
theorem set_tailC (cs zs : List Value) (n : Nat) (hc : cs.length = n * 3) (hz : zs.length = (n + 1) * 3) (x y z : Value) : (((cs ++ zs.drop cs.length).set (n * 3) x).set (n * 3 + 1) y).set (n * 3 + 2) z = cs ++ [x, y, z] := by
  obtain ⟨p, q, r, e⟩ : ∃ p q r, zs.drop cs.length = [p, q, r] := by
    have hl : (zs.drop cs.length).length = 3 := by simp; omega
    match zs.drop cs.length, hl with
    | [p, q, r], _ => exact ⟨p, q, r, rfl⟩
  rw [e, set_mid _ _ _ _ _ hc.symm]
  have e1 : cs ++ x :: [q, r] = (cs ++ [x]) ++ q :: [r] := by simp
  rw [e1, set_mid _ _ _ _ _ (by simp [hc])]
  have e2 : cs ++ [x] ++ y :: [r] = (cs ++ [x, y]) ++ r :: [] := by simp
  rw [e2, set_mid _ _ _ _ _ (by simp [hc])]
  simp
theorem Lent.low {e : TypeId} {sz : Nat} {ex : List Value} {B C : Nat} {w : World} {v v' : Value} {n : Nat} {cs : List Value} (h : Lent e sz ex B w v v' n cs) (hc : C ≤ B) : Lent e sz ex C w v v' n cs := by
  rcases h with h | ⟨g, h1, h2, h3, q⟩
  · exact .inl h
  · refine .inr ⟨g, h1, h2, h3, ?_⟩
    rcases q with ⟨q, _⟩ | ⟨g', cap, cur, q1, q2, q3⟩
    · simp at q
    · exact .inr ⟨g', cap, cur, q1, Nat.le_trans hc q2, q3⟩
theorem but_put5 (b : Nat) (w : World) (u0 u1 u2 u3 u4 : Value) : But b w (put5 w b u0 u1 u2 u3 u4) := but_trans (but_trans (but_trans (but_trans (but_set b 0 w u0) (but_set b 1 _ u1)) (but_set b 2 _ u2)) (but_set b 3 _ u3)) (but_set b 4 _ u4)
theorem Lent.twice {e : TypeId} {sz : Nat} {ex : List Value} {B : Nat} {w : World} {v v' : Value} {n : Nat} {cs : List Value} (h : Lent e sz ex (B + 3) w v v' n cs) (u u0 u1 u2 u3 u4 : Value) : Lent e sz ex (B + 3) (put5 (w.setCell ⟨B + 2, 3, none⟩ u) (B + 1) u0 u1 u2 u3 u4) v v' n cs :=
  (h.keep (but_set (B + 2) 3 w u) (fun k hk => by cases hk; exact .inl (by omega))).keep (but_put5 (B + 1) _ u0 u1 u2 u3 u4) (fun k hk => by cases hk; exact .inl (by omega))
theorem LentT.twice {B C : Nat} {w : World} {v v' : Value} {n : Nat} {cs : List Value} (h : LentT C w v v' n cs) (hC : B + 3 ≤ C) (u u0 u1 u2 u3 u4 : Value) : LentT B (put5 (w.setCell ⟨B + 2, 3, none⟩ u) (B + 1) u0 u1 u2 u3 u4) v v' n cs := by
  rcases h with h | ⟨g, h1, h2, h3⟩
  · exact .inl h
  · have hg := (World.ownsRow.lt h3 g rfl).1
    have q := World.ownsRow.kept (World.ownsRow.kept h3 (but_set (B + 2) 3 w u) (.inr fun e => by have q : g = B + 2 := Option.some.inj e; omega)) (but_put5 (B + 1) _ u0 u1 u2 u3 u4) (.inr fun e => by have q : g = B + 1 := Option.some.inj e; omega)
    refine .inr ⟨g, h1, h2, q.1, ?_⟩
    rcases q.2 with ⟨q0, _⟩ | ⟨g', cap, cur, q1, q2, q3⟩
    · simp at q0
    · exact .inr ⟨g', cap, cur, q1, by omega, q3⟩
set_option maxHeartbeats 1000000 in
set_option maxRecDepth 20000 in
theorem lentNode_any (kd : Int) (v1 v2 v3 v4 : Value) (n1 n2 n3 n4 : Nat) (c1 c2 c3 c4 : List Value) (w : World) (h1 : Src 2 w v1 n1 c1) (h2 : Src 1 w v2 n2 c2) (h3 : Src 1 w v3 n3 c3) (h4 : Src 3 w v4 n4 c4) (b1 : n1 ≤ 100000000) (b2 : n2 ≤ 100000000) (b3 : n3 ≤ 100000000) (b4 : n4 ≤ 100000000)
    (o1 : ∀ v ∈ c1, v.oneCell' = true) (o2 : ∀ v ∈ c2, v.oneCell' = true) (o3 : ∀ v ∈ c3, v.oneCell' = true) (o4 : ∀ v ∈ c4, v.oneCell' = true) :
    Calls Tryz.prog 97 #[.agg #[.int .i64 kd, v1, v2, v3, v4]] w fun r w' => Below w.heap.size w w' ∧ ∃ u1 u2 u3 u4, r = .returned (.agg #[.int .i64 kd, u1, u2, u3, u4]) ∧ Lent 51 2 [mine, .string ⟨#[]⟩] w.heap.size w' v1 u1 n1 c1 ∧ Lent 3 1 [.int .i64 (-7)] w.heap.size w' v2 u2 n2 c2 ∧ LentT w.heap.size w' v3 u3 n3 c3 ∧ Lent 34 3 [.int .i64 0, mine, .string ⟨#[]⟩] w.heap.size w' v4 u4 n4 c4 := by
  have H1 := hid h1
  have H2 := hid h2
  have H3 := hid h3
  have H4 := hid h4
  have O1 := hid o1
  have O2 := hid o2
  have O3 := hid o3
  have O4 := hid o4
  obtain ⟨a1, k1, rfl, -, -⟩ := h1
  obtain ⟨a2, k2, rfl, -, -⟩ := h2
  obtain ⟨a3, k3, rfl, -, -⟩ := h3
  obtain ⟨a4, k4, rfl, -, -⟩ := h4
  clear o1 o2 o3 o4
  have hnI : ∀ W a l c, (binOp .neq 30 (.slice a l c) (.slice none 0 0)).run Tryz.prog W = .ok (.bool (!a.isNone)) W := fun W a l c => run_neq_slice_nil W 30 51 a l c Tryz.underlying30
  have hnN : ∀ W a l c, (binOp .neq 25 (.slice a l c) (.slice none 0 0)).run Tryz.prog W = .ok (.bool (!a.isNone)) W := fun W a l c => run_neq_slice_nil W 25 3 a l c Tryz.underlying25
  have hnC : ∀ W a l c, (binOp .neq 77 (.slice a l c) (.slice none 0 0)).run Tryz.prog W = .ok (.bool (!a.isNone)) W := fun W a l c => run_neq_slice_nil W 77 34 a l c Tryz.underlying77
  go_enter Tryz.func97, Tryz.ntmps97
  go_upto_if 10 with fail
  have HL0 := hid (ln_new w kd (.slice a1 n1 k1) (.slice a2 n2 k2) (.slice a3 n3 k3) (.slice a4 n4 k4))
  rw [show w.heap.size + 1 + 1 = w.heap.size + 2 from rfl]
  generalize ((w.alloc (.cells #[.int .i64 kd, .slice a1 n1 k1, .slice a2 n2 k2, .slice a3 n3 k3, .slice a4 n4 k4] 79)).alloc (.cells #[.int .i64 0, .slice none 0 0, .slice none 0 0, .slice none 0 0, .slice none 0 0] 79)).alloc (.cells #[.int .i64 kd, .slice a1 n1 k1, .slice a2 n2 k2, .slice a3 n3 k3, .slice a4 n4 k4] 79) = w3 at *
  go_cut [4] (fun _ wx => ∃ u1, LN w wx kd (.slice a1 n1 k1) (.slice a2 n2 k2) (.slice a3 n3 k3) (.slice a4 n4 k4) u1 (.slice a2 n2 k2) (.slice a4 n4 k4) ∧ Lent 51 2 [mine, .string ⟨#[]⟩] (w.heap.size + 3) wx (.slice a1 n1 k1) u1 n1 c1)
  case first =>
    cases a1 with
    | none =>
      go_wp2_with fail
      go_meet
      exact ⟨_, HL0.out, .inl ⟨k1, rfl, rfl⟩⟩
    | some ad =>
      have hw1 : IntKind.i64.wrap ((n1 : Int) + 1) = (n1 : Int) + 1 := IntWalk.i64_in _ ⟨by omega, by omega⟩
      obtain ⟨-, m1, -, -, -, -, z1, -, -, -⟩ := HL0.out.1.cells
      go_wp2_with (first
        | (at_make; refine wpMkR w3 rfl (.tmp 14) (.tmp 14) 30 51 Tryz.underlying30 _ 2 32 info_item (by omega) rfl (n1 + 1) (by simp [Act.eval]) (by simp [Act.eval]) (by omega) ?_))
      intro w4 zs ho4 hb4 hlt4
      have hsz3 := HL0.out.size
      have HL4 := hid (HL0.out.belowStep hb4)
      have HZ := hid ho4.1
      have HO4 := hid ho4
      have HS4 := hid (H1.out.below HL4.out.2.2.2)
      have HCL : Hid (c1.length = n1 * 2) := by obtain ⟨_, _, _, q, _⟩ := HS4.out; exact q
      clear m1 z1 ho4 hb4
      obtain ⟨-, m1, -, -, -, -, z1, -, -, -⟩ := HL4.out.1.cells
      generalize hgg : w3.heap.size = g at *
      clear hgg
      go_wp2_with (first
        | (refine wpCpR w4 rfl (.tmp 16) (.tmp 18) 30 51 Tryz.underlying30 2 (by kernel_rfl) rfl g g (n1 + 1) rfl zs HO4.out (.slice (some ad) n1 k1) rfl n1 c1 HS4.out (by omega) O1.out ?_))
      intro w5 ho5 hg5
      have hs45 := hg5.size
      have HL5 := hid (HL4.out.step hg5 (fun k hk => by cases hk; omega))
      have hs0 := ho5
      have hs1 := row_store hs0 (n1 * 2) (mine)
      have hs2 := row_store hs1 (n1 * 2 + 1) (.string ⟨#[]⟩)
      obtain ⟨⟨y0, hy0⟩, hz0⟩ := row_at ho5 (n1 * 2) (by omega)
      obtain ⟨⟨y1, hy1⟩, hz1⟩ := row_at ho5 (n1 * 2 + 1) (by omega)
      rw [set_tailI c1 zs n1 (by rw [HCL.out]) (by rw [HZ.out])] at hs2
      have HL7 := hid ((HL5.out.step (but_set g (n1 * 2) _ (mine)) (fun k hk => by cases hk; omega)).step (but_set g (n1 * 2 + 1) _ (.string ⟨#[]⟩)) (fun k hk => by cases hk; omega))
      have HF := hid (HL7.out.put1 (.slice (some ⟨g, 0, none⟩) n1 (n1 + 1)))
      have HLT : Hid (Lent 51 2 [mine, .string ⟨#[]⟩] (w.heap.size + 3) (((w5.setCell ⟨g, n1 * 2, none⟩ (mine)).setCell ⟨g, n1 * 2 + 1, none⟩ (.string ⟨#[]⟩)).setCell ⟨w.heap.size + 2, 1, none⟩ (.slice (some ⟨g, 0, none⟩) n1 (n1 + 1))) (.slice (some ad) n1 k1) (.slice (some ⟨g, 0, none⟩) n1 (n1 + 1)) n1 c1) := by
        refine Lent.keep (Lent.low (B := g) (.inr ⟨g, ⟨ad, k1, rfl⟩, rfl, hs2⟩) hsz3) (but_set (w.heap.size + 2) 1 _ _) (fun k hk => by cases hk; exact .inl (by omega))
      clear m1 z1
      obtain ⟨-, m1, -, -, -, -, -, -, -, -⟩ := HL5.out.1.cells
      obtain ⟨-, m7, -, -, -, -, -, -, -, -⟩ := HL7.out.1.cells
      obtain ⟨-, m8, -, -, -, -, z8, -, -, -⟩ := HL7.out.2.2.1.cells
      have hi1 : (0 : Int) ≤ (n1 : Int) := by omega
      have hi2 : (n1 : Int) < ((n1 + 1 : Nat) : Int) := by omega
      clear hs0 hs1 hs2 ho5 hg5 HO4 HS4 HL4 HL5 HL7
      go_wp2_with fail
      go_meet
      exact ⟨_, HF.out, HLT.out⟩
  case rest =>
    obtain ⟨u1, hln, hl1⟩ := hcut
    clear HL0
    have HL0 := hid hln
    have HP1 := hid hl1
    clear hln hl1
    obtain ⟨-, -, p2, -, -, -⟩ := HL0.out.1.cells
    go_upto_if 34 with fail
    clear p2
    go_cut [5] (fun _ wx => ∃ u2, LN w wx kd (.slice a1 n1 k1) (.slice a2 n2 k2) (.slice a3 n3 k3) (.slice a4 n4 k4) u1 u2 (.slice a4 n4 k4) ∧ Lent 51 2 [mine, .string ⟨#[]⟩] (w.heap.size + 3) wx (.slice a1 n1 k1) u1 n1 c1 ∧ Lent 3 1 [.int .i64 (-7)] (w.heap.size + 3) wx (.slice a2 n2 k2) u2 n2 c2)
    case first =>
      cases a2 with
      | none =>
        go_wp2_with fail
        go_meet
        exact ⟨_, HL0.out, HP1.out, .inl ⟨k2, rfl, rfl⟩⟩
      | some ad =>
        have hw1 : IntKind.i64.wrap ((n2 : Int) + 1) = (n2 : Int) + 1 := IntWalk.i64_in _ ⟨by omega, by omega⟩
        obtain ⟨-, -, m1, -, -, -, -, z1, -, -⟩ := HL0.out.1.cells
        go_wp2_with (first
          | (at_make; refine wpMkR wc rfl (.tmp 38) (.tmp 38) 25 3 Tryz.underlying25 _ 1 8 info_int (by omega) rfl (n2 + 1) (by simp [Act.eval]) (by simp [Act.eval]) (by omega) ?_))
        intro w4 zs ho4 hb4 hlt4
        have hsz3 := HL0.out.size
        have HL4 := hid (HL0.out.belowStep hb4)
        have HNE1 := hid HP1.out.fresh
        have HR1 := hid (HP1.out.below hb4)
        have HZ := hid ho4.1
        have HO4 := hid ho4
        have HS4 := hid (H2.out.below HL4.out.2.2.2)
        have HCL : Hid (c2.length = n2 * 1) := by obtain ⟨_, _, _, q, _⟩ := HS4.out; exact q
        clear m1 z1 ho4 hb4
        obtain ⟨-, -, m1, -, -, -, -, z1, -, -⟩ := HL4.out.1.cells
        generalize hgg : wc.heap.size = g at *
        clear hgg
        go_wp2_with (first
          | (refine wpCpR w4 rfl (.tmp 40) (.tmp 42) 25 3 Tryz.underlying25 1 (by kernel_rfl) rfl g g (n2 + 1) rfl zs HO4.out (.slice (some ad) n2 k2) rfl n2 c2 HS4.out (by omega) O2.out ?_))
        intro w5 ho5 hg5
        have hs45 := hg5.size
        have HL5 := hid (HL4.out.step hg5 (fun k hk => by cases hk; omega))
        have HQ1 := hid (HR1.out.other hg5 (Ne.symm HNE1.out))
        have hs0 := ho5
        have hs1 := row_store hs0 (n2) (.int .i64 (-7))
        obtain ⟨⟨y0, hy0⟩, hz0⟩ := row_at ho5 (n2) (by omega)
        rw [set_tail1 c2 zs n2 (by rw [HCL.out]; omega) (by rw [HZ.out]; omega)] at hs1
        have HL7 := hid (HL5.out.step (but_set g (n2) _ (.int .i64 (-7))) (fun k hk => by cases hk; omega))
        have HF := hid (HL7.out.put2 (.slice (some ⟨g, 0, none⟩) n2 (n2 + 1)))
        have HLT : Hid (Lent 3 1 [.int .i64 (-7)] (w.heap.size + 3) ((w5.setCell ⟨g, n2, none⟩ (.int .i64 (-7))).setCell ⟨w.heap.size + 2, 2, none⟩ (.slice (some ⟨g, 0, none⟩) n2 (n2 + 1))) (.slice (some ad) n2 k2) (.slice (some ⟨g, 0, none⟩) n2 (n2 + 1)) n2 c2) := by
          refine Lent.keep (Lent.low (B := g) (.inr ⟨g, ⟨ad, k2, rfl⟩, rfl, hs1⟩) hsz3) (but_set (w.heap.size + 2) 2 _ _) (fun k hk => by cases hk; exact .inl (by omega))
        have HT1 := hid ((HQ1.out.other (but_set g (n2) _ (.int .i64 (-7))) (Ne.symm (HNE1.out))).keep (but_set (w.heap.size + 2) 2 _ (.slice (some ⟨g, 0, none⟩) n2 (n2 + 1))) (fun k hk => by cases hk; exact .inl (by omega)))
        clear m1 z1
        obtain ⟨-, -, m1, -, -, -, -, -, -, -⟩ := HL5.out.1.cells
        obtain ⟨-, -, m7, -, -, -, -, -, -, -⟩ := HL7.out.1.cells
        obtain ⟨-, -, m8, -, -, -, -, z8, -, -⟩ := HL7.out.2.2.1.cells
        have hi1 : (0 : Int) ≤ (n2 : Int) := by omega
        have hi2 : (n2 : Int) < ((n2 + 1 : Nat) : Int) := by omega
        clear hs0 hs1 ho5 hg5 HO4 HS4 HL4 HL5 HL7
        go_wp2_with fail
        go_meet
        exact ⟨_, HF.out, HT1.out, HLT.out⟩
    case rest =>
      obtain ⟨u2, hln, hl1, hl2⟩ := hcut
      clear HL0 HP1
      have HL0 := hid hln
      have HP1 := hid hl1
      have HP2 := hid hl2
      clear hln hl1 hl2
      obtain ⟨-, -, -, -, p4, -⟩ := HL0.out.1.cells
      go_upto_if 57 with fail
      clear p4
      go_cut [6] (fun _ wx => ∃ u4, LN w wx kd (.slice a1 n1 k1) (.slice a2 n2 k2) (.slice a3 n3 k3) (.slice a4 n4 k4) u1 u2 u4 ∧ Lent 51 2 [mine, .string ⟨#[]⟩] (w.heap.size + 3) wx (.slice a1 n1 k1) u1 n1 c1 ∧ Lent 3 1 [.int .i64 (-7)] (w.heap.size + 3) wx (.slice a2 n2 k2) u2 n2 c2 ∧ Lent 34 3 [.int .i64 0, mine, .string ⟨#[]⟩] (w.heap.size + 3) wx (.slice a4 n4 k4) u4 n4 c4)
      case first =>
        cases a4 with
        | none =>
          go_wp2_with fail
          go_meet
          exact ⟨_, HL0.out, HP1.out, HP2.out, .inl ⟨k4, rfl, rfl⟩⟩
        | some ad =>
          have hw1 : IntKind.i64.wrap ((n4 : Int) + 1) = (n4 : Int) + 1 := IntWalk.i64_in _ ⟨by omega, by omega⟩
          obtain ⟨-, -, -, -, m1, -, -, -, -, z1⟩ := HL0.out.1.cells
          go_wp2_with (first
            | (at_make; refine wpMkR wc rfl (.tmp 61) (.tmp 61) 77 34 Tryz.underlying77 _ 3 40 info_change (by omega) rfl (n4 + 1) (by simp [Act.eval]) (by simp [Act.eval]) (by omega) ?_))
          intro w4 zs ho4 hb4 hlt4
          have hsz3 := HL0.out.size
          have HL4 := hid (HL0.out.belowStep hb4)
          have HNE1 := hid HP1.out.fresh
          have HR1 := hid (HP1.out.below hb4)
          have HNE2 := hid HP2.out.fresh
          have HR2 := hid (HP2.out.below hb4)
          have HZ := hid ho4.1
          have HO4 := hid ho4
          have HS4 := hid (H4.out.below HL4.out.2.2.2)
          have HCL : Hid (c4.length = n4 * 3) := by obtain ⟨_, _, _, q, _⟩ := HS4.out; exact q
          clear m1 z1 ho4 hb4
          obtain ⟨-, -, -, -, m1, -, -, -, -, z1⟩ := HL4.out.1.cells
          generalize hgg : wc.heap.size = g at *
          clear hgg
          go_wp2_with (first
            | (refine wpCpR w4 rfl (.tmp 63) (.tmp 65) 77 34 Tryz.underlying77 3 (by kernel_rfl) rfl g g (n4 + 1) rfl zs HO4.out (.slice (some ad) n4 k4) rfl n4 c4 HS4.out (by omega) O4.out ?_))
          intro w5 ho5 hg5
          have hs45 := hg5.size
          have HL5 := hid (HL4.out.step hg5 (fun k hk => by cases hk; omega))
          have HQ1 := hid (HR1.out.other hg5 (Ne.symm HNE1.out))
          have HQ2 := hid (HR2.out.other hg5 (Ne.symm HNE2.out))
          have hs0 := ho5
          have hs1 := row_store hs0 (n4 * 3) (.int .i64 0)
          have hs2 := row_store hs1 (n4 * 3 + 1) (mine)
          have hs3 := row_store hs2 (n4 * 3 + 2) (.string ⟨#[]⟩)
          obtain ⟨⟨y0, hy0⟩, hz0⟩ := row_at ho5 (n4 * 3) (by omega)
          obtain ⟨⟨y1, hy1⟩, hz1⟩ := row_at ho5 (n4 * 3 + 1) (by omega)
          obtain ⟨⟨y2, hy2⟩, hz2⟩ := row_at ho5 (n4 * 3 + 2) (by omega)
          rw [set_tailC c4 zs n4 (by rw [HCL.out]) (by rw [HZ.out])] at hs3
          have HL7 := hid (((HL5.out.step (but_set g (n4 * 3) _ (.int .i64 0)) (fun k hk => by cases hk; omega)).step (but_set g (n4 * 3 + 1) _ (mine)) (fun k hk => by cases hk; omega)).step (but_set g (n4 * 3 + 2) _ (.string ⟨#[]⟩)) (fun k hk => by cases hk; omega))
          have HF := hid (HL7.out.put4 (.slice (some ⟨g, 0, none⟩) n4 (n4 + 1)))
          have HLT : Hid (Lent 34 3 [.int .i64 0, mine, .string ⟨#[]⟩] (w.heap.size + 3) ((((w5.setCell ⟨g, n4 * 3, none⟩ (.int .i64 0)).setCell ⟨g, n4 * 3 + 1, none⟩ (mine)).setCell ⟨g, n4 * 3 + 2, none⟩ (.string ⟨#[]⟩)).setCell ⟨w.heap.size + 2, 4, none⟩ (.slice (some ⟨g, 0, none⟩) n4 (n4 + 1))) (.slice (some ad) n4 k4) (.slice (some ⟨g, 0, none⟩) n4 (n4 + 1)) n4 c4) := by
            refine Lent.keep (Lent.low (B := g) (.inr ⟨g, ⟨ad, k4, rfl⟩, rfl, hs3⟩) hsz3) (but_set (w.heap.size + 2) 4 _ _) (fun k hk => by cases hk; exact .inl (by omega))
          have HT1 := hid ((((HQ1.out.other (but_set g (n4 * 3) _ (.int .i64 0)) (Ne.symm (HNE1.out))).other (but_set g (n4 * 3 + 1) _ (mine)) (Ne.symm (HNE1.out))).other (but_set g (n4 * 3 + 2) _ (.string ⟨#[]⟩)) (Ne.symm (HNE1.out))).keep (but_set (w.heap.size + 2) 4 _ (.slice (some ⟨g, 0, none⟩) n4 (n4 + 1))) (fun k hk => by cases hk; exact .inl (by omega)))
          have HT2 := hid ((((HQ2.out.other (but_set g (n4 * 3) _ (.int .i64 0)) (Ne.symm (HNE2.out))).other (but_set g (n4 * 3 + 1) _ (mine)) (Ne.symm (HNE2.out))).other (but_set g (n4 * 3 + 2) _ (.string ⟨#[]⟩)) (Ne.symm (HNE2.out))).keep (but_set (w.heap.size + 2) 4 _ (.slice (some ⟨g, 0, none⟩) n4 (n4 + 1))) (fun k hk => by cases hk; exact .inl (by omega)))
          clear m1 z1
          obtain ⟨-, -, -, -, m1, -, -, -, -, -⟩ := HL5.out.1.cells
          obtain ⟨-, -, -, -, m7, -, -, -, -, -⟩ := HL7.out.1.cells
          obtain ⟨-, -, -, -, m8, -, -, -, -, z8⟩ := HL7.out.2.2.1.cells
          have hi1 : (0 : Int) ≤ (n4 : Int) := by omega
          have hi2 : (n4 : Int) < ((n4 + 1 : Nat) : Int) := by omega
          clear hs0 hs1 hs2 hs3 ho5 hg5 HO4 HS4 HL4 HL5 HL7
          go_wp2_with fail
          go_meet
          exact ⟨_, HF.out, HT1.out, HT2.out, HLT.out⟩
      case rest =>
        obtain ⟨u4, hln, hl1, hl2, hl4⟩ := hcut
        clear HL0 HP1 HP2
        have HL0 := hid hln
        have HP1 := hid hl1
        have HP2 := hid hl2
        have HP4 := hid hl4
        clear hln hl1 hl2 hl4
        obtain ⟨-, -, -, p3, -, -⟩ := HL0.out.1.cells
        go_wp2_with fail
        refine (lentTexts_any (.slice a3 n3 k3) n3 c3 wc (H3.out.below HL0.out.2.2.2) (by omega) O3.out).mono ?_
        rintro r wd ⟨hbd, u3, rfl, hl3⟩
        have hwd := hbd.size
        have hwc := HL0.out.size
        have HLD := hid (HL0.out.belowStep hbd)
        have HD1 := hid (HP1.out.below hbd)
        have HD2 := hid (HP2.out.below hbd)
        have HD4 := hid (HP4.out.below hbd)
        have HD3 := hid hl3
        have hsh : ∀ (e : TypeId) (sz : Nat) (ex : List Value) (B : Nat) (W : World) (v v' : Value) (n : Nat) (cs : List Value), Lent e sz ex B W v v' n cs → ∃ a l c, v' = .slice a l c := by
          rintro e sz ex B W v v' n cs (⟨cap, rfl, rfl⟩ | ⟨g, _, rfl, _⟩)
          · exact ⟨_, _, _, rfl⟩
          · exact ⟨_, _, _, rfl⟩
        obtain ⟨x1, y1, z1, rfl⟩ := hsh _ _ _ _ _ _ _ _ _ HD1.out
        obtain ⟨x2, y2, z2, rfl⟩ := hsh _ _ _ _ _ _ _ _ _ HD2.out
        obtain ⟨x4, y4, z4, rfl⟩ := hsh _ _ _ _ _ _ _ _ _ HD4.out
        obtain ⟨x3, y3, z3, rfl⟩ : ∃ a l c, u3 = .slice a l c := by
          rcases hl3 with ⟨cap, _, rfl⟩ | ⟨g, _, rfl, _⟩
          · exact ⟨_, _, _, rfl⟩
          · exact ⟨_, _, _, rfl⟩
        clear HL0 HP1 HP2 HP4 hbd hl3 hsh p3
        obtain ⟨-, -, -, d3, -, -, -, -, f3, -⟩ := HLD.out.2.2.1.cells
        have HN := hid (HLD.out.2.2.1.set3 (.slice x3 y3 z3))
        obtain ⟨e0, e1, e2, e3, e4, -⟩ := HN.out.cells
        have HRV := hid (nb_other (i := 3) (c := w.heap.size + 2) HLD.out.2.1 (by omega) (.slice x3 y3 z3))
        obtain ⟨r0, r1, r2, r3, r4, s0, s1, s2, s3, s4⟩ := HRV.out.cells
        have HNF := hid (HRV.out.put (.int .i64 kd) (.slice x1 y1 z1) (.slice x2 y2 z2) (.slice x3 y3 z3) (.slice x4 y4 z4))
        have hB3 : w.heap.size ≤ w.heap.size + 3 := by omega
        have HEND := hid (And.intro (below_put (HLD.out.2.2.2.setCell (p := ⟨w.heap.size + 2, 3, none⟩) (by show w.heap.size ≤ w.heap.size + 2; omega) (.slice x3 y3 z3)) (show w.heap.size ≤ w.heap.size + 1 by omega) (.int .i64 kd) (.slice x1 y1 z1) (.slice x2 y2 z2) (.slice x3 y3 z3) (.slice x4 y4 z4)) (And.intro ((HD1.out.twice (.slice x3 y3 z3) (.int .i64 kd) (.slice x1 y1 z1) (.slice x2 y2 z2) (.slice x3 y3 z3) (.slice x4 y4 z4)).low hB3) (And.intro ((HD2.out.twice (.slice x3 y3 z3) (.int .i64 kd) (.slice x1 y1 z1) (.slice x2 y2 z2) (.slice x3 y3 z3) (.slice x4 y4 z4)).low hB3) (And.intro (HD3.out.twice hwc (.slice x3 y3 z3) (.int .i64 kd) (.slice x1 y1 z1) (.slice x2 y2 z2) (.slice x3 y3 z3) (.slice x4 y4 z4)) ((HD4.out.twice (.slice x3 y3 z3) (.int .i64 kd) (.slice x1 y1 z1) (.slice x2 y2 z2) (.slice x3 y3 z3) (.slice x4 y4 z4)).low hB3)))))
        go_wp2_with fail
        refine bodyPost_ret (v := .agg #[.int .i64 kd, .slice x1 y1 z1, .slice x2 y2 z2, .slice x3 y3 z3, .slice x4 y4 z4]) ?_ rfl ⟨HEND.out.1, _, _, _, _, rfl, HEND.out.2⟩
        obtain ⟨q0, q1, q2, q3, q4⟩ := nodeB_result HNF.out
        unfold put5 at q0 q1 q2 q3 q4
        simp [results, Tryz.results97, go_sem, q0, q1, q2, q3, q4]
end Go.Proofs.YtolgpnaoaodepaaGreat
/- The walk of siltlaw's same, of two nodes that are alike. -/
namespace Go.Proofs.YtolgpnaoaodepaaGreat
open Go.RowKit
theorem IsItems.at {w : World} {v : Value} {l : List (ByteArray × ByteArray)} (h : IsItems w v l) (j : Nat) (hj : j < l.length) : ∃ b off cap, v = .slice (some ⟨b, off, none⟩) l.length cap ∧ b < w.heap.size ∧ w.cell? ⟨b, off + j * 2, none⟩ = some (.string (l[j]'hj).1) ∧ w.cell? ⟨b, off + j * 2 + 1, none⟩ = some (.string (l[j]'hj).2) := by
  rcases h with ⟨a, cap, rfl, rfl⟩ | ⟨b, off, cap, h1, h2, h3, h4, h5⟩
  · simp at hj
  · exact ⟨b, off, cap, h1, h4, (h5 j hj).1, (h5 j hj).2⟩
theorem IsRow.at {w : World} {v : Value} {n : Nat} {cs : List Value} (h : IsRow w v n cs) (hn : cs.length = n) (j : Nat) (hj : j < cs.length) : ∃ b off cap, v = .slice (some ⟨b, off, none⟩) n cap ∧ b < w.heap.size ∧ w.cell? ⟨b, off + j, none⟩ = some (cs[j]'hj) := by
  obtain ⟨a, cap, h1, h2, h3 | ⟨b, off, rfl, h4, h5⟩⟩ := h
  · omega
  · exact ⟨b, off, cap, h1, h4, h5 j hj⟩
theorem IsChs.at {w : World} {v : Value} {l : List (Int × ByteArray × ByteArray)} (h : IsChs w v l) (j : Nat) (hj : j < l.length) : ∃ b off cap, v = .slice (some ⟨b, off, none⟩) l.length cap ∧ b < w.heap.size ∧ w.cell? ⟨b, off + j * 3, none⟩ = some (.int .i64 (l[j]'hj).1) ∧ w.cell? ⟨b, off + j * 3 + 1, none⟩ = some (.string (l[j]'hj).2.1) ∧ w.cell? ⟨b, off + j * 3 + 2, none⟩ = some (.string (l[j]'hj).2.2) := by
  obtain ⟨a, cap, h1, h2, h3 | ⟨b, off, rfl, h4, h5⟩⟩ := h
  · omega
  · exact ⟨b, off, cap, h1, h4, h5 j hj⟩

set_option maxHeartbeats 4000000 in
set_option maxRecDepth 20000 in
theorem lawSame_any (va vb : Value) (kd : Int) (il : List (ByteArray × ByteArray)) (cl : List Int) (pl : List ByteArray) (ml : List (Int × ByteArray × ByteArray)) (w : World) (ha : IsNode w va kd il cl pl ml) (hb : IsNode w vb kd il cl pl ml) :
    Calls Tryz.prog 101 #[va, vb] w fun r w' => r = .returned (.bool true) ∧ Below w.heap.size w w' := by
  obtain ⟨x1, x2, x3, x4, rfl, i1, l1, c1, p1, m1⟩ := ha
  obtain ⟨y1, y2, y3, y4, rfl, i2, -, c2, p2, m2⟩ := hb
  have I1 := hid i1
  have I2 := hid i2
  have C1 := hid c1
  have C2 := hid c2
  have P1 := hid p1
  have P2 := hid p2
  have M1 := hid m1
  have M2 := hid m2
  obtain ⟨ia, ic, rfl⟩ := i1.shape
  obtain ⟨ja, jc, rfl⟩ := i2.shape
  obtain ⟨ca, cc, rfl, lc, -⟩ := c1
  obtain ⟨da, dc, rfl, -, -⟩ := c2
  obtain ⟨pa, pc, rfl, lp, -⟩ := p1
  obtain ⟨qa, qc, rfl, -, -⟩ := p2
  obtain ⟨ma, mc, rfl, lm, -⟩ := m1
  obtain ⟨na, nc, rfl, -, -⟩ := m2
  have BA := (Below.refl w.heap.size w).alloc (Nat.le_refl _) (.cells #[.int .i64 kd, .slice ia il.length ic, .slice ca cl.length cc, .slice pa pl.length pc, .slice ma ml.length mc] 79)
  have HN2 : Hid (NodeB ((w.alloc (.cells #[.int .i64 kd, .slice ia il.length ic, .slice ca cl.length cc, .slice pa pl.length pc, .slice ma ml.length mc] 79)).alloc (.cells #[.int .i64 kd, .slice ja il.length jc, .slice da cl.length dc, .slice qa pl.length qc, .slice na ml.length nc] 79)) w.heap.size (.int .i64 kd) (.slice ia il.length ic) (.slice ca cl.length cc) (.slice pa pl.length pc) (.slice ma ml.length mc)) := (nodeB_new w _ _ _ _ _).keep ((Below.refl _ _).alloc (Nat.le_refl _) _)
  have HN3 : Hid (NodeB ((w.alloc (.cells #[.int .i64 kd, .slice ia il.length ic, .slice ca cl.length cc, .slice pa pl.length pc, .slice ma ml.length mc] 79)).alloc (.cells #[.int .i64 kd, .slice ja il.length jc, .slice da cl.length dc, .slice qa pl.length qc, .slice na ml.length nc] 79)) (w.heap.size + 1) (.int .i64 kd) (.slice ja il.length jc) (.slice da cl.length dc) (.slice qa pl.length qc) (.slice na ml.length nc)) := by
    have := nodeB_new (w.alloc (.cells #[.int .i64 kd, .slice ia il.length ic, .slice ca cl.length cc, .slice pa pl.length pc, .slice ma ml.length mc] 79)) (.int .i64 kd) (.slice ja il.length jc) (.slice da cl.length dc) (.slice qa pl.length qc) (.slice na ml.length nc)
    rw [show (w.alloc (.cells #[.int .i64 kd, .slice ia il.length ic, .slice ca cl.length cc, .slice pa pl.length pc, .slice ma ml.length mc] 79)).heap.size = w.heap.size + 1 by simp] at this
    exact this
  have HB2 := hid (BA.alloc (by simp) (.cells #[.int .i64 kd, .slice ja il.length jc, .slice da cl.length dc, .slice qa pl.length qc, .slice na ml.length nc] 79))
  have hs2 : w.heap.size + 2 ≤ ((w.alloc (.cells #[.int .i64 kd, .slice ia il.length ic, .slice ca cl.length cc, .slice pa pl.length pc, .slice ma ml.length mc] 79)).alloc (.cells #[.int .i64 kd, .slice ja il.length jc, .slice da cl.length dc, .slice qa pl.length qc, .slice na ml.length nc] 79)).heap.size := by simp
  clear BA i1 i2
  go_enter Tryz.func101, Tryz.ntmps101
  go_wp2_with fail
  generalize (w.alloc (.cells #[.int .i64 kd, .slice ia il.length ic, .slice ca cl.length cc, .slice pa pl.length pc, .slice ma ml.length mc] 79)).alloc (.cells #[.int .i64 kd, .slice ja il.length jc, .slice da cl.length dc, .slice qa pl.length qc, .slice na ml.length nc] 79) = w2 at *
  have HL : Hid (∀ wr, Below w2.heap.size w2 wr → Below w.heap.size w wr ∧ NodeB wr w.heap.size (.int .i64 kd) (.slice ia il.length ic) (.slice ca cl.length cc) (.slice pa pl.length pc) (.slice ma ml.length mc) ∧ NodeB wr (w.heap.size + 1) (.int .i64 kd) (.slice ja il.length jc) (.slice da cl.length dc) (.slice qa pl.length qc) (.slice na ml.length nc)) := fun wr h => ⟨HB2.out.trans (h.mono (by omega)), HN2.out.keep h, HN3.out.keep h⟩
  clear HN2 HN3 HB2
  go_loopw [5] (fun i wr => ∃ j : Nat, j ≤ il.length ∧ i = .int .i64 j ∧ Below w2.heap.size w2 wr) (fun i _ => il.length - (intOf i).toNat)
  case atStart => exact ⟨0, Nat.zero_le _, rfl, Below.refl _ _⟩
  case round =>
    obtain ⟨j, hj, rfl, hbr⟩ := hrel
    have HBR := hid hbr
    obtain ⟨hbw, hn2, hn3⟩ := HL.out wr hbr
    have HBW := hid hbw
    obtain ⟨a0, a1, a2, a3, a4, -⟩ := hn2.cells
    obtain ⟨b0, b1, b2, b3, b4, -⟩ := hn3.cells
    clear hbr hbw hn2 hn3
    by_cases hjl : j < il.length
    · obtain ⟨g1, o1, cp1, e1, q1, u1, u2⟩ := I1.out.at j hjl
      obtain ⟨g2, o2, cp2, e2, q2, u3, u4⟩ := I2.out.at j hjl
      injection e1 with f1 f2 f3
      injection e2 with f4 f5 f6
      subst f1 f3 f4 f6
      replace u1 := (HBW.out.cell (p := ⟨g1, o1 + j * 2, none⟩) q1).trans u1
      replace u2 := (HBW.out.cell (p := ⟨g1, o1 + j * 2 + 1, none⟩) q1).trans u2
      replace u3 := (HBW.out.cell (p := ⟨g2, o2 + j * 2, none⟩) q2).trans u3
      replace u4 := (HBW.out.cell (p := ⟨g2, o2 + j * 2 + 1, none⟩) q2).trans u4
      generalize il[j]'hjl = xx at *
      obtain ⟨kb, vb⟩ := xx
      simp only at u1 u2 u3 u4
      have hi1 : (0 : Int) ≤ (j : Int) := by omega
      have hi2 : (j : Int) < (il.length : Int) := by omega
      go_wp2_with fail
      go_quiet (fail)
      go_wp2_with fail
      go_roundw
      case rel => exact ⟨j + 1, by omega, by go_num, below_drewN HBR.out _⟩
      case measure => simp [intOf]; omega
    · have hi2 : ¬ (j : Int) < (il.length : Int) := by omega
      clear hi2
      have hi2 : ¬ (j : Int) < (il.length : Int) := by omega
      go_wp2_with fail
      clear a0 a1 a2 a3 a4 b0 b1 b2 b3 b4 hi2 hjl hj
      go_loopw [6] (fun i wr => ∃ j : Nat, j ≤ cl.length ∧ i = .int .i64 j ∧ Below w2.heap.size w2 wr) (fun i _ => cl.length - (intOf i).toNat)
      case atStart => exact ⟨0, Nat.zero_le _, rfl, HBR.out⟩
      case round =>
        obtain ⟨j, hj, rfl, hbr⟩ := hrel
        have HBR := hid hbr
        obtain ⟨hbw, hn2, hn3⟩ := HL.out wr hbr
        have HBW := hid hbw
        obtain ⟨a0, a1, a2, a3, a4, -⟩ := hn2.cells
        obtain ⟨b0, b1, b2, b3, b4, -⟩ := hn3.cells
        clear hbr hbw hn2 hn3
        by_cases hjl : j < cl.length
        · have hcm : j < (cl.map (Value.int .i64)).length := by simpa using hjl
          obtain ⟨g1, o1, cp1, e1, q1, u1⟩ := C1.out.at (by simp) j hcm
          obtain ⟨g2, o2, cp2, e2, q2, u3⟩ := C2.out.at (by simp) j hcm
          injection e1 with f1 f2 f3
          injection e2 with f4 f5 f6
          subst f1 f3 f4 f6
          replace u1 := (HBW.out.cell (p := ⟨g1, o1 + j, none⟩) q1).trans u1
          replace u3 := (HBW.out.cell (p := ⟨g2, o2 + j, none⟩) q2).trans u3
          rw [List.getElem_map] at u1 u3
          generalize cl[j]'hjl = xx at *
          have hi1 : (0 : Int) ≤ (j : Int) := by omega
          have hi2 : (j : Int) < (cl.length : Int) := by omega
          clear hcm
          go_wp2_with fail
          go_quiet (fail)
          go_wp2_with fail
          go_roundw
          case rel => exact ⟨j + 1, by omega, by go_num, below_drewN HBR.out _⟩
          case measure => simp [intOf]; omega
        · have hi2 : ¬ (j : Int) < (cl.length : Int) := by omega
          go_wp2_with fail
          clear a0 a1 a2 a3 a4 b0 b1 b2 b3 b4 hi2 hjl hj
          go_loopw [7] (fun i wr => ∃ j : Nat, j ≤ pl.length ∧ i = .int .i64 j ∧ Below w2.heap.size w2 wr) (fun i _ => pl.length - (intOf i).toNat)
          case atStart => exact ⟨0, Nat.zero_le _, rfl, HBR.out⟩
          case round =>
            obtain ⟨j, hj, rfl, hbr⟩ := hrel
            have HBR := hid hbr
            obtain ⟨hbw, hn2, hn3⟩ := HL.out wr hbr
            have HBW := hid hbw
            obtain ⟨a0, a1, a2, a3, a4, -⟩ := hn2.cells
            obtain ⟨b0, b1, b2, b3, b4, -⟩ := hn3.cells
            clear hbr hbw hn2 hn3
            by_cases hjl : j < pl.length
            · have hcm : j < (pl.map Value.string).length := by simpa using hjl
              obtain ⟨g1, o1, cp1, e1, q1, u1⟩ := P1.out.at (by simp) j hcm
              obtain ⟨g2, o2, cp2, e2, q2, u3⟩ := P2.out.at (by simp) j hcm
              injection e1 with f1 f2 f3
              injection e2 with f4 f5 f6
              subst f1 f3 f4 f6
              replace u1 := (HBW.out.cell (p := ⟨g1, o1 + j, none⟩) q1).trans u1
              replace u3 := (HBW.out.cell (p := ⟨g2, o2 + j, none⟩) q2).trans u3
              rw [List.getElem_map] at u1 u3
              generalize pl[j]'hjl = xx at *
              have hi1 : (0 : Int) ≤ (j : Int) := by omega
              have hi2 : (j : Int) < (pl.length : Int) := by omega
              clear hcm
              go_wp2_with fail
              go_quiet (fail)
              go_wp2_with fail
              go_roundw
              case rel => exact ⟨j + 1, by omega, by go_num, below_drewN HBR.out _⟩
              case measure => simp [intOf]; omega
            · have hi2 : ¬ (j : Int) < (pl.length : Int) := by omega
              go_wp2_with fail
              clear a0 a1 a2 a3 a4 b0 b1 b2 b3 b4 hi2 hjl hj
              go_loopw [8] (fun i wr => ∃ j : Nat, j ≤ ml.length ∧ i = .int .i64 j ∧ Below w2.heap.size w2 wr) (fun i _ => ml.length - (intOf i).toNat)
              case atStart => exact ⟨0, Nat.zero_le _, rfl, HBR.out⟩
              case round =>
                obtain ⟨j, hj, rfl, hbr⟩ := hrel
                have HBR := hid hbr
                obtain ⟨hbw, hn2, hn3⟩ := HL.out wr hbr
                have HBW := hid hbw
                obtain ⟨a0, a1, a2, a3, a4, -⟩ := hn2.cells
                obtain ⟨b0, b1, b2, b3, b4, -⟩ := hn3.cells
                clear hbr hbw hn2 hn3
                by_cases hjl : j < ml.length
                · obtain ⟨g1, o1, cp1, e1, q1, u1, u2, u5⟩ := M1.out.at j hjl
                  obtain ⟨g2, o2, cp2, e2, q2, u3, u4, u6⟩ := M2.out.at j hjl
                  injection e1 with f1 f2 f3
                  injection e2 with f4 f5 f6
                  subst f1 f3 f4 f6
                  replace u1 := (HBW.out.cell (p := ⟨g1, o1 + j * 3, none⟩) q1).trans u1
                  replace u2 := (HBW.out.cell (p := ⟨g1, o1 + j * 3 + 1, none⟩) q1).trans u2
                  replace u5 := (HBW.out.cell (p := ⟨g1, o1 + j * 3 + 2, none⟩) q1).trans u5
                  replace u3 := (HBW.out.cell (p := ⟨g2, o2 + j * 3, none⟩) q2).trans u3
                  replace u4 := (HBW.out.cell (p := ⟨g2, o2 + j * 3 + 1, none⟩) q2).trans u4
                  replace u6 := (HBW.out.cell (p := ⟨g2, o2 + j * 3 + 2, none⟩) q2).trans u6
                  generalize ml[j]'hjl = xx at *
                  obtain ⟨kk, kb, vb⟩ := xx
                  simp only at u1 u2 u3 u4 u5 u6
                  have hi1 : (0 : Int) ≤ (j : Int) := by omega
                  have hi2 : (j : Int) < (ml.length : Int) := by omega
                  go_wp2_with fail
                  go_quiet (fail)
                  go_wp2_with fail
                  go_roundw
                  case rel => exact ⟨j + 1, by omega, by go_num, below_drewN HBR.out _⟩
                  case measure => simp [intOf]; omega
                · have hi2 : ¬ (j : Int) < (ml.length : Int) := by omega
                  go_wp2_with fail
                  go_ret
                  exact ⟨rfl, HBW.out⟩
end Go.Proofs.YtolgpnaoaodepaaGreat
/- The walk of stillNode. -/
namespace Go.Proofs.YtolgpnaoaodepaaGreat
open Go.RowKit

theorem row_cell {B : Nat} {e : TypeId} {sz g cap n : Nat} {xs : List Value} {w : World} (h : w.ownsRow B e sz (.slice (some ⟨g, 0, none⟩) n cap) n xs) (i : Nat) (x : Value) (hx : xs[i]? = some x) : w.cell? ⟨g, i, none⟩ = some x := by
  have := h.cells (g := g) rfl i x hx
  rwa [addr_add] at this
theorem icells_len2 : ∀ l : List (ByteArray × ByteArray), (icells l).length = l.length * 2
  | [] => rfl
  | x :: r => by
    show ([Value.string x.1, Value.string x.2] ++ icells r).length = _
    rw [List.length_append, icells_len2 r]; simp; omega
theorem ccells_len2 : ∀ l : List (Int × ByteArray × ByteArray), (ccells l).length = l.length * 3
  | [] => rfl
  | x :: r => by
    show ([Value.int .i64 x.1, Value.string x.2.1, Value.string x.2.2] ++ ccells r).length = _
    rw [List.length_append, ccells_len2 r]; simp; omega
theorem IsRow.src {w : World} {v : Value} {n : Nat} {cs : List Value} (h : IsRow w v n cs) (hn : cs.length = n) : Src 1 w v n cs := by
  obtain ⟨a, cap, h1, h2, h3⟩ := h
  refine ⟨a, cap, h1, by omega, h3.imp_right fun ⟨b, off, e, hlt, hc⟩ => ⟨b, off, e, hlt, fun j u hj => ?_⟩⟩
  obtain ⟨hj', rfl⟩ := List.getElem?_eq_some_iff.1 hj
  exact hc j hj'
theorem LentT.below {B : Nat} {w w' : World} {v v' : Value} {n : Nat} {cs : List Value} (h : LentT B w v v' n cs) (hb : Below w.heap.size w w') : LentT B w' v v' n cs := by
  rcases h with h | ⟨g, h1, h2, h3⟩
  · exact .inl h
  · exact .inr ⟨g, h1, h2, row_bel h3 hb⟩
theorem Lent.isItems {B : Nat} {w : World} {v u : Value} {l : List (ByteArray × ByteArray)} {ex : List Value} (hv : IsItems w v l) (hb : l.length ≤ 100000000) (h : Lent 51 2 ex B w v u l.length (icells l)) : IsItems w u l := by
  rcases h with ⟨cap, rfl, rfl⟩ | ⟨g, _, rfl, ho⟩
  · exact hv
  · refine .inr ⟨g, 0, l.length + 1, rfl, by omega, by omega, (World.ownsRow.lt ho g rfl).2, fun i hi => ?_⟩
    obtain ⟨q1, q2⟩ := icells_at l i hi
    rw [Nat.zero_add]
    have hl : (icells l).length = l.length * 2 := icells_len2 l
    exact ⟨row_cell ho _ _ (by rw [List.getElem?_append_left (by omega)]; exact q1), row_cell ho _ _ (by rw [List.getElem?_append_left (by omega)]; exact q2)⟩
theorem Lent.isChs {B : Nat} {w : World} {v u : Value} {l : List (Int × ByteArray × ByteArray)} {ex : List Value} (hv : IsChs w v l) (hb : l.length ≤ 100000000) (h : Lent 34 3 ex B w v u l.length (ccells l)) : IsChs w u l := by
  rcases h with ⟨cap, rfl, rfl⟩ | ⟨g, _, rfl, ho⟩
  · exact hv
  · refine ⟨some ⟨g, 0, none⟩, l.length + 1, rfl, by omega, .inr ⟨g, 0, rfl, (World.ownsRow.lt ho g rfl).2, fun i hi => ?_⟩⟩
    obtain ⟨q1, q2, q3⟩ := ccells_at l i hi
    rw [Nat.zero_add]
    have hl : (ccells l).length = l.length * 3 := ccells_len2 l
    exact ⟨row_cell ho _ _ (by rw [List.getElem?_append_left (by omega)]; exact q1), row_cell ho _ _ (by rw [List.getElem?_append_left (by omega)]; exact q2), row_cell ho _ _ (by rw [List.getElem?_append_left (by omega)]; exact q3)⟩
theorem Lent.isRow {B : Nat} {e : TypeId} {w : World} {v u : Value} {n : Nat} {cs ex : List Value} (hv : IsRow w v n cs) (hn : cs.length = n) (hb : n ≤ 100000000) (h : Lent e 1 ex B w v u n cs) : IsRow w u n cs := by
  rcases h with ⟨cap, rfl, rfl⟩ | ⟨g, _, rfl, ho⟩
  · exact hv
  · refine ⟨some ⟨g, 0, none⟩, n + 1, rfl, by omega, .inr ⟨g, 0, rfl, (World.ownsRow.lt ho g rfl).2, fun i hi => ?_⟩⟩
    rw [Nat.zero_add]
    exact row_cell ho _ _ (by rw [List.getElem?_append_left hi]; exact List.getElem?_eq_getElem hi)
theorem LentT.isRow {B : Nat} {w : World} {v u : Value} {n : Nat} {cs : List Value} (hv : IsRow w v n cs) (hn : cs.length = n) (hb : n ≤ 100000000) (h : LentT B w v u n cs) : IsRow w u n cs := by
  rcases h with ⟨cap, rfl, rfl⟩ | ⟨g, _, rfl, ho⟩
  · obtain ⟨a, c, e, h2, h3⟩ := hv
    simp only [Value.slice.injEq] at e
    obtain ⟨rfl, -, rfl⟩ := e
    have h0 : n = 0 := by
      rcases h3 with h3 | ⟨b, off, e, _⟩
      · exact h3
      · cases e
    subst h0
    exact ⟨none, 0, rfl, by omega, .inl rfl⟩
  · refine ⟨some ⟨g, 0, none⟩, n + 2, rfl, by omega, .inr ⟨g, 0, rfl, (World.ownsRow.lt ho g rfl).2, fun i hi => ?_⟩⟩
    rw [Nat.zero_add]
    exact row_cell ho _ _ (by rw [List.getElem?_append_left hi]; exact List.getElem?_eq_getElem hi)
set_option maxHeartbeats 1000000 in
set_option maxRecDepth 20000 in
theorem stillNode_any (kd : Int) (u1 u2 u3 u4 v1 v2 v3 v4 : Value) (il : List (ByteArray × ByteArray)) (cl : List Int) (pl : List ByteArray) (ml : List (Int × ByteArray × ByteArray)) (w0 w : World) (hb : Below w0.heap.size w0 w) (h1 : IsItems w0 v1 il) (h2 : IsRow w0 v2 cl.length (cl.map (.int .i64))) (h3 : IsRow w0 v3 pl.length (pl.map .string)) (h4 : IsChs w0 v4 ml) (b1 : il.length ≤ 100000000) (b2 : cl.length ≤ 100000000) (b3 : pl.length ≤ 100000000) (b4 : ml.length ≤ 100000000)
    (l1 : Lent 51 2 [mine, .string ⟨#[]⟩] w0.heap.size w v1 u1 il.length (icells il)) (l2 : Lent 3 1 [.int .i64 (-7)] w0.heap.size w v2 u2 cl.length (cl.map (.int .i64))) (l3 : LentT w0.heap.size w v3 u3 pl.length (strs pl)) (l4 : Lent 34 3 [.int .i64 0, mine, .string ⟨#[]⟩] w0.heap.size w v4 u4 ml.length (ccells ml)) :
    Calls Tryz.prog 99 #[.agg #[.int .i64 kd, u1, u2, u3, u4], .agg #[.int .i64 kd, v1, v2, v3, v4]] w fun r w' => r = .returned (.bool true) ∧ Below w0.heap.size w w' := by
  have g1 := h1.below hb
  have g2 := h2.below hb
  have g3 := h3.below hb
  have g4 := h4.below hb
  have HNV : Hid (IsNode w (.agg #[.int .i64 kd, v1, v2, v3, v4]) kd il cl pl ml) := ⟨_, _, _, _, rfl, g1, by omega, g2, g3, g4⟩
  have HNU : Hid (IsNode w (.agg #[.int .i64 kd, u1, u2, u3, u4]) kd il cl pl ml) := ⟨_, _, _, _, rfl, Lent.isItems g1 b1 l1, by omega, Lent.isRow g2 (by simp) b2 l2, LentT.isRow g3 (by simp) b3 l3, Lent.isChs g4 b4 l4⟩
  have HS3 := hid (IsRow.src h3 (by simp))
  have hsh : ∀ (e : TypeId) (sz : Nat) (ex : List Value) (B : Nat) (W : World) (v v' : Value) (n : Nat) (cs : List Value), Lent e sz ex B W v v' n cs → ∃ a l c, v' = .slice a l c := by
    rintro e sz ex B W v v' n cs (⟨cap, rfl, rfl⟩ | ⟨g, _, rfl, _⟩)
    · exact ⟨_, _, _, rfl⟩
    · exact ⟨_, _, _, rfl⟩
  obtain ⟨x1, y1, z1, rfl⟩ := hsh _ _ _ _ _ _ _ _ _ l1
  obtain ⟨x2, y2, z2, rfl⟩ := hsh _ _ _ _ _ _ _ _ _ l2
  obtain ⟨x4, y4, z4, rfl⟩ := hsh _ _ _ _ _ _ _ _ _ l4
  obtain ⟨x3, y3, z3, rfl⟩ : ∃ a l c, u3 = .slice a l c := by
    rcases l3 with ⟨cap, _, rfl⟩ | ⟨g, _, rfl, _⟩
    · exact ⟨_, _, _, rfl⟩
    · exact ⟨_, _, _, rfl⟩
  obtain ⟨a1, k1, rfl⟩ := h1.shape
  obtain ⟨a2, k2, rfl, -, -⟩ := h2
  obtain ⟨a3, k3, rfl, -, -⟩ := h3
  obtain ⟨a4, k4, rfl, -, -⟩ := h4
  have BA := (Below.refl w.heap.size w).alloc (Nat.le_refl _) (.cells #[.int .i64 kd, .slice x1 y1 z1, .slice x2 y2 z2, .slice x3 y3 z3, .slice x4 y4 z4] 79)
  have HB2 := hid (BA.alloc (by simp) (.cells #[.int .i64 kd, .slice a1 il.length k1, .slice a2 cl.length k2, .slice a3 pl.length k3, .slice a4 ml.length k4] 79))
  have HU : Hid (NodeB ((w.alloc (.cells #[.int .i64 kd, .slice x1 y1 z1, .slice x2 y2 z2, .slice x3 y3 z3, .slice x4 y4 z4] 79)).alloc (.cells #[.int .i64 kd, .slice a1 il.length k1, .slice a2 cl.length k2, .slice a3 pl.length k3, .slice a4 ml.length k4] 79)) w.heap.size (.int .i64 kd) (.slice x1 y1 z1) (.slice x2 y2 z2) (.slice x3 y3 z3) (.slice x4 y4 z4)) := (nodeB_new w (.int .i64 kd) (.slice x1 y1 z1) (.slice x2 y2 z2) (.slice x3 y3 z3) (.slice x4 y4 z4)).keep ((Below.refl _ _).alloc (Nat.le_refl _) _)
  have HV : Hid (NodeB ((w.alloc (.cells #[.int .i64 kd, .slice x1 y1 z1, .slice x2 y2 z2, .slice x3 y3 z3, .slice x4 y4 z4] 79)).alloc (.cells #[.int .i64 kd, .slice a1 il.length k1, .slice a2 cl.length k2, .slice a3 pl.length k3, .slice a4 ml.length k4] 79)) (w.heap.size + 1) (.int .i64 kd) (.slice a1 il.length k1) (.slice a2 cl.length k2) (.slice a3 pl.length k3) (.slice a4 ml.length k4)) := by
    have := nodeB_new (w.alloc (.cells #[.int .i64 kd, .slice x1 y1 z1, .slice x2 y2 z2, .slice x3 y3 z3, .slice x4 y4 z4] 79)) (.int .i64 kd) (.slice a1 il.length k1) (.slice a2 cl.length k2) (.slice a3 pl.length k3) (.slice a4 ml.length k4)
    rw [show (w.alloc (.cells #[.int .i64 kd, .slice x1 y1 z1, .slice x2 y2 z2, .slice x3 y3 z3, .slice x4 y4 z4] 79)).heap.size = w.heap.size + 1 by simp] at this
    exact this
  have HL1 := hid l1
  have HL2 := hid l2
  have HL3 := hid l3
  have HL4 := hid l4
  have HB := hid hb
  have hw0 := hb.size
  clear BA g1 g2 g3 g4 l1 l2 l3 l4 hb hsh h1
  have hnI : ∀ W a l c, (binOp .neq 30 (.slice a l c) (.slice none 0 0)).run Tryz.prog W = .ok (.bool (!a.isNone)) W := fun W a l c => run_neq_slice_nil W 30 51 a l c Tryz.underlying30
  have hnN : ∀ W a l c, (binOp .neq 25 (.slice a l c) (.slice none 0 0)).run Tryz.prog W = .ok (.bool (!a.isNone)) W := fun W a l c => run_neq_slice_nil W 25 3 a l c Tryz.underlying25
  have hnC : ∀ W a l c, (binOp .neq 77 (.slice a l c) (.slice none 0 0)).run Tryz.prog W = .ok (.bool (!a.isNone)) W := fun W a l c => run_neq_slice_nil W 77 34 a l c Tryz.underlying77
  go_enter Tryz.func99, Tryz.ntmps99
  go_wp2_with fail
  refine (lawSame_any _ _ kd il cl pl ml _ (HNU.out.below HB2.out) (HNV.out.below HB2.out)).mono ?_
  rintro r w3 ⟨rfl, hb3⟩
  have HB3 := hid (HB2.out.trans (hb3.mono (by simp; omega)))
  have HU3 := hid (HU.out.keep hb3)
  have HV3 := hid (HV.out.keep hb3)
  clear hb3 HB2 HU HV HNU HNV
  obtain ⟨-, d1, d2, d3, d4, -⟩ := HU3.out.cells
  obtain ⟨-, e1, e2, e3, e4, -⟩ := HV3.out.cells
  go_upto_if 15 with fail
  go_cut [5, 6] (fun o _ wx => o = .bool true ∧ w3 = wx)
  case first =>
    rcases HL1.out with ⟨cap, e, e'⟩ | ⟨g, ⟨ad, cap, e⟩, e', ho⟩
    · simp only [Value.slice.injEq, true_and] at e
      obtain ⟨rfl, rfl⟩ := e
      go_wp2_with fail
      go_meet
      exact ⟨rfl, rfl⟩
    · simp only [Value.slice.injEq, true_and] at e e'
      obtain ⟨rfl, rfl⟩ := e
      obtain ⟨rfl, rfl, rfl⟩ := e'
      have ho3 := row_bel ho HB3.out
      have q0 := row_cell ho3 (il.length * 2) (mine) (by rw [List.getElem?_append_right (by rw [icells_len2]; exact Nat.le_refl _), icells_len2]; simp)
      have q1 := row_cell ho3 (il.length * 2 + 1) (.string ⟨#[]⟩) (by rw [List.getElem?_append_right (by rw [icells_len2]; omega), icells_len2]; simp)
      clear ho ho3
      have hw1 : IntKind.i64.wrap ((il.length : Int) + 1) = (il.length : Int) + 1 := IntWalk.i64_in _ ⟨by omega, by omega⟩
      go_wp2_with fail
      go_meet
      exact ⟨rfl, rfl⟩
  case rest =>
    obtain ⟨rfl, rfl⟩ := hcut
    go_upto_if 36 with fail
    go_cut [5, 7] (fun o _ wx => o = .bool true ∧ w3 = wx)
    case first =>
      rcases HL2.out with ⟨cap, e, e'⟩ | ⟨g, ⟨ad, cap, e⟩, e', ho⟩
      · simp only [Value.slice.injEq, true_and] at e
        obtain ⟨rfl, rfl⟩ := e
        go_wp2_with fail
        go_meet
        exact ⟨rfl, rfl⟩
      · simp only [Value.slice.injEq, true_and] at e e'
        obtain ⟨rfl, rfl⟩ := e
        obtain ⟨rfl, rfl, rfl⟩ := e'
        have ho3 := row_bel ho HB3.out
        have q0 := row_cell ho3 (cl.length) (.int .i64 (-7)) (by rw [List.getElem?_append_right (by rw [List.length_map]; exact Nat.le_refl _), List.length_map]; simp)
        clear ho ho3
        have hw1 : IntKind.i64.wrap ((cl.length : Int) + 1) = (cl.length : Int) + 1 := IntWalk.i64_in _ ⟨by omega, by omega⟩
        go_wp2_with fail
        go_meet
        exact ⟨rfl, rfl⟩
    case rest =>
      obtain ⟨rfl, rfl⟩ := hcut
      go_upto_if 56 with fail
      go_cut [5, 8] (fun o _ wx => o = .bool true ∧ w3 = wx)
      case first =>
        rcases HL4.out with ⟨cap, e, e'⟩ | ⟨g, ⟨ad, cap, e⟩, e', ho⟩
        · simp only [Value.slice.injEq, true_and] at e
          obtain ⟨rfl, rfl⟩ := e
          go_wp2_with fail
          go_meet
          exact ⟨rfl, rfl⟩
        · simp only [Value.slice.injEq, true_and] at e e'
          obtain ⟨rfl, rfl⟩ := e
          obtain ⟨rfl, rfl, rfl⟩ := e'
          have ho3 := row_bel ho HB3.out
          have q0 := row_cell ho3 (ml.length * 3) (.int .i64 0) (by rw [List.getElem?_append_right (by rw [ccells_len2]; exact Nat.le_refl _), ccells_len2]; simp)
          have q1 := row_cell ho3 (ml.length * 3 + 1) (mine) (by rw [List.getElem?_append_right (by rw [ccells_len2]; omega), ccells_len2]; simp)
          have q2 := row_cell ho3 (ml.length * 3 + 2) (.string ⟨#[]⟩) (by rw [List.getElem?_append_right (by rw [ccells_len2]; omega), ccells_len2]; simp)
          clear ho ho3
          have hw1 : IntKind.i64.wrap ((ml.length : Int) + 1) = (ml.length : Int) + 1 := IntWalk.i64_in _ ⟨by omega, by omega⟩
          go_wp2_with fail
          go_meet
          exact ⟨rfl, rfl⟩
      case rest =>
        obtain ⟨rfl, rfl⟩ := hcut
        go_wp2_with fail
        refine (stillTexts_any (.slice a3 pl.length k3) _ pl.length pl w0 w3 (HB.out.trans (HB3.out.mono hw0)) HS3.out (HL3.out.below HB3.out) b3).mono ?_
        rintro r w5 ⟨rfl, hb5⟩
        have HF := hid ((HB3.out.mono hw0).trans hb5)
        clear hb5
        go_wp2_with fail
        go_ret
        exact ⟨rfl, HF.out⟩
end Go.Proofs.YtolgpnaoaodepaaGreat
