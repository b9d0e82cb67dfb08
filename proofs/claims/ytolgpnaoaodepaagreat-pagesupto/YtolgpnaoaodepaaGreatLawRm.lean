/- The book through a step: the pair that grew, the pairs that stay. -/
import Derived.Test.YtolgpnaoaodepaaGreatLawOm
namespace Go.Proofs.YtolgpnaoaodepaaGreat
open Go.RowKit

/-- A row of lists and a row of their marks, each list marked and lying in such a block. -/
def KeptF (eS eE eM : TypeId) (mk : Value → List Value) (ok : Value → Prop) (F : Nat → Prop) (w : World) (vS vM : Value) (k : Nat) : Prop := ∃ L M : List Value, w.ownsRow 0 eS 1 vS k L ∧ w.ownsRow 0 eM 1 vM k M ∧ ∀ (i : Nat) (u m : Value), L[i]? = some u → M[i]? = some m → ok m ∧ Marked eE (mk m) w u ∧ ∀ g, atBlock u = some g → F g
theorem KeptF.kept {eS eE eM : TypeId} {mk : Value → List Value} {ok : Value → Prop} {F : Nat → Prop} {w : World} {vS vM : Value} {k : Nat} (h : KeptF eS eE eM mk ok F w vS vM k) : Kept eS eE eM mk ok w vS vM k := by
  obtain ⟨L, M, h1, h2, h3⟩ := h
  exact ⟨L, M, h1, h2, fun i u m hu hm => ⟨(h3 i u m hu hm).1, (h3 i u m hu hm).2.1⟩⟩
theorem row_same {B : Nat} {e : TypeId} {sz n : Nat} {v : Value} {xs : List Value} {w w' : World} (h : w.ownsRow B e sz v n xs) (hs : ∀ g, v.ownBlock = some g → g < w.heap.size → w'.heap[g]? = w.heap[g]?) : w'.ownsRow B e sz v n xs := by
  refine ⟨h.1, ?_⟩
  rcases h.2 with q | ⟨g, cap, cur, rfl, hb, hg, q⟩
  · exact .inl q
  · exact .inr ⟨g, cap, cur, rfl, hb, (hs g rfl (Array.getElem?_eq_some_iff.1 hg).1).trans hg, q⟩
/-- A pair whose blocks nobody wrote. -/
theorem KeptF.stay {eS eE eM : TypeId} {mk : Value → List Value} {ok : Value → Prop} {F F' : Nat → Prop} {w w' : World} {vS vM : Value} {k : Nat} (h : KeptF eS eE eM mk ok F w vS vM k) (hs : ∀ g, g < w.heap.size → (vS.ownBlock = some g ∨ vM.ownBlock = some g ∨ F g) → w'.heap[g]? = w.heap[g]?) (hF : ∀ g, g < w.heap.size → F g → F' g) : KeptF eS eE eM mk ok F' w' vS vM k := by
  obtain ⟨L, M, h1, h2, h3⟩ := h
  refine ⟨L, M, row_same h1 fun g hg hl => hs g hl (.inl hg), row_same h2 fun g hg hl => hs g hl (.inr (.inl hg)), fun i u m hu hm => ?_⟩
  obtain ⟨q1, q2, q3⟩ := h3 i u m hu hm
  exact ⟨q1, q2.keep fun g hg => hs g (q2.lt hg) (.inr (.inr (q3 g hg))), fun g hg => hF g (q2.lt hg) (q3 g hg)⟩
/-- The pair that an own.. grew. -/
theorem kept_grow {eS eE eM : TypeId} {mk : Value → List Value} {ok : Value → Prop} {F F' : Nat → Prop} {w w' : World} {b k : Nat} {l vS vM vS' vM' m0 : Value} {L M : List Value} (hall : ∀ (i : Nat) (u m : Value), L[i]? = some u → M[i]? = some m → ok m ∧ Marked eE (mk m) w u ∧ ∀ g, atBlock u = some g → F g) (hL : L.length = k) (hM : M.length = k)
    (hr : OwnR w b eS eE eM (mk m0) m0 l vS vM k L M vS' vM' w') (hok : ok m0) (hFo : ∀ g, g < w.heap.size → F g → g ≠ b ∧ l.ownBlock ≠ some g ∧ vS.ownBlock ≠ some g ∧ vM.ownBlock ≠ some g ∧ F' g) (hFn : ∀ g, (l.ownBlock = some g ∨ w.heap.size ≤ g) → g ≠ b → vS'.ownBlock ≠ some g → vM'.ownBlock ≠ some g → F' g) : KeptF eS eE eM mk ok F' w' vS' vM' (k + 4) := by
  obtain ⟨g1, g2, g3, rS, rM, hu4, hS, hMb, -, -, -, hsz, hfr⟩ := hr
  refine ⟨_, _, rS, rM, fun i u m hu hm => ?_⟩
  by_cases hi : i < k
  · rw [List.getElem?_append_left (by omega)] at hu hm
    obtain ⟨q1, q2, q3⟩ := hall i u m hu hm
    refine ⟨q1, q2.keep fun g hg => ?_, fun g hg => (hFo g (q2.lt hg) (q3 g hg)).2.2.2.2⟩
    obtain ⟨f1, f2, f3, f4, -⟩ := hFo g (q2.lt hg) (q3 g hg)
    exact hfr g (q2.lt hg) f1 f2 f3 f4
  · rw [List.getElem?_append_right (by omega)] at hu hm
    have hlt := (List.getElem?_eq_some_iff.1 hu).1
    rw [hL] at hu hlt
    rw [hM] at hm
    have hu' : u = l ∨ u = g1 ∨ u = g2 ∨ u = g3 := by
      have := List.mem_of_getElem? hu
      simpa using this
    have hm' : m = m0 := by
      have := List.mem_of_getElem? hm
      simpa using this
    subst hm'
    obtain ⟨q1, q2⟩ := hu4 u hu'
    refine ⟨hok, q1, fun g hg => ?_⟩
    obtain ⟨f1, f2, f3, f4⟩ := q2 g hg
    exact hFn g f1 f2 f3 f4
end Go.Proofs.YtolgpnaoaodepaaGreat
/- The book's invariant, and what an own.. makes of it. -/
namespace Go.Proofs.YtolgpnaoaodepaaGreat
open Go.RowKit

/-- The four kinds of lists: items, changes, texts, numbers. -/
def tS : Nat → TypeId | 0 => 30 | 1 => 77 | 2 => 40 | _ => 25
def tE : Nat → TypeId | 0 => 51 | 1 => 34 | 2 => 9 | _ => 3
def tM : Nat → TypeId | 0 => 9 | 1 => 9 | 2 => 9 | _ => 3
def tk : Nat → Value → List Value | 0 => mkI | 1 => mkC | _ => mkT
def tok : Nat → Value → Prop | 0 => isStr | 1 => isStr | 2 => isStr | _ => isInt
/-- The eight rows: apart from World's block, from each other, and from what is still to be owned (X). -/
def RowsF (v : Nat → Value) (b : Nat) (X : Nat → Prop) (w : World) : Prop := (∀ i, 1 ≤ i → i ≤ 8 → ∀ g, (v i).ownBlock = some g → b < g ∧ ¬ X g ∧ g < w.heap.size) ∧ ∀ i j, 1 ≤ i → i ≤ 8 → 1 ≤ j → j ≤ 8 → i ≠ j → Apart (v i) (v j)
def FarF (v : Nat → Value) (b : Nat) (X : Nat → Prop) (g : Nat) : Prop := g ≠ b ∧ ¬ X g ∧ ∀ i, 1 ≤ i → i ≤ 8 → (v i).ownBlock ≠ some g
/-- The book: so many lists of each kind at most. -/
def Bk (w : World) (b : Nat) (vl : Value) (k : Nat) (X : Nat → Prop) : Prop := ∃ (v : Nat → Value) (nx : Int) (n : Nat → Nat), Wb w b vl (v 1) (v 2) (v 3) (v 4) (v 5) (v 6) (v 7) (v 8) nx ∧ (∀ p, p < 4 → n p ≤ k ∧ KeptF (tS p) (tE p) (tM p) (tk p) (tok p) (FarF v b X) w (v (2 * p + 1)) (v (2 * p + 2)) (n p)) ∧ RowsF v b X w
def upd (v : Nat → Value) (p : Nat) (a c : Value) (i : Nat) : Value := if i = 2 * p + 1 then a else if i = 2 * p + 2 then c else v i
theorem bk_lies {v : Nat → Value} {b : Nat} {X : Nat → Prop} {w : World} (hR : RowsF v b X w) {p : Nat} (hp : p < 4) {l : Value} (hl : ∀ g, l.ownBlock = some g → b < g ∧ X g) : Lies b l (v (2 * p + 1)) (v (2 * p + 2)) := by
  refine ⟨fun e => ?_, fun e => ?_, fun e => ?_, fun g e e' => ?_, fun g e e' => ?_, hR.2 _ _ (by omega) (by omega) (by omega) (by omega) (by omega)⟩
  · have := (hl b e).1; omega
  · have := (hR.1 _ (by omega) (by omega) b e).1; omega
  · have := (hR.1 _ (by omega) (by omega) b e).1; omega
  · exact (hR.1 _ (by omega) (by omega) g e').2.1 (hl g e).2
  · exact (hR.1 _ (by omega) (by omega) g e').2.1 (hl g e).2
theorem bk_grow {w w' : World} {b k : Nat} {vl l vS' vM' m0 : Value} {X X' : Nat → Prop} {v : Nat → Value} {n : Nat → Nat} {ny : Int} {p : Nat} (hp : p < 4) {L M : List Value} (hbw : b < w.heap.size)
    (hK : ∀ p, p < 4 → n p ≤ k ∧ KeptF (tS p) (tE p) (tM p) (tk p) (tok p) (FarF v b X) w (v (2 * p + 1)) (v (2 * p + 2)) (n p)) (hR : RowsF v b X w)
    (hall : ∀ (i : Nat) (u m : Value), L[i]? = some u → M[i]? = some m → tok p m ∧ Marked (tE p) (tk p m) w u ∧ ∀ g, atBlock u = some g → FarF v b X g) (hL : L.length = n p) (hM : M.length = n p)
    (hl : ∀ g, l.ownBlock = some g → b < g ∧ X g) (hX : ∀ g, X' g → X g ∧ l.ownBlock ≠ some g ∧ g < w.heap.size)
    (hr : OwnR w b (tS p) (tE p) (tM p) (tk p m0) m0 l (v (2 * p + 1)) (v (2 * p + 2)) (n p) L M vS' vM' w') (hok : tok p m0)
    (hW : Wb w' b vl (upd v p vS' vM' 1) (upd v p vS' vM' 2) (upd v p vS' vM' 3) (upd v p vS' vM' 4) (upd v p vS' vM' 5) (upd v p vS' vM' 6) (upd v p vS' vM' 7) (upd v p vS' vM' 8) ny) : Bk w' b vl (k + 4) X' := by
  have hr0 := hr
  obtain ⟨g1, g2, g3, rS, rM, hu4, hS, hMb, -, -, -, hsz, hfr⟩ := hr
  have nS : ∀ g, vS'.ownBlock = some g → ((v (2 * p + 1)).ownBlock = some g ∨ w.heap.size ≤ g) := fun g hg => (hS g hg).1
  have nM : ∀ g, vM'.ownBlock = some g → ((v (2 * p + 2)).ownBlock = some g ∨ w.heap.size ≤ g) := fun g hg => (hMb g hg).1
  -- what a row of the new book lies at: where it lay, or beyond
  have hnew : ∀ i, 1 ≤ i → i ≤ 8 → ∀ g, (upd v p vS' vM' i).ownBlock = some g → (v i).ownBlock = some g ∨ w.heap.size ≤ g := by
    intro i _ _ g hg
    unfold upd at hg
    split at hg
    · next e => subst e; exact nS g hg
    · split at hg
      · next e => subst e; exact nM g hg
      · exact .inl hg
  have hfar : ∀ g, g < w.heap.size → FarF v b X g → FarF (upd v p vS' vM') b X' g := by
    intro g hg ⟨f1, f2, f3⟩
    refine ⟨f1, fun hx => f2 (hX g hx).1, fun i h1 h8 e => ?_⟩
    rcases hnew i h1 h8 g e with q | q
    · exact f3 i h1 h8 q
    · omega
  have hRn : RowsF (upd v p vS' vM') b X' w' := by
    constructor
    · intro i h1 h8 g hg
      have hlt : g < w'.heap.size := by
        unfold upd at hg
        split at hg
        · exact (World.ownsRow.lt rS g hg).2
        · split at hg
          · exact (World.ownsRow.lt rM g hg).2
          · have := (hR.1 i h1 h8 g hg).2.2; omega
      rcases hnew i h1 h8 g hg with q | q
      · obtain ⟨c1, c2, c3⟩ := hR.1 i h1 h8 g q
        exact ⟨c1, fun hx => c2 (hX g hx).1, hlt⟩
      · exact ⟨by omega, fun hx => by have := (hX g hx).2.2; omega, hlt⟩
    · intro i j i1 i8 j1 j8 hij g hi hj
      rcases hnew i i1 i8 g hi with qi | qi
      · rcases hnew j j1 j8 g hj with qj | qj
        · exact hR.2 i j i1 i8 j1 j8 hij g qi qj
        · have := (hR.1 i i1 i8 g qi).2.2; omega
      · rcases hnew j j1 j8 g hj with qj | qj
        · have := (hR.1 j j1 j8 g qj).2.2; omega
        · have old : ∀ i, 1 ≤ i → i ≤ 8 → i ≠ 2 * p + 1 → i ≠ 2 * p + 2 → (upd v p vS' vM' i).ownBlock = some g → False := by
            intro i h1 h8 e1 e2 hg
            unfold upd at hg
            rw [if_neg e1, if_neg e2] at hg
            have := (hR.1 i h1 h8 g hg).2.2
            omega
          by_cases ei : i = 2 * p + 1
          · subst ei
            by_cases ej : j = 2 * p + 2
            · subst ej
              simp [upd] at hi hj
              exact (hS g hi).2.2 hj
            · exact old j j1 j8 (by omega) ej hj
          · by_cases ei2 : i = 2 * p + 2
            · subst ei2
              by_cases ej : j = 2 * p + 1
              · subst ej
                simp [upd] at hi hj
                exact (hS g hj).2.2 hi
              · exact old j j1 j8 ej (by omega) hj
            · exact old i i1 i8 ei ei2 hi
  refine ⟨upd v p vS' vM', ny, fun q => if q = p then n p + 4 else n q, hW, fun q hq => ?_, hRn⟩
  show (if q = p then n p + 4 else n q) ≤ k + 4 ∧ KeptF (tS q) (tE q) (tM q) (tk q) (tok q) (FarF (upd v p vS' vM') b X') w' (upd v p vS' vM' (2 * q + 1)) (upd v p vS' vM' (2 * q + 2)) (if q = p then n p + 4 else n q)
  by_cases hqp : q = p
  · subst hqp
    refine ⟨by rw [if_pos rfl]; have := (hK q hq).1; omega, ?_⟩
    have e1 : upd v q vS' vM' (2 * q + 1) = vS' := by simp [upd]
    have e2 : upd v q vS' vM' (2 * q + 2) = vM' := by simp [upd]
    rw [if_pos rfl, e1, e2]
    refine kept_grow hall hL hM hr0 hok (fun g hg hf => ⟨hf.1, fun e => hf.2.1 (hl g e).2, hf.2.2 _ (by omega) (by omega), hf.2.2 _ (by omega) (by omega), hfar g hg hf⟩) (fun g hg f1 f2 f3 => ?_)
    refine ⟨f1, fun hx => ?_, fun i h1 h8 e => ?_⟩
    · rcases hg with hg | hg
      · exact (hX g hx).2.1 hg
      · have := (hX g hx).2.2; omega
    · by_cases ei : i = 2 * q + 1
      · subst ei; rw [e1] at e; exact f2 e
      · by_cases ei2 : i = 2 * q + 2
        · subst ei2; rw [e2] at e; exact f3 e
        · unfold upd at e
          rw [if_neg ei, if_neg ei2] at e
          obtain ⟨c1, c2, c3⟩ := hR.1 i h1 h8 g e
          rcases hg with hg | hg
          · exact c2 (hl g hg).2
          · omega
  · rw [if_neg hqp]
    refine ⟨by have := (hK q hq).1; omega, ?_⟩
    have e1 : upd v p vS' vM' (2 * q + 1) = v (2 * q + 1) := by unfold upd; rw [if_neg (by omega), if_neg (by omega)]
    have e2 : upd v p vS' vM' (2 * q + 2) = v (2 * q + 2) := by unfold upd; rw [if_neg (by omega), if_neg (by omega)]
    rw [e1, e2]
    refine (hK q hq).2.stay (fun g hg h => ?_) hfar
    refine hfr g hg ?_ ?_ ?_ ?_
    · rintro rfl
      rcases h with h | h | h
      · have := (hR.1 _ (by omega) (by omega) g h).1; omega
      · have := (hR.1 _ (by omega) (by omega) g h).1; omega
      · exact h.1 rfl
    · intro e
      rcases h with h | h | h
      · exact (hR.1 _ (by omega) (by omega) g h).2.1 (hl g e).2
      · exact (hR.1 _ (by omega) (by omega) g h).2.1 (hl g e).2
      · exact h.2.1 (hl g e).2
    · intro e
      rcases h with h | h | h
      · exact hR.2 _ _ (by omega) (by omega) (by omega) (by omega) (by omega) g h e
      · exact hR.2 _ _ (by omega) (by omega) (by omega) (by omega) (by omega) g h e
      · exact h.2.2 _ (by omega) (by omega) e
    · intro e
      rcases h with h | h | h
      · exact hR.2 _ _ (by omega) (by omega) (by omega) (by omega) (by omega) g h e
      · exact hR.2 _ _ (by omega) (by omega) (by omega) (by omega) (by omega) g h e
      · exact h.2.2 _ (by omega) (by omega) e
end Go.Proofs.YtolgpnaoaodepaaGreat
/- own.. and looks, by the book's invariant. -/
namespace Go.Proofs.YtolgpnaoaodepaaGreat
open Go.RowKit

theorem bk_frame {w w' : World} {b : Nat} {l vS' vM' m0 : Value} {X X' : Nat → Prop} {v : Nat → Value} {p k : Nat} {eS eE eM : TypeId} {mc : List Value} (hp : p < 4) {L M : List Value} (hbw : b < w.heap.size) (hR : RowsF v b X w)
    (hl : ∀ g, l.ownBlock = some g → b < g ∧ X g) (hX : ∀ g, X' g → X g ∧ l.ownBlock ≠ some g ∧ g < w.heap.size) (hXb : ∀ g, X g → b < g) (hr : OwnR w b eS eE eM mc m0 l (v (2 * p + 1)) (v (2 * p + 2)) k L M vS' vM' w') : Below b w w' ∧ ∀ g, X' g → w'.heap[g]? = w.heap[g]? := by
  obtain ⟨g1, g2, g3, rS, rM, hu4, hS, hMb, e1, e2, e3, hsz, hfr⟩ := hr
  constructor
  · refine ⟨e1, e2, e3, hsz, fun i hi => hfr i (by omega) (by omega) (fun e => ?_) (fun e => ?_) (fun e => ?_)⟩
    · have := (hl i e).1; omega
    · have := (hR.1 _ (by omega) (by omega) i e).1; omega
    · have := (hR.1 _ (by omega) (by omega) i e).1; omega
  · intro g hg
    obtain ⟨x1, x2, x3⟩ := hX g hg
    have := hXb g x1
    exact hfr g x3 (by omega) x2 (fun e => (hR.1 _ (by omega) (by omega) g e).2.1 x1) (fun e => (hR.1 _ (by omega) (by omega) g e).2.1 x1)
theorem ownTexts_bk (b : Nat) (vl : Value) (k : Nat) (X X' : Nat → Prop) (l : Value) (n : Nat) (cs : List Value) (w : World) (h : Bk w b vl k X) (hrow : w.ownsRow 0 9 1 l n cs) (hn : n ≤ 100000) (hk : k ≤ 100000000) (hl : ∀ g, l.ownBlock = some g → b < g ∧ X g) (hX : ∀ g, X' g → X g ∧ l.ownBlock ≠ some g ∧ g < w.heap.size) (hXb : ∀ g, X g → b < g) :
    Calls Tryz.prog 103 #[.pointer (some ⟨b, 1, none⟩), l] w fun r w' => r = .returned (.tuple #[]) ∧ Bk w' b vl (k + 4) X' ∧ Below b w w' ∧ ∀ g, X' g → w'.heap[g]? = w.heap[g]? := by
  obtain ⟨v, nx, m, hW, hK, hR⟩ := h
  obtain ⟨hm, L, M, r1, r2, hall⟩ := hK 2 (by decide)
  refine (ownTexts_any b vl (v 1) (v 2) (v 3) (v 4) (v 5) (v 6) (v 7) (v 8) nx l n (m 2) cs L M w hW hrow r1 r2 hn (by omega) (bk_lies (p := 2) hR (by decide) hl)).mono ?_
  rintro r w' ⟨s, ny, a, c, rfl, hw, ho⟩
  exact ⟨rfl, bk_grow (p := 2) (by decide) hW.lt hK hR hall (by simpa using r1.1) (by simpa using r2.1) hl hX ho ⟨s, rfl⟩ hw, bk_frame (p := 2) (by decide) hW.lt hR hl hX hXb ho⟩
theorem ownNumbers_bk (b : Nat) (vl : Value) (k : Nat) (X X' : Nat → Prop) (l : Value) (n : Nat) (cs : List Value) (w : World) (h : Bk w b vl k X) (hrow : w.ownsRow 0 3 1 l n cs) (hn : n ≤ 100000) (hk : k ≤ 100000000) (hl : ∀ g, l.ownBlock = some g → b < g ∧ X g) (hX : ∀ g, X' g → X g ∧ l.ownBlock ≠ some g ∧ g < w.heap.size) (hXb : ∀ g, X g → b < g) :
    Calls Tryz.prog 102 #[.pointer (some ⟨b, 1, none⟩), l] w fun r w' => r = .returned (.tuple #[]) ∧ Bk w' b vl (k + 4) X' ∧ Below b w w' ∧ ∀ g, X' g → w'.heap[g]? = w.heap[g]? := by
  obtain ⟨v, nx, m, hW, hK, hR⟩ := h
  obtain ⟨hm, L, M, r1, r2, hall⟩ := hK 3 (by decide)
  refine (ownNumbers_any b vl (v 1) (v 2) (v 3) (v 4) (v 5) (v 6) (v 7) (v 8) nx l n (m 3) cs L M w hW hrow r1 r2 hn (by omega) (bk_lies (p := 3) hR (by decide) hl)).mono ?_
  rintro r w' ⟨s, ny, a, c, rfl, hw, ho⟩
  exact ⟨rfl, bk_grow (p := 3) (by decide) hW.lt hK hR hall (by simpa using r1.1) (by simpa using r2.1) hl hX ho ⟨s, rfl⟩ hw, bk_frame (p := 3) (by decide) hW.lt hR hl hX hXb ho⟩
theorem ownItems_bk (b : Nat) (vl : Value) (k : Nat) (X X' : Nat → Prop) (l : Value) (n : Nat) (cs : List Value) (w : World) (h : Bk w b vl k X) (hrow : w.ownsRow 0 51 2 l n cs) (hn : n ≤ 100000) (hk : k ≤ 100000000) (hl : ∀ g, l.ownBlock = some g → b < g ∧ X g) (hX : ∀ g, X' g → X g ∧ l.ownBlock ≠ some g ∧ g < w.heap.size) (hXb : ∀ g, X g → b < g) :
    Calls Tryz.prog 57 #[.pointer (some ⟨b, 1, none⟩), l] w fun r w' => r = .returned (.tuple #[]) ∧ Bk w' b vl (k + 4) X' ∧ Below b w w' ∧ ∀ g, X' g → w'.heap[g]? = w.heap[g]? := by
  obtain ⟨v, nx, m, hW, hK, hR⟩ := h
  obtain ⟨hm, L, M, r1, r2, hall⟩ := hK 0 (by decide)
  refine (ownItems_any b vl (v 1) (v 2) (v 3) (v 4) (v 5) (v 6) (v 7) (v 8) nx l n (m 0) cs L M w hW hrow r1 r2 hn (by omega) (bk_lies (p := 0) hR (by decide) hl)).mono ?_
  rintro r w' ⟨s, ny, a, c, rfl, hw, ho⟩
  exact ⟨rfl, bk_grow (p := 0) (by decide) hW.lt hK hR hall (by simpa using r1.1) (by simpa using r2.1) hl hX ho ⟨s, rfl⟩ hw, bk_frame (p := 0) (by decide) hW.lt hR hl hX hXb ho⟩
theorem ownChanges_bk (b : Nat) (vl : Value) (k : Nat) (X X' : Nat → Prop) (l : Value) (n : Nat) (cs : List Value) (w : World) (h : Bk w b vl k X) (hrow : w.ownsRow 0 34 3 l n cs) (hn : n ≤ 100000) (hk : k ≤ 100000000) (hl : ∀ g, l.ownBlock = some g → b < g ∧ X g) (hX : ∀ g, X' g → X g ∧ l.ownBlock ≠ some g ∧ g < w.heap.size) (hXb : ∀ g, X g → b < g) :
    Calls Tryz.prog 104 #[.pointer (some ⟨b, 1, none⟩), l] w fun r w' => r = .returned (.tuple #[]) ∧ Bk w' b vl (k + 4) X' ∧ Below b w w' ∧ ∀ g, X' g → w'.heap[g]? = w.heap[g]? := by
  obtain ⟨v, nx, m, hW, hK, hR⟩ := h
  obtain ⟨hm, L, M, r1, r2, hall⟩ := hK 1 (by decide)
  refine (ownChanges_any b vl (v 1) (v 2) (v 3) (v 4) (v 5) (v 6) (v 7) (v 8) nx l n (m 1) cs L M w hW hrow r1 r2 hn (by omega) (bk_lies (p := 1) hR (by decide) hl)).mono ?_
  rintro r w' ⟨s, ny, a, c, rfl, hw, ho⟩
  exact ⟨rfl, bk_grow (p := 1) (by decide) hW.lt hK hR hall (by simpa using r1.1) (by simpa using r2.1) hl hX ho ⟨s, rfl⟩ hw, bk_frame (p := 1) (by decide) hW.lt hR hl hX hXb ho⟩
theorem looks_bk (b : Nat) (vl : Value) (k : Nat) (X : Nat → Prop) (w : World) (h : Bk w b vl k X) (hk : k ≤ 1000000000) :
    Calls Tryz.prog 30 #[.pointer (some ⟨b, 1, none⟩)] w fun r w' => r = .returned (.bool true) ∧ Below w.heap.size w w' := by
  obtain ⟨v, nx, m, hW, hK, hR⟩ := h
  have q0 := hK 0 (by decide)
  have q1 := hK 1 (by decide)
  have q2 := hK 2 (by decide)
  have q3 := hK 3 (by decide)
  exact looks_any b vl (v 1) (v 2) (v 3) (v 4) (v 5) (v 6) (v 7) (v 8) nx (m 0) (m 1) (m 2) (m 3) w hW q0.2.kept q1.2.kept q2.2.kept q3.2.kept (by omega) (by omega) (by omega) (by omega)
/-- What happens beyond the heap's end leaves the book alone; what is still to be owned may be chosen anew there. -/
theorem Bk.below {w w' : World} {b : Nat} {vl : Value} {k : Nat} {X X' : Nat → Prop} (h : Bk w b vl k X) (hb : Below w.heap.size w w') (hX : ∀ g, X' g → w.heap.size ≤ g) : Bk w' b vl k X' := by
  obtain ⟨v, nx, m, hW, hK, hR⟩ := h
  have hs := hb.size
  refine ⟨v, nx, m, hW.below hb hW.lt, fun p hp => ⟨(hK p hp).1, (hK p hp).2.stay (fun g hg _ => hb.block g hg) (fun g hg hf => ⟨hf.1, fun hx => by have := hX g hx; omega, hf.2.2⟩)⟩, fun i h1 h8 g hg => ?_, hR.2⟩
  obtain ⟨c1, c2, c3⟩ := hR.1 i h1 h8 g hg
  exact ⟨c1, fun hx => by have := hX g hx; omega, by omega⟩
end Go.Proofs.YtolgpnaoaodepaaGreat
