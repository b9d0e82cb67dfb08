/- The book's invariant, and what an own.. makes of it. -/
import Derived.Test.YtolgpnaoaodepaaGreatLawJm
import Derived.Test.YtolgpnaoaodepaaGreatGenm
import Derived.Lib.Bytealg
import Derived.Lib.MinMax
namespace Go.Proofs.YtolgpnaoaodepaaGreat
open Go.RowKit

/-- The four kinds of lists: items, changes, texts, numbers. -/
def tS : Nat → TypeId | 0 => 30 | 1 => 77 | 2 => 40 | _ => 25
def tE : Nat → TypeId | 0 => 51 | 1 => 34 | 2 => 9 | _ => 3
def tM : Nat → TypeId | 0 => 9 | 1 => 9 | 2 => 9 | _ => 3
def tk : Nat → Value → List Value | 0 => mkI | 1 => mkC | _ => mkT
def tok : Nat → Value → Prop | 0 => isStr | 1 => isStr | 2 => isStr | _ => isInt
/-- The eight rows: apart from World's block, from each other, and from what is still to be owned (X). -/
def RowsF (v : Nat → Value) (b : Nat) (X : Nat → Prop) (w : World) : Prop := (∀ i, 1 ≤ i → i ≤ 8 → ∀ g, (v i).ownBlock = some g → b < g ∧ ¬ X g ∧ g < w.heap.size) ∧ ∀ i j, 1 ≤ i → i ≤ 8 → 1 ≤ j → j ≤ 8 → i ≠ j → Apart (v i) (v j)
def FarF (v : Nat → Value) (b : Nat) (X : Nat → Prop) (g : Nat) : Prop := g ≠ b ∧ ¬ X g ∧ ∀ i, 1 ≤ i → i ≤ 8 → (v i).ownBlock ≠ some g
/-- The book: so many lists of each kind at most. -/
def Bk (w : World) (b : Nat) (vl : Value) (k : Nat) (X : Nat → Prop) : Prop := ∃ (v : Nat → Value) (nx : Int) (n : Nat → Nat), Wb w b vl (v 1) (v 2) (v 3) (v 4) (v 5) (v 6) (v 7) (v 8) nx ∧ (∀ p, p < 4 → n p ≤ k ∧ KeptF (tS p) (tE p) (tM p) (tk p) (tok p) (FarF v b X) w (v (2 * p + 1)) (v (2 * p + 2)) (n p)) ∧ RowsF v b X w
def upd (v : Nat → Value) (p : Nat) (a c : Value) (i : Nat) : Value := if i = 2 * p + 1 then a else if i = 2 * p + 2 then c else v i
theorem bk_lies {v : Nat → Value} {b : Nat} {X : Nat → Prop} {w : World} (hR : RowsF v b X w) {p : Nat} (hp : p < 4) {l : Value} (hl : ∀ g, l.ownBlock = some g → b < g ∧ X g) : Lies b l (v (2 * p + 1)) (v (2 * p + 2)) := by
  refine ⟨fun e => ?_, fun e => ?_, fun e => ?_, fun g e e' => ?_, fun g e e' => ?_, hR.2 _ _ (by omega) (by omega) (by omega) (by omega) (by omega)⟩
  · have := (hl b e).1; omega
  · have := (hR.1 _ (by omega) (by omega) b e).1; omega
  · have := (hR.1 _ (by omega) (by omega) b e).1; omega
  · exact (hR.1 _ (by omega) (by omega) g e').2.1 (hl g e).2
  · exact (hR.1 _ (by omega) (by omega) g e').2.1 (hl g e).2
theorem bk_grow {w w' : World} {b k : Nat} {vl l vS' vM' m0 : Value} {X X' : Nat → Prop} {v : Nat → Value} {n : Nat → Nat} {ny : Int} {p : Nat} (hp : p < 4) {L M : List Value} (hbw : b < w.heap.size)
    (hK : ∀ p, p < 4 → n p ≤ k ∧ KeptF (tS p) (tE p) (tM p) (tk p) (tok p) (FarF v b X) w (v (2 * p + 1)) (v (2 * p + 2)) (n p)) (hR : RowsF v b X w)
    (hall : ∀ (i : Nat) (u m : Value), L[i]? = some u → M[i]? = some m → tok p m ∧ Marked (tE p) (tk p m) w u ∧ ∀ g, atBlock u = some g → FarF v b X g) (hL : L.length = n p) (hM : M.length = n p)
    (hl : ∀ g, l.ownBlock = some g → b < g ∧ X g) (hX : ∀ g, X' g → X g ∧ l.ownBlock ≠ some g ∧ g < w.heap.size)
    (hr : OwnR w b (tS p) (tE p) (tM p) (tk p m0) m0 l (v (2 * p + 1)) (v (2 * p + 2)) (n p) L M vS' vM' w') (hok : tok p m0)
    (hW : Wb w' b vl (upd v p vS' vM' 1) (upd v p vS' vM' 2) (upd v p vS' vM' 3) (upd v p vS' vM' 4) (upd v p vS' vM' 5) (upd v p vS' vM' 6) (upd v p vS' vM' 7) (upd v p vS' vM' 8) ny) : Bk w' b vl (k + 4) X' := by
  have hr0 := hr
  obtain ⟨g1, g2, g3, rS, rM, hu4, hS, hMb, -, -, -, hsz, hfr⟩ := hr
  have nS : ∀ g, vS'.ownBlock = some g → ((v (2 * p + 1)).ownBlock = some g ∨ w.heap.size ≤ g) := fun g hg => (hS g hg).1
  have nM : ∀ g, vM'.ownBlock = some g → ((v (2 * p + 2)).ownBlock = some g ∨ w.heap.size ≤ g) := fun g hg => (hMb g hg).1
  -- what a row of the new book lies at: where it lay, or beyond
  have hnew : ∀ i, 1 ≤ i → i ≤ 8 → ∀ g, (upd v p vS' vM' i).ownBlock = some g → (v i).ownBlock = some g ∨ w.heap.size ≤ g := by
    intro i _ _ g hg
    unfold upd at hg
    split at hg
    · next e => subst e; exact nS g hg
    · split at hg
      · next e => subst e; exact nM g hg
      · exact .inl hg
  have hfar : ∀ g, g < w.heap.size → FarF v b X g → FarF (upd v p vS' vM') b X' g := by
    intro g hg ⟨f1, f2, f3⟩
    refine ⟨f1, fun hx => f2 (hX g hx).1, fun i h1 h8 e => ?_⟩
    rcases hnew i h1 h8 g e with q | q
    · exact f3 i h1 h8 q
    · omega
  have hRn : RowsF (upd v p vS' vM') b X' w' := by
    constructor
    · intro i h1 h8 g hg
      have hlt : g < w'.heap.size := by
        unfold upd at hg
        split at hg
        · exact (World.ownsRow.lt rS g hg).2
        · split at hg
          · exact (World.ownsRow.lt rM g hg).2
          · have := (hR.1 i h1 h8 g hg).2.2; omega
      rcases hnew i h1 h8 g hg with q | q
      · obtain ⟨c1, c2, c3⟩ := hR.1 i h1 h8 g q
        exact ⟨c1, fun hx => c2 (hX g hx).1, hlt⟩
      · exact ⟨by omega, fun hx => by have := (hX g hx).2.2; omega, hlt⟩
    · intro i j i1 i8 j1 j8 hij g hi hj
      rcases hnew i i1 i8 g hi with qi | qi
      · rcases hnew j j1 j8 g hj with qj | qj
        · exact hR.2 i j i1 i8 j1 j8 hij g qi qj
        · have := (hR.1 i i1 i8 g qi).2.2; omega
      · rcases hnew j j1 j8 g hj with qj | qj
        · have := (hR.1 j j1 j8 g qj).2.2; omega
        · have old : ∀ i, 1 ≤ i → i ≤ 8 → i ≠ 2 * p + 1 → i ≠ 2 * p + 2 → (upd v p vS' vM' i).ownBlock = some g → False := by
            intro i h1 h8 e1 e2 hg
            unfold upd at hg
            rw [if_neg e1, if_neg e2] at hg
            have := (hR.1 i h1 h8 g hg).2.2
            omega
          by_cases ei : i = 2 * p + 1
          · subst ei
            by_cases ej : j = 2 * p + 2
            · subst ej
              simp [upd] at hi hj
              exact (hS g hi).2.2 hj
            · exact old j j1 j8 (by omega) ej hj
          · by_cases ei2 : i = 2 * p + 2
            · subst ei2
              by_cases ej : j = 2 * p + 1
              · subst ej
                simp [upd] at hi hj
                exact (hS g hj).2.2 hi
              · exact old j j1 j8 ej (by omega) hj
            · exact old i i1 i8 ei ei2 hi
  refine ⟨upd v p vS' vM', ny, fun q => if q = p then n p + 4 else n q, hW, fun q hq => ?_, hRn⟩
  show (if q = p then n p + 4 else n q) ≤ k + 4 ∧ KeptF (tS q) (tE q) (tM q) (tk q) (tok q) (FarF (upd v p vS' vM') b X') w' (upd v p vS' vM' (2 * q + 1)) (upd v p vS' vM' (2 * q + 2)) (if q = p then n p + 4 else n q)
  by_cases hqp : q = p
  · subst hqp
    refine ⟨by rw [if_pos rfl]; have := (hK q hq).1; omega, ?_⟩
    have e1 : upd v q vS' vM' (2 * q + 1) = vS' := by simp [upd]
    have e2 : upd v q vS' vM' (2 * q + 2) = vM' := by simp [upd]
    rw [if_pos rfl, e1, e2]
    refine kept_grow hall hL hM hr0 hok (fun g hg hf => ⟨hf.1, fun e => hf.2.1 (hl g e).2, hf.2.2 _ (by omega) (by omega), hf.2.2 _ (by omega) (by omega), hfar g hg hf⟩) (fun g hg f1 f2 f3 => ?_)
    refine ⟨f1, fun hx => ?_, fun i h1 h8 e => ?_⟩
    · rcases hg with hg | hg
      · exact (hX g hx).2.1 hg
      · have := (hX g hx).2.2; omega
    · by_cases ei : i = 2 * q + 1
      · subst ei; rw [e1] at e; exact f2 e
      · by_cases ei2 : i = 2 * q + 2
        · subst ei2; rw [e2] at e; exact f3 e
        · unfold upd at e
          rw [if_neg ei, if_neg ei2] at e
          obtain ⟨c1, c2, c3⟩ := hR.1 i h1 h8 g e
          rcases hg with hg | hg
          · exact c2 (hl g hg).2
          · omega
  · rw [if_neg hqp]
    refine ⟨by have := (hK q hq).1; omega, ?_⟩
    have e1 : upd v p vS' vM' (2 * q + 1) = v (2 * q + 1) := by unfold upd; rw [if_neg (by omega), if_neg (by omega)]
    have e2 : upd v p vS' vM' (2 * q + 2) = v (2 * q + 2) := by unfold upd; rw [if_neg (by omega), if_neg (by omega)]
    rw [e1, e2]
    refine (hK q hq).2.stay (fun g hg h => ?_) hfar
    refine hfr g hg ?_ ?_ ?_ ?_
    · rintro rfl
      rcases h with h | h | h
      · have := (hR.1 _ (by omega) (by omega) g h).1; omega
      · have := (hR.1 _ (by omega) (by omega) g h).1; omega
      · exact h.1 rfl
    · intro e
      rcases h with h | h | h
      · exact (hR.1 _ (by omega) (by omega) g h).2.1 (hl g e).2
      · exact (hR.1 _ (by omega) (by omega) g h).2.1 (hl g e).2
      · exact h.2.1 (hl g e).2
    · intro e
      rcases h with h | h | h
      · exact hR.2 _ _ (by omega) (by omega) (by omega) (by omega) (by omega) g h e
      · exact hR.2 _ _ (by omega) (by omega) (by omega) (by omega) (by omega) g h e
      · exact h.2.2 _ (by omega) (by omega) e
    · intro e
      rcases h with h | h | h
      · exact hR.2 _ _ (by omega) (by omega) (by omega) (by omega) (by omega) g h e
      · exact hR.2 _ _ (by omega) (by omega) (by omega) (by omega) (by omega) g h e
      · exact h.2.2 _ (by omega) (by omega) e
end Go.Proofs.YtolgpnaoaodepaaGreat
/- own.. and looks, by the book's invariant. -/
namespace Go.Proofs.YtolgpnaoaodepaaGreat
open Go.RowKit

theorem bk_frame {w w' : World} {b : Nat} {l vS' vM' m0 : Value} {X X' : Nat → Prop} {v : Nat → Value} {p k : Nat} {eS eE eM : TypeId} {mc : List Value} (hp : p < 4) {L M : List Value} (hbw : b < w.heap.size) (hR : RowsF v b X w)
    (hl : ∀ g, l.ownBlock = some g → b < g ∧ X g) (hX : ∀ g, X' g → X g ∧ l.ownBlock ≠ some g ∧ g < w.heap.size) (hXb : ∀ g, X g → b < g) (hr : OwnR w b eS eE eM mc m0 l (v (2 * p + 1)) (v (2 * p + 2)) k L M vS' vM' w') : Below b w w' ∧ ∀ g, X' g → w'.heap[g]? = w.heap[g]? := by
  obtain ⟨g1, g2, g3, rS, rM, hu4, hS, hMb, e1, e2, e3, hsz, hfr⟩ := hr
  constructor
  · refine ⟨e1, e2, e3, hsz, fun i hi => hfr i (by omega) (by omega) (fun e => ?_) (fun e => ?_) (fun e => ?_)⟩
    · have := (hl i e).1; omega
    · have := (hR.1 _ (by omega) (by omega) i e).1; omega
    · have := (hR.1 _ (by omega) (by omega) i e).1; omega
  · intro g hg
    obtain ⟨x1, x2, x3⟩ := hX g hg
    have := hXb g x1
    exact hfr g x3 (by omega) x2 (fun e => (hR.1 _ (by omega) (by omega) g e).2.1 x1) (fun e => (hR.1 _ (by omega) (by omega) g e).2.1 x1)
theorem ownItems_bk (b : Nat) (vl : Value) (k : Nat) (X X' : Nat → Prop) (l : Value) (n : Nat) (cs : List Value) (w : World) (h : Bk w b vl k X) (hrow : w.ownsRow 0 51 2 l n cs) (hn : n ≤ 100000) (hk : k ≤ 100000000) (hl : ∀ g, l.ownBlock = some g → b < g ∧ X g) (hX : ∀ g, X' g → X g ∧ l.ownBlock ≠ some g ∧ g < w.heap.size) (hXb : ∀ g, X g → b < g) :
    Calls Tryz.prog 57 #[.pointer (some ⟨b, 1, none⟩), l] w fun r w' => r = .returned (.tuple #[]) ∧ Bk w' b vl (k + 4) X' ∧ Below b w w' ∧ ∀ g, X' g → w'.heap[g]? = w.heap[g]? := by
  obtain ⟨v, nx, m, hW, hK, hR⟩ := h
  obtain ⟨hm, L, M, r1, r2, hall⟩ := hK 0 (by decide)
  refine (ownItems_any b vl (v 1) (v 2) (v 3) (v 4) (v 5) (v 6) (v 7) (v 8) nx l n (m 0) cs L M w hW hrow r1 r2 hn (by omega) (bk_lies (p := 0) hR (by decide) hl)).mono ?_
  rintro r w' ⟨s, ny, a, c, rfl, hw, ho⟩
  exact ⟨rfl, bk_grow (p := 0) (by decide) hW.lt hK hR hall (by simpa using r1.1) (by simpa using r2.1) hl hX ho ⟨s, rfl⟩ hw, bk_frame (p := 0) (by decide) hW.lt hR hl hX hXb ho⟩
theorem looks_bk (b : Nat) (vl : Value) (k : Nat) (X : Nat → Prop) (w : World) (h : Bk w b vl k X) (hk : k ≤ 1000000000) :
    Calls Tryz.prog 30 #[.pointer (some ⟨b, 1, none⟩)] w fun r w' => r = .returned (.bool true) ∧ Below w.heap.size w w' := by
  obtain ⟨v, nx, m, hW, hK, hR⟩ := h
  have q0 := hK 0 (by decide)
  have q1 := hK 1 (by decide)
  have q2 := hK 2 (by decide)
  have q3 := hK 3 (by decide)
  exact looks_any b vl (v 1) (v 2) (v 3) (v 4) (v 5) (v 6) (v 7) (v 8) nx (m 0) (m 1) (m 2) (m 3) w hW q0.2.kept q1.2.kept q2.2.kept q3.2.kept (by omega) (by omega) (by omega) (by omega)
/-- What happens beyond the heap's end leaves the book alone; what is still to be owned may be chosen anew there. -/
theorem Bk.below {w w' : World} {b : Nat} {vl : Value} {k : Nat} {X X' : Nat → Prop} (h : Bk w b vl k X) (hb : Below w.heap.size w w') (hX : ∀ g, X' g → w.heap.size ≤ g) : Bk w' b vl k X' := by
  obtain ⟨v, nx, m, hW, hK, hR⟩ := h
  have hs := hb.size
  refine ⟨v, nx, m, hW.below hb hW.lt, fun p hp => ⟨(hK p hp).1, (hK p hp).2.stay (fun g hg _ => hb.block g hg) (fun g hg hf => ⟨hf.1, fun hx => by have := hX g hx; omega, hf.2.2⟩)⟩, fun i h1 h8 g hg => ?_, hR.2⟩
  obtain ⟨c1, c2, c3⟩ := hR.1 i h1 h8 g hg
  exact ⟨c1, fun hx => by have := hX g hx; omega, by omega⟩
theorem Bk.mono {w : World} {b : Nat} {vl : Value} {k k' : Nat} {X : Nat → Prop} (h : Bk w b vl k X) (hk : k ≤ k') : Bk w b vl k' X := by
  obtain ⟨v, nx, m, hW, hK, hR⟩ := h
  exact ⟨v, nx, m, hW, fun p hp => ⟨Nat.le_trans (hK p hp).1 hk, (hK p hp).2⟩, hR⟩
/-- Likewise, and what stood aside stays aside. -/
theorem Bk.below2 {w w' : World} {b : Nat} {vl : Value} {k : Nat} {X X' : Nat → Prop} (h : Bk w b vl k X) (hb : Below w.heap.size w w') (hX : ∀ g, X' g → X g ∨ w.heap.size ≤ g) : Bk w' b vl k X' := by
  obtain ⟨v, nx, m, hW, hK, hR⟩ := h
  have hs := hb.size
  refine ⟨v, nx, m, hW.below hb hW.lt, fun p hp => ⟨(hK p hp).1, (hK p hp).2.stay (fun g hg _ => hb.block g hg) (fun g hg hf => ⟨hf.1, fun hx => ?_, hf.2.2⟩)⟩, fun i h1 h8 g hg => ?_, hR.2⟩
  · rcases hX g hx with q | q
    · exact hf.2.1 q
    · omega
  · obtain ⟨c1, c2, c3⟩ := hR.1 i h1 h8 g hg
    refine ⟨c1, fun hx => ?_, by omega⟩
    rcases hX g hx with q | q
    · exact c2 q
    · omega
theorem Bk.lt {w : World} {b : Nat} {vl : Value} {k : Nat} {X : Nat → Prop} (h : Bk w b vl k X) : b < w.heap.size := by
  obtain ⟨v, nx, m, hW, -⟩ := h
  exact hW.lt
end Go.Proofs.YtolgpnaoaodepaaGreat
/- Trees: what they say of a key, and when they are well. -/
namespace Go.Proofs.YtolgpnaoaodepaaGreat.Tr

abbrev Key := List UInt8
abbrev It := List UInt8 × List UInt8
abbrev Ch := Int × List UInt8 × List UInt8
theorem tri (a b : Key) (h : ¬ a < b) (h2 : ¬ b < a) : a = b := by
  rcases List.le_total a b with q | q
  · exact Std.le_antisymm q (List.not_lt.1 h)
  · exact Std.le_antisymm (List.not_lt.1 h2) q
theorem lt_tr {a b c : Key} (h : a < b) (h2 : b < c) : a < c := List.lt_trans h h2
theorem lt_ir (a : Key) : ¬ a < a := List.lt_irrefl a
theorem le_lt {a b c : Key} (h : ¬ b < a) (h2 : b < c) : a < c := by
  by_cases q : a < b
  · exact lt_tr q h2
  · rw [tri a b q h]; exact h2
theorem lt_le {a b c : Key} (h : a < b) (h2 : ¬ c < b) : a < c := by
  by_cases q : b < c
  · exact lt_tr h q
  · rw [← tri b c q h2]; exact h
theorem le_tr {a b c : Key} (h : ¬ b < a) (h2 : ¬ c < b) : ¬ c < a := fun q => h2 (lt_le q h)

/-- A key's state, behind a change. -/
def last16 (v : Key) : Key := v.drop (v.length - 16)
theorem last16_len (v : Key) : (last16 v).length ≤ 16 := by unfold last16; simp; omega
theorem last16_short {v : Key} (h : v.length ≤ 16) : last16 v = v := by unfold last16; rw [show v.length - 16 = 0 by omega]; rfl
def after (s : Option Key) (c : Ch) : Option Key := if c.1 = 2 then none else if c.1 = 3 then some (last16 (s.getD [] ++ c.2.2)) else some c.2.2
def one (k : Key) (s : Option Key) (c : Ch) : Option Key := if c.2.1 = k then after s c else s
def afterAll (cs : List Ch) (k : Key) (s : Option Key) : Option Key := cs.foldl (one k) s
theorem afterAll_append (a b : List Ch) (k : Key) (s : Option Key) : afterAll (a ++ b) k s = afterAll b k (afterAll a k s) := List.foldl_append
theorem afterAll_cons (c : Ch) (b : List Ch) (k : Key) (s : Option Key) : afterAll (c :: b) k s = afterAll b k (one k s c) := rfl
theorem afterAll_nil (k : Key) (s : Option Key) : afterAll [] k s = s := rfl
theorem afterAll_none : ∀ (cs : List Ch) (k : Key) (s : Option Key), (∀ c ∈ cs, c.2.1 ≠ k) → afterAll cs k s = s
  | [], _, _, _ => rfl
  | c :: r, k, s, h => by
    rw [afterAll_cons, one, if_neg (h c (List.mem_cons_self ..))]
    exact afterAll_none r k s fun c hc => h c (List.mem_cons_of_mem _ hc)
theorem afterAll_filter (p : Ch → Bool) : ∀ (cs : List Ch) (k : Key) (s : Option Key), (∀ c ∈ cs, c.2.1 = k → p c = true) → afterAll (cs.filter p) k s = afterAll cs k s
  | [], _, _, _ => rfl
  | c :: r, k, s, h => by
    have ih := fun s => afterAll_filter p r k s fun c hc => h c (List.mem_cons_of_mem _ hc)
    by_cases hp : p c = true
    · rw [List.filter_cons_of_pos hp, afterAll_cons, afterAll_cons, ih]
    · rw [List.filter_cons_of_neg hp, afterAll_cons, ih]
      have : ¬ c.2.1 = k := fun e => hp (h c (List.mem_cons_self ..) e)
      rw [one, if_neg this]
/-- What a leaf says. -/
def look : List It → Key → Option Key
  | [], _ => none
  | x :: r, k => if x.1 = k then some x.2 else look r k
theorem look_append (a b : List It) (k : Key) : look (a ++ b) k = (look a k).or (look b k) := by
  induction a with
  | nil => simp [look]
  | cons x r ih => simp only [List.cons_append, look]; split <;> simp [ih]
theorem look_none {l : List It} {k : Key} (h : ∀ x ∈ l, x.1 ≠ k) : look l k = none := by
  induction l with
  | nil => rfl
  | cons x r ih => rw [look, if_neg (h x (List.mem_cons_self ..))]; exact ih fun y hy => h y (List.mem_cons_of_mem _ hy)
def Rising (l : List It) : Prop := l.Pairwise fun x y => x.1 < y.1
/-- A tree of so many levels above its leaves. -/
def TreeT : Nat → Type
  | 0 => List It
  | h + 1 => List (Key × TreeT h) × List Ch
/-- The number of the part that a key belongs to. -/
def ix : List Key → Key → Nat
  | [], _ => 0
  | [_], _ => 0
  | _ :: f :: r, k => if k < f then 0 else ix (f :: r) k + 1
def val : (h : Nat) → TreeT h → Key → Option Key
  | 0, l, k => look l k
  | h + 1, (ps, cs), k => afterAll cs k (match ps[ix (ps.map (·.1)) k]? with | some p => val h p.2 k | none => none)
def room (f : Key) (m : Option Key) : Prop := ∀ b, m = some b → f < b
def inR (lo : Key) (hi : Option Key) (k : Key) : Prop := ¬ k < lo ∧ ∀ b, hi = some b → k < b
/-- Parts, one behind the other, from a key to another. -/
def Chain {α : Type} (R : Key → Option Key → α → Prop) : Option Key → Option Key → List (Key × α) → Prop
  | lo, hi, [] => lo = hi
  | lo, hi, (f, t) :: r => lo = some f ∧ ∃ m, room f m ∧ R f m t ∧ Chain R m hi r
theorem chain_append {α : Type} {R : Key → Option Key → α → Prop} {hi : Option Key} {B : List (Key × α)} : ∀ {A : List (Key × α)} {lo : Option Key}, Chain R lo hi (A ++ B) ↔ ∃ m, Chain R lo m A ∧ Chain R m hi B
  | [], lo => ⟨fun h => ⟨lo, rfl, h⟩, fun ⟨m, h1, h2⟩ => by rw [show lo = m from h1]; exact h2⟩
  | (f, t) :: r, lo => by
    constructor
    · rintro ⟨e, m, h1, h2, h3⟩
      obtain ⟨m', h4, h5⟩ := chain_append.1 h3
      exact ⟨m', ⟨e, m, h1, h2, h4⟩, h5⟩
    · rintro ⟨m', ⟨e, m, h1, h2, h4⟩, h5⟩
      exact ⟨e, m, h1, h2, chain_append.2 ⟨m', h4, h5⟩⟩
theorem chain_imp {α : Type} {R R' : Key → Option Key → α → Prop} (hR : ∀ f m t, R f m t → R' f m t) {hi : Option Key} : ∀ {A : List (Key × α)} {lo : Option Key}, Chain R lo hi A → Chain R' lo hi A
  | [], _, h => h
  | (f, t) :: _, _, ⟨e, m, h1, h2, h3⟩ => ⟨e, m, h1, hR f m t h2, chain_imp hR h3⟩
/-- A chain's keys do not fall below where it begins. -/
theorem chain_lo {α : Type} {R : Key → Option Key → α → Prop} : ∀ {A : List (Key × α)} {lo hi : Option Key}, Chain R lo hi A → ∀ b, hi = some b → ∃ a, lo = some a ∧ ¬ b < a
  | [], lo, hi, h, b, hb => by
    have : lo = hi := h
    exact ⟨b, by rw [this, hb], lt_ir b⟩
  | (f, t) :: r, lo, hi, ⟨e, m, h1, h2, h3⟩, b, hb => by
    obtain ⟨a, ha, hab⟩ := chain_lo h3 b hb
    refine ⟨f, e, ?_⟩
    have := h1 a ha
    exact fun q => hab (lt_tr q this)
theorem chain_find {α : Type} {R : Key → Option Key → α → Prop} {k : Key} : ∀ {ps : List (Key × α)} {lo : Key} {hi : Option Key}, Chain R (some lo) hi ps → inR lo hi k → ∃ A f t B m, ps = A ++ (f, t) :: B ∧ ix (ps.map (·.1)) k = A.length ∧ R f m t ∧ room f m ∧ inR f m k ∧ Chain R (some lo) (some f) A ∧ Chain R m hi B
  | [], lo, hi, h, hk => by
    have : some lo = hi := h
    exact absurd (hk.2 lo this.symm) hk.1
  | [(f, t)], lo, hi, ⟨e, m, h1, h2, h3⟩, hk => by
    obtain rfl : lo = f := Option.some.inj e
    exact ⟨[], lo, t, [], m, rfl, rfl, h2, h1, ⟨hk.1, fun b hb => hk.2 b (by rw [← hb]; exact (show m = hi from h3).symm)⟩, rfl, h3⟩
  | (f, t) :: (f2, t2) :: r, lo, hi, ⟨e, m, h1, h2, h3⟩, hk => by
    obtain rfl : lo = f := Option.some.inj e
    have hm : m = some f2 := h3.1
    by_cases hlt : k < f2
    · refine ⟨[], lo, t, (f2, t2) :: r, m, rfl, ?_, h2, h1, ⟨hk.1, fun b hb => ?_⟩, rfl, h3⟩
      · show ix (lo :: f2 :: r.map (·.1)) k = 0
        rw [ix, if_pos hlt]
      · rw [hm] at hb; rw [← Option.some.inj hb]; exact hlt
    · rw [hm] at h3
      obtain ⟨A, f', t', B, m', e1, e2, e3, e4, e5, e6, e7⟩ := chain_find h3 ⟨hlt, hk.2⟩
      refine ⟨(lo, t) :: A, f', t', B, m', by rw [e1]; rfl, ?_, e3, e4, e5, ⟨rfl, m, h1, h2, by rw [hm]; exact e6⟩, e7⟩
      show ix (lo :: f2 :: r.map (·.1)) k = A.length + 1
      rw [ix, if_neg hlt]
      have : ix (f2 :: r.map (·.1)) k = A.length := e2
      rw [this]
theorem val_at {h : Nat} {A B : List (Key × TreeT h)} {f : Key} {t : TreeT h} {cs : List Ch} {k : Key} (hi : ix ((A ++ (f, t) :: B).map (·.1)) k = A.length) : val (h + 1) (A ++ (f, t) :: B, cs) k = afterAll cs k (val h t k) := by
  rw [val, hi]; simp
def okIt (x : It) : Prop := Pg.isKey x.1.length = true ∧ x.2.length ≤ 16
def okCh (c : Ch) : Prop := Pg.okChange c = true
/-- What a node may hold. -/
def Top : (h : Nat) → TreeT h → Prop
  | 0, l => List.length (α := It) l ≤ 16
  | _ + 1, (ps, cs) => ps.length ≤ 4 ∧ cs.length ≤ 8
def Small : (h : Nat) → TreeT h → Prop
  | 0, _ => True
  | _ + 1, (_, cs) => cs.length ≤ 8
theorem Top.small : ∀ {h : Nat} {t : TreeT h}, Top h t → Small h t
  | 0, _, _ => trivial
  | _ + 1, (_, _), h => h.2
/-- So all items are. -/
def AllIt (P : It → Prop) (l : List It) : Prop := ∀ x ∈ l, P x
/-- All is in order below, and the keys lie where they should. -/
def WF : (h : Nat) → Key → Option Key → TreeT h → Prop
  | 0, lo, hi, l => Rising l ∧ AllIt (fun x => inR lo hi x.1 ∧ okIt x) l
  | h + 1, lo, hi, (ps, cs) => Chain (fun f m t => WF h f m t ∧ Top h t) (some lo) hi ps ∧ ∀ c ∈ cs, inR lo hi c.2.1 ∧ okCh c
/-- A measure: changes sink, leaves part. -/
def wt : (h : Nat) → TreeT h → Nat
  | 0, l => 1 + (List.length (α := It) l - 16)
  | h + 1, (ps, cs) => cs.length + (ps.map fun p => wt h p.2).sum
theorem wt_pos : ∀ {h : Nat} {lo : Key} {hi : Option Key} {t : TreeT h}, room lo hi → WF h lo hi t → 1 ≤ wt h t
  | 0, _, _, l, _, _ => by rw [wt]; omega
  | h + 1, lo, hi, (ps, cs), hr, hw => by
    obtain ⟨hc, -⟩ := hw
    match ps, hc with
    | [], hc => exact absurd (hr lo (show some lo = hi from hc).symm) (lt_ir lo)
    | (f, t) :: r, ⟨_, m, h1, h2, _⟩ =>
      have := wt_pos h1 h2.1
      simp only [wt, List.map_cons, List.sum_cons]
      omega
theorem wt_parts {h : Nat} : ∀ {ps : List (Key × TreeT h)} {lo hi : Option Key}, Chain (fun f m t => WF h f m t ∧ Top h t) lo hi ps → ps.length ≤ (ps.map fun p => wt h p.2).sum
  | [], _, _, _ => by simp
  | (f, t) :: r, lo, hi, ⟨_, m, h1, h2, h3⟩ => by
    have := wt_pos h1 h2.1
    have := wt_parts h3
    simp only [List.map_cons, List.sum_cons, List.length_cons]
    omega
/-- A sorted list is known by what it says. -/
theorem look_head {x : It} {r : List It} (h : Rising (x :: r)) {k : Key} (hk : k < x.1) : look (x :: r) k = none := by
  refine look_none fun y hy e => ?_
  rcases List.mem_cons.1 hy with rfl | hy
  · rw [e] at hk; exact lt_ir _ hk
  · have := (List.pairwise_cons.1 h).1 y hy
    rw [e] at this; exact lt_ir _ (lt_tr hk this)
theorem look_ext : ∀ {a b : List It}, Rising a → Rising b → (∀ k, look a k = look b k) → a = b
  | [], [], _, _, _ => rfl
  | [], y :: r, _, _, h => by have := h y.1; simp [look] at this
  | x :: r, [], _, _, h => by have := h x.1; simp [look] at this
  | x :: a, y :: b, ha, hb, h => by
    have hxy : x.1 = y.1 := by
      refine tri _ _ (fun q => ?_) (fun q => ?_)
      · have := h x.1; rw [look_head hb q] at this; simp [look] at this
      · have := h y.1; rw [look_head ha q] at this; simp [look] at this
    have hx2 : x.2 = y.2 := by have := h x.1; simpa [look, hxy] using this
    have hxe : x = y := Prod.ext hxy hx2
    subst hxe
    have ha' := List.pairwise_cons.1 ha
    have hb' := List.pairwise_cons.1 hb
    congr 1
    refine look_ext ha'.2 hb'.2 fun k => ?_
    by_cases hk : x.1 = k
    · subst hk
      rw [look_none, look_none]
      · intro y hy e; have := hb'.1 y hy; rw [e] at this; exact lt_ir _ this
      · intro y hy e; have := ha'.1 y hy; rw [e] at this; exact lt_ir _ this
    · have := h k
      simpa [look, hk] using this
end Go.Proofs.YtolgpnaoaodepaaGreat.Tr
/- The small functions of a tree: comparing, a state's change. -/
namespace Go.Proofs.YtolgpnaoaodepaaGreat
open Go.RowKit

theorem cmp_neg : ∀ (a b : List UInt8), Lib.compareBytes a b < 0 ↔ a < b
  | [], [] => by simp [Lib.compareBytes]
  | [], _ :: _ => by simp [Lib.compareBytes]
  | _ :: _, [] => by simp [Lib.compareBytes]
  | a :: x, b :: y => by
    rw [Lib.compareBytes, List.cons_lt_cons_iff]
    by_cases h1 : a < b
    · simp [h1]
    · rw [if_neg h1]
      by_cases h2 : b < a
      · rw [if_pos h2]
        have : a ≠ b := by rintro rfl; exact h1 h2
        simp [h1, this]
      · rw [if_neg h2, cmp_neg x y]
        have : a = b := UInt8.le_antisymm (UInt8.not_lt.1 h2) (UInt8.not_lt.1 h1)
        simp [this]
theorem cmp_zero : ∀ (a b : List UInt8), Lib.compareBytes a b = 0 ↔ a = b
  | [], [] => by simp [Lib.compareBytes]
  | [], _ :: _ => by simp [Lib.compareBytes]
  | _ :: _, [] => by simp [Lib.compareBytes]
  | a :: x, b :: y => by
    rw [Lib.compareBytes]
    by_cases h1 : a < b
    · rw [if_pos h1]
      have : a ≠ b := by rintro rfl; exact UInt8.lt_irrefl _ h1
      simp [this]
    · rw [if_neg h1]
      by_cases h2 : b < a
      · rw [if_pos h2]
        have : a ≠ b := by rintro rfl; exact h1 h2
        simp [this]
      · rw [if_neg h2, cmp_zero x y]
        have : a = b := UInt8.le_antisymm (UInt8.not_lt.1 h2) (UInt8.not_lt.1 h1)
        simp [this]
set_option maxHeartbeats 1000000 in
set_option maxRecDepth 100000 in
theorem compareString_any (a b : ByteArray) (w : World) :
    Calls Tryz.prog 242 #[.string a, .string b] w fun r w' => r = .returned (.int .i64 (Lib.compareBytes a.data.toList b.data.toList)) ∧ w' = w := by
  go_enter Tryz.func242, Tryz.ntmps242
  go_wp2
  rw [run_callFunc_extern Tryz.func265 (by kernel_rfl) (by kernel_rfl) (by kernel_rfl) (e := Extern.BytealgCompare.compare) (by kernel_rfl), Lib.run_compareString]
  simp only [Result.andThen]
  rw [Oper.upon_value]
  go_wp2
  go_ret
  exact ⟨rfl, rfl⟩
set_option maxHeartbeats 1000000 in
theorem compare_any (a b : ByteArray) (w : World) :
    Calls Tryz.prog 194 #[.string a, .string b] w fun r w' => r = .returned (.int .i64 (Lib.compareBytes a.data.toList b.data.toList)) ∧ w' = w := by
  go_enter Tryz.func194, Tryz.ntmps194
  go_wp2_with (go_at_call 242; refine (compareString_any _ _ _).mono ?_; rintro e w' ⟨rfl, rfl⟩)
  go_ret
  exact ⟨rfl, rfl⟩
set_option maxHeartbeats 1000000 in
theorem findCmp_any (kb vb key : ByteArray) (w : World) :
    Calls Tryz.prog 193 #[.agg #[.string kb, .string vb], .string key] w fun r w' => r = .returned (.int .i64 (Lib.compareBytes kb.data.toList key.data.toList)) ∧ Below w.heap.size w w' := by
  have HB := hid ((Below.refl w.heap.size w).alloc (Nat.le_refl _) (.cells #[.string kb, .string vb] 51))
  go_enter Tryz.func193, Tryz.ntmps193
  go_wp2_with (go_at_call 194; refine (compare_any _ _ _).mono ?_; rintro e w' ⟨rfl, rfl⟩)
  go_ret
  exact ⟨rfl, HB.out⟩
/-- A state's two cells. -/
def stV : Option (List UInt8) → ByteArray
  | none => ⟨#[]⟩
  | some l => ⟨l.toArray⟩
def stB : Option (List UInt8) → Bool
  | none => false
  | some _ => true
theorem stV_data (s : Option (List UInt8)) : (stV s).data.toList = s.getD [] := by cases s <;> rfl
/-- A change, as its cells say it. -/
def chP (k : Int) (key x : ByteArray) : Tr.Ch := (k, key.data.toList, x.data.toList)

set_option maxHeartbeats 1000000 in
set_option maxRecDepth 20000 in
theorem after_any (s : Option (List UInt8)) (k : Int) (key x : ByteArray) (w : World) (hs : (s.getD []).length ≤ 1000000) (hx : x.size ≤ 1000000) :
    Calls Tryz.prog 70 #[.agg #[.string (stV s), .bool (stB s)], .agg #[.int .i64 k, .string key, .string x]] w fun r w' => r = .returned (.agg #[.string (stV (Tr.after s (chP k key x))), .bool (stB (Tr.after s (chP k key x)))]) ∧ Below w.heap.size w w' := by
  have hsz : (stV s).size ≤ 1000000 := by rw [← len_size, stV_data]; exact hs
  have hsd := stV_data s
  have HB : Hid (∀ a b c : Obj, Below w.heap.size w (((w.alloc a).alloc b).alloc c)) := fun a b c => (((Below.refl _ w).alloc (Nat.le_refl _) a).alloc (by simp) b).alloc (by simp; omega) c
  by_cases h2 : k = 2
  · subst h2
    have hr : Tr.after s (chP 2 key x) = none := by unfold Tr.after chP; rw [if_pos rfl]
    rw [hr]
    clear hr
    go_enter Tryz.func70, Tryz.ntmps70
    go_wp2_with fail
    refine bodyPost_ret (v := .agg #[.string ⟨#[]⟩, .bool false]) ?_ rfl ⟨rfl, HB.out _ _ _⟩
    simp [results, Tryz.results70, go_sem]
  · have h2' : (k == 2) = false := by simpa using h2
    by_cases h3 : k = 3
    · subst h3
      have hr : Tr.after s (chP 3 key x) = some (Tr.last16 ((stV s ++ x).data.toList)) := by
        unfold Tr.after chP; rw [if_neg (by simp), if_pos rfl, ← hsd, ByteArray.data_append, Array.toList_append]
      rw [hr]
      have hzz : (stV s ++ x).size ≤ 2000000 := by rw [ByteArray.size_append']; omega
      have e1 : ∀ w, (Op.stringOp .add (stV s) x).run Tryz.prog w = .ok (.string (stV s ++ x)) w := fun w => run_string_add_sum w _ _ (by omega)
      clear hr hsd hsz hs
      generalize stV s ++ x = y at *
      have hy : stV (some (Tr.last16 y.data.toList)) = y.extract (max (0 : Int) ((y.size : Int) - 16)).toNat y.size := by
        refine bytes_ext ?_
        rw [stV_data, Lib.extract_data, show (max (0 : Int) ((y.size : Int) - 16)).toNat = y.size - 16 by omega]
        show Tr.last16 _ = _
        unfold Tr.last16
        rw [len_size, List.take_of_length_le (by rw [List.length_drop, len_size]; omega)]
      rw [hy]
      clear hy
      go_enter Tryz.func70, Tryz.ntmps70
      go_wp2_with fail
      refine bodyPost_ret (v := .agg #[.string (y.extract (max (0 : Int) ((y.size : Int) - 16)).toNat y.size), .bool true]) ?_ rfl ⟨rfl, HB.out _ _ _⟩
      simp [results, Tryz.results70, go_sem]
    · have h3' : (k == 3) = false := by simpa using h3
      have hr : Tr.after s (chP k key x) = some x.data.toList := by
        unfold Tr.after chP; rw [if_neg h2, if_neg h3]
      rw [hr]
      clear hr
      go_enter Tryz.func70, Tryz.ntmps70
      go_wp2_with fail
      refine bodyPost_ret (v := .agg #[.string x, .bool true]) ?_ rfl ⟨rfl, HB.out _ _ _⟩
      simp [results, Tryz.results70, go_sem]
end Go.Proofs.YtolgpnaoaodepaaGreat
