/- What the walks of the reference share. -/
import Derived.Test.YtolgpnaoaodepaaGreatGen
namespace Go.Proofs.YtolgpnaoaodepaaGreat
open Go.RowKit
/-- A cursor lies there. -/
def CurAt (w : World) (b : Nat) (s : ByteArray) (a : Nat) (bad : Bool) : Prop := w.heap[b]? = some (.cells #[.string s, .int .i64 a, .bool bad] 259 (0, 0))
theorem CurAt.cells {w : World} {b a : Nat} {s : ByteArray} {bad : Bool} (h : CurAt w b s a bad) : w.cell? ⟨b, 0, none⟩ = some (.string s) ∧ w.cell? ⟨b, 1, none⟩ = some (.int .i64 a) ∧ w.cell? ⟨b, 2, none⟩ = some (.bool bad) ∧ w.frozen? ⟨b, 1, none⟩ = false ∧ w.frozen? ⟨b, 2, none⟩ = false := by
  unfold CurAt at h
  refine ⟨?_, ?_, ?_, ?_, ?_⟩ <;> simp [World.cell?, World.frozen?, h]
theorem CurAt.setAt {w : World} {b a : Nat} {s : ByteArray} {bad : Bool} (h : CurAt w b s a bad) (a' : Nat) (x : Int) (hx : x = a') : CurAt (w.setCell ⟨b, 1, none⟩ (.int .i64 x)) b s a' bad := by
  subst hx; have := heap_setCell_at (i := 1) h (.int .i64 a'); unfold CurAt; rw [this]; rfl
theorem CurAt.setBad {w : World} {b a : Nat} {s : ByteArray} {bad : Bool} (h : CurAt w b s a bad) : CurAt (w.setCell ⟨b, 2, none⟩ (.bool true)) b s a true := by
  have := heap_setCell_at (i := 2) h (.bool true); unfold CurAt; rw [this]; rfl
theorem CurAt.below {w w' : World} {b a : Nat} {s : ByteArray} {bad : Bool} (h : CurAt w b s a bad) (hb : Below w.heap.size w w') : CurAt w' b s a bad := by
  unfold CurAt at *
  rw [hb.block b ?_, h]
  rcases Nat.lt_or_ge b w.heap.size with h' | h'
  · exact h'
  · rw [Array.getElem?_eq_none h'] at h; cases h
theorem CurAt.drewN {w : World} {b a : Nat} {s : ByteArray} {bad : Bool} (h : CurAt w b s a bad) (q : Nat) : CurAt (w.drewN q) b s a bad := h
theorem CurAt.lt {w : World} {b a : Nat} {s : ByteArray} {bad : Bool} (h : CurAt w b s a bad) : b < w.heap.size := by
  unfold CurAt at h
  rcases Nat.lt_or_ge b w.heap.size with h' | h'
  · exact h'
  · rw [Array.getElem?_eq_none h'] at h; cases h
theorem CurAt.belowAt {w w' : World} {b a B : Nat} {s : ByteArray} {bad : Bool} (h : CurAt w b s a bad) (hb : Below B w w') (hB : b < B) : CurAt w' b s a bad := by
  unfold CurAt at *; rw [hb.block b hB, h]
/-- A cursor that says so much. -/
def Curs (w : World) (b : Nat) (c : Pg.Cur) : Prop := ∃ s a, CurAt w b s a c.bad ∧ a ≤ s.size ∧ s.size ≤ 1000000000 ∧ c.rem = s.data.toList.drop a
/-- A cursor that has gone bad. -/
theorem Curs.bad {w : World} {b : Nat} {c : Pg.Cur} (h : Curs w b c) : Curs (w.setCell ⟨b, 2, none⟩ (.bool true)) b ⟨c.rem, true⟩ := by
  obtain ⟨s, a, h1, h2, h3, h4⟩ := h
  exact ⟨s, a, h1.setBad, h2, h3, h4⟩
theorem Curs.cells {w : World} {b : Nat} {c : Pg.Cur} (h : Curs w b c) : w.cell? ⟨b, 2, none⟩ = some (.bool c.bad) ∧ w.frozen? ⟨b, 2, none⟩ = false := by
  obtain ⟨s, a, h1, h2, h3, h4⟩ := h
  exact ⟨h1.cells.2.2.1, h1.cells.2.2.2.2⟩
theorem curs_new (s : ByteArray) (w : World) (hs : s.size ≤ 1000000000) : Curs (w.alloc (.cells #[.string s, .int .i64 0, .bool false] 259)) w.heap.size ⟨s.data.toList, false⟩ :=
  ⟨s, 0, heap_alloc_new _ _, by omega, hs, by simp⟩
theorem Curs.drewN {w : World} {b : Nat} {c : Pg.Cur} (h : Curs w b c) (q : Nat) : Curs (w.drewN q) b c := h
theorem Curs.below {w w' : World} {b : Nat} {c : Pg.Cur} (h : Curs w b c) (hb : Below w.heap.size w w') : Curs w' b c := by
  obtain ⟨s, a, h1, h2, h3, h4⟩ := h
  exact ⟨s, a, h1.below hb, h2, h3, h4⟩
/-- What header holds while it looks: its result, empty; its own variable; the texts so far. -/
structure Hdr (w wr : World) (ks ss : List ByteArray) (vk vs : Value) : Prop where
  res : wr.heap[w.heap.size]? = some (.cells #[.slice none 0 0, .slice none 0 0] 205 (0, 0))
  var : wr.heap[w.heap.size + 1]? = some (.cells #[vk, vs] 205 (0, 0))
  keys : OwnsS (w.heap.size + 2) wr vk ks
  secs : OwnsS (w.heap.size + 2) wr vs ss
  apart : Apart vk vs
  bel : Below w.heap.size w wr
  sz : w.heap.size + 2 ≤ wr.heap.size
theorem Hdr.cells {w wr : World} {ks ss : List ByteArray} {vk vs : Value} (h : Hdr w wr ks ss vk vs) : wr.cell? ⟨w.heap.size + 1, 0, none⟩ = some vk ∧ wr.cell? ⟨w.heap.size + 1, 1, none⟩ = some vs ∧ wr.frozen? ⟨w.heap.size + 1, 0, none⟩ = false ∧ wr.frozen? ⟨w.heap.size + 1, 1, none⟩ = false ∧ wr.frozen? ⟨w.heap.size, 0, none⟩ = false ∧ wr.frozen? ⟨w.heap.size, 1, none⟩ = false ∧ wr.cell? ⟨w.heap.size, 0, none⟩ = some (.slice none 0 0) ∧ wr.cell? ⟨w.heap.size, 1, none⟩ = some (.slice none 0 0) := by
  have h1 := h.res
  have h2 := h.var
  refine ⟨?_, ?_, ?_, ?_, ?_, ?_, ?_, ?_⟩ <;> simp [World.cell?, World.frozen?, h1, h2]
theorem Hdr.below {w wr wx : World} {ks ss : List ByteArray} {vk vs : Value} (h : Hdr w wr ks ss vk vs) (hb : Below wr.heap.size wr wx) : Hdr w wx ks ss vk vs :=
  ⟨(hb.block _ (by have := h.sz; omega)).trans h.res, (hb.block _ (by have := h.sz; omega)).trans h.var, h.keys.below hb (Nat.le_refl _), h.secs.below hb (Nat.le_refl _), h.apart, h.bel.trans (hb.mono (by have := h.sz; omega)), Nat.le_trans h.sz hb.size⟩
theorem hdr_start (w : World) : Hdr w ((w.alloc (.cells #[.slice none 0 0, .slice none 0 0] 205)).alloc (.cells #[.slice none 0 0, .slice none 0 0] 205)) [] [] (.slice none 0 0) (.slice none 0 0) := by
  refine ⟨?_, ?_, OwnsS.nil _ _, OwnsS.nil _ _, apart_nil _, ((Below.refl _ w).alloc (Nat.le_refl _) _).alloc (by simp) _, by simp⟩
  · rw [Below.heap_alloc _ _ _ (by simp)]; exact heap_alloc_new _ _
  · have := heap_alloc_new (w.alloc (.cells #[.slice none 0 0, .slice none 0 0] 205)) (.cells #[.slice none 0 0, .slice none 0 0] 205)
    simpa using this
theorem Hdr.drewN {w wr : World} {ks ss : List ByteArray} {vk vs : Value} (h : Hdr w wr ks ss vk vs) (q : Nat) : Hdr w (wr.drewN q) ks ss vk vs := ⟨h.res, h.var, h.keys, h.secs, h.apart, below_drewN h.bel q, h.sz⟩
/-- The way out: the variable is laid into the result. -/
theorem Hdr.out {w wr : World} {ks ss : List ByteArray} {vk vs : Value} (h : Hdr w wr ks ss vk vs) :
    ((wr.setCell ⟨w.heap.size, 0, none⟩ vk).setCell ⟨w.heap.size, 1, none⟩ vs).cell? ⟨w.heap.size, 0, none⟩ = some vk ∧ ((wr.setCell ⟨w.heap.size, 0, none⟩ vk).setCell ⟨w.heap.size, 1, none⟩ vs).cell? ⟨w.heap.size, 1, none⟩ = some vs ∧ Below w.heap.size w ((wr.setCell ⟨w.heap.size, 0, none⟩ vk).setCell ⟨w.heap.size, 1, none⟩ vs) ∧ OwnsS (w.heap.size + 2) ((wr.setCell ⟨w.heap.size, 0, none⟩ vk).setCell ⟨w.heap.size, 1, none⟩ vs) vk ks ∧ OwnsS (w.heap.size + 2) ((wr.setCell ⟨w.heap.size, 0, none⟩ vk).setCell ⟨w.heap.size, 1, none⟩ vs) vs ss := by
  have h1 := heap_setCell_at (i := 1) (heap_setCell_at (i := 0) h.res vk) vs
  refine ⟨?_, ?_, (h.bel.setCell (p := ⟨w.heap.size, 0, none⟩) (Nat.le_refl _) _).setCell (p := ⟨w.heap.size, 1, none⟩) (Nat.le_refl _) _, (h.keys.setBelow (by omega) _).setBelow (by omega) _, (h.secs.setBelow (by omega) _).setBelow (by omega) _⟩
  · unfold World.cell?; rw [h1]; rfl
  · unfold World.cell?; rw [h1]; rfl
theorem Hdr.mid {w wr wx : World} {ks ss : List ByteArray} {vk vs : Value} (h : Hdr w wr ks ss vk vs) (hb : Below (w.heap.size + 2) wr wx) : wx.cell? ⟨w.heap.size + 1, 0, none⟩ = some vk ∧ wx.cell? ⟨w.heap.size + 1, 1, none⟩ = some vs ∧ wx.frozen? ⟨w.heap.size + 1, 0, none⟩ = false ∧ wx.frozen? ⟨w.heap.size + 1, 1, none⟩ = false := by
  have h2 := (hb.block (w.heap.size + 1) (by omega)).trans h.var
  refine ⟨?_, ?_, ?_, ?_⟩ <;> simp [World.cell?, World.frozen?, h2]
theorem Hdr.apK {w wr w' : World} {ks ss : List ByteArray} {vk vs v' : Value} {s : ByteArray} (h : Hdr w wr ks ss vk vs) (ho : OwnsS (w.heap.size + 2) w' v' (ks ++ [s])) (hg : wr.grownBy w' vk.ownBlock) (hat : v'.ownBlock = vk.ownBlock ∨ ∃ k, wr.heap.size ≤ k ∧ v'.ownBlock = some k) :
    Below (w.heap.size + 2) wr w' ∧ Hdr w (w'.setCell ⟨w.heap.size + 1, 0, none⟩ v') (ks ++ [s]) ss v' vs := by
  obtain ⟨o2, ap2, bel2⟩ := owns_apart h.secs h.keys h.sz h.apart.symm hg hat
  refine ⟨bel2, (Below.heap_setCell _ _ _ _ (by simp)).trans ((bel2.block _ (by omega)).trans h.res), ?_, ho.setBelow (by omega) _, o2.setBelow (by omega) _, ap2.symm, (h.bel.trans (bel2.mono (by omega))).setCell (p := ⟨w.heap.size + 1, 0, none⟩) (by simp) _, ?_⟩
  · rw [heap_setCell_at (i := 0) ((bel2.block (w.heap.size + 1) (by omega)).trans h.var) v']; rfl
  · have := h.sz; have := bel2.size; simp [World.setCell]; omega
theorem Hdr.apS {w wr w' : World} {ks ss : List ByteArray} {vk vs v' : Value} {s : ByteArray} (h : Hdr w wr ks ss vk vs) (ho : OwnsS (w.heap.size + 2) w' v' (ss ++ [s])) (hg : wr.grownBy w' vs.ownBlock) (hat : v'.ownBlock = vs.ownBlock ∨ ∃ k, wr.heap.size ≤ k ∧ v'.ownBlock = some k) :
    Below (w.heap.size + 2) wr w' ∧ Hdr w (w'.setCell ⟨w.heap.size + 1, 1, none⟩ v') ks (ss ++ [s]) vk v' := by
  obtain ⟨o2, ap2, bel2⟩ := owns_apart h.keys h.secs h.sz h.apart hg hat
  refine ⟨bel2, (Below.heap_setCell _ _ _ _ (by simp)).trans ((bel2.block _ (by omega)).trans h.res), ?_, o2.setBelow (by omega) _, ho.setBelow (by omega) _, ap2, (h.bel.trans (bel2.mono (by omega))).setCell (p := ⟨w.heap.size + 1, 1, none⟩) (by simp) _, ?_⟩
  · rw [heap_setCell_at (i := 1) ((bel2.block (w.heap.size + 1) (by omega)).trans h.var) v']; rfl
  · have := h.sz; have := bel2.size; simp [World.setCell]; omega
/-- What the cursor's changes tell. -/
def ChEnd (w : World) (b : Nat) (c : Pg.Cur) (r : Ending) (w' : World) : Prop := ∃ v ml, r = .returned v ∧ plainCh ml = (Pg.rdChanges c.byte (c.take 1).2).1 ∧ ml.length ≤ 255 ∧ OwnsC w.heap.size w' v ml ∧ Curs w' b (Pg.rdChanges c.byte (c.take 1).2).2 ∧ But b w w'
theorem Curs.other {w w' : World} {b : Nat} {c : Pg.Cur} (h : Curs w b c) (he : w'.heap[b]? = w.heap[b]?) : Curs w' b c := by
  obtain ⟨s, a, h1, h2⟩ := h
  exact ⟨s, a, by unfold CurAt at *; rw [he]; exact h1, h2⟩
/-- Within a round: the cursor, the changes so far, and the change that is being read. -/
structure Mid (w wr : World) (b xb : Nat) (c : Pg.Cur) (ml : List (Int × ByteArray × ByteArray)) (vl : Value) (kd : Int) (key val : ByteArray) : Prop where
  cur : Curs wr b c
  own : OwnsC w.heap.size wr vl ml
  but : But b w wr
  x : wr.heap[xb]? = some (.cells #[.int .i64 kd, .string key, .string val] 34 (0, 0))
  ne : ∀ k, vl.ownBlock = some k → k ≠ xb
  ge : w.heap.size ≤ xb
  lt : b < w.heap.size
theorem Mid.cells {w wr : World} {b xb : Nat} {c : Pg.Cur} {ml : List (Int × ByteArray × ByteArray)} {vl : Value} {kd : Int} {key val : ByteArray} (h : Mid w wr b xb c ml vl kd key val) : wr.cell? ⟨xb, 0, none⟩ = some (.int .i64 kd) ∧ wr.cell? ⟨xb, 1, none⟩ = some (.string key) ∧ wr.cell? ⟨xb, 2, none⟩ = some (.string val) ∧ wr.frozen? ⟨xb, 1, none⟩ = false ∧ wr.frozen? ⟨xb, 2, none⟩ = false ∧ xb < wr.heap.size := by
  have h1 := h.x
  refine ⟨?_, ?_, ?_, ?_, ?_, (Array.getElem?_eq_some_iff.1 h1).1⟩ <;> simp [World.cell?, World.frozen?, h1]
theorem Mid.step {w wr wx : World} {b xb : Nat} {c c' : Pg.Cur} {ml : List (Int × ByteArray × ByteArray)} {vl : Value} {kd : Int} {key val : ByteArray} (h : Mid w wr b xb c ml vl kd key val) (hc : Curs wx b c') (hb : But b wr wx) : Mid w wx b xb c' ml vl kd key val :=
  ⟨hc, h.own.but hb h.lt, but_trans h.but hb, (hb.block xb h.cells.2.2.2.2.2 (by have := h.ge; have := h.lt; simp; omega)).trans h.x, h.ne, h.ge, h.lt⟩
theorem Mid.set {w wr : World} {b xb : Nat} {c : Pg.Cur} {ml : List (Int × ByteArray × ByteArray)} {vl : Value} {kd : Int} {key val key' val' : ByteArray} (h : Mid w wr b xb c ml vl kd key val) (i : Nat) (u : Value) (he : (#[.int .i64 kd, .string key, .string val] : Array Value).setIfInBounds i u = #[.int .i64 kd, .string key', .string val']) : Mid w (wr.setCell ⟨xb, i, none⟩ u) b xb c ml vl kd key' val' := by
  have hxb : b ≠ xb := by have := h.ge; have := h.lt; omega
  refine ⟨h.cur.other (Below.heap_setCell _ _ _ _ hxb), World.ownsRow.kept h.own (but_set xb i wr u) ?_, ?_, ?_, h.ne, h.ge, h.lt⟩
  · cases e : vl.ownBlock with
    | none => exact .inl rfl
    | some k => exact .inr (fun e' => h.ne k e (by simpa using e'))
  · exact ⟨h.but.os, h.but.tape, h.but.output, Nat.le_trans h.but.size (but_set xb i wr u).size, fun k hk hr => (Below.heap_setCell _ _ _ _ (by have := h.ge; show k ≠ xb; omega)).trans (h.but.block k hk hr)⟩
  · rw [heap_setCell_at (i := i) h.x u, he]
theorem mid_new {w wr : World} {b : Nat} {c : Pg.Cur} {ml : List (Int × ByteArray × ByteArray)} {vl : Value} {kd : Int} (hlt : b < w.heap.size) (hc : Curs wr b c) (ho : OwnsC w.heap.size wr vl ml) (hb : But b w wr) : Mid w (wr.alloc (.cells #[.int .i64 kd, .string ⟨#[]⟩, .string ⟨#[]⟩] 34)) b wr.heap.size c ml vl kd ⟨#[]⟩ ⟨#[]⟩ := by
  have hA := (Below.refl wr.heap.size wr).alloc (Nat.le_refl _) (.cells #[.int .i64 kd, .string ⟨#[]⟩, .string ⟨#[]⟩] 34)
  refine ⟨hc.other (hA.block b (Nat.lt_of_lt_of_le hlt hb.size)), World.ownsRow.alloc ho _, but_trans hb (but_below hA), heap_alloc_new _ _, fun k hk => ?_, hb.size, hlt⟩
  have := (World.ownsRow.lt ho k hk).2; omega
theorem Mid.ap {w wr w' : World} {b xb : Nat} {c : Pg.Cur} {ml : List (Int × ByteArray × ByteArray)} {vl : Value} {kd : Int} {key val : ByteArray} (h : Mid w wr b xb c ml vl kd key val) (hg : wr.grownBy w' vl.ownBlock) : Curs w' b c ∧ But b w w' := by
  have hne : ∀ k, k < w.heap.size → some k ≠ vl.ownBlock := fun k hk e => by have := (World.ownsRow.lt h.own k e.symm).1; omega
  refine ⟨h.cur.other (hg.block b (Nat.lt_of_lt_of_le h.lt h.but.size) (hne b h.lt)), ⟨hg.os.trans h.but.os, hg.tape.trans h.but.tape, hg.output.trans h.but.output, Nat.le_trans h.but.size hg.size, fun k hk hr => (hg.block k (Nat.lt_of_lt_of_le hk h.but.size) (hne k hk)).trans (h.but.block k hk hr)⟩⟩
end Go.Proofs.YtolgpnaoaodepaaGreat
