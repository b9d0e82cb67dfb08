/- What the walks of the reference share. -/
import Derived.Test.YtolgpnaoaodepaaGreatMathEm
import Derived.Test.YtolgpnaoaodepaaGreatWalkEm
import Derived.Test.YtolgpnaoaodepaaGreatMathBm
import Derived.Laws.BitsAllLaws
import Derived.Laws.Concat
namespace Go.Proofs.YtolgpnaoaodepaaGreat
open Go.RowKit
/-- A cursor lies there. -/
def CurAt (w : World) (b : Nat) (s : ByteArray) (a : Nat) (bad : Bool) : Prop := w.heap[b]? = some (.cells #[.string s, .int .i64 a, .bool bad] 259 (0, 0))
theorem CurAt.cells {w : World} {b a : Nat} {s : ByteArray} {bad : Bool} (h : CurAt w b s a bad) : w.cell? ⟨b, 0, none⟩ = some (.string s) ∧ w.cell? ⟨b, 1, none⟩ = some (.int .i64 a) ∧ w.cell? ⟨b, 2, none⟩ = some (.bool bad) ∧ w.frozen? ⟨b, 1, none⟩ = false ∧ w.frozen? ⟨b, 2, none⟩ = false := by
  unfold CurAt at h
  refine ⟨?_, ?_, ?_, ?_, ?_⟩ <;> simp [World.cell?, World.frozen?, h]
theorem CurAt.setAt {w : World} {b a : Nat} {s : ByteArray} {bad : Bool} (h : CurAt w b s a bad) (a' : Nat) (x : Int) (hx : x = a') : CurAt (w.setCell ⟨b, 1, none⟩ (.int .i64 x)) b s a' bad := by
  subst hx; have := heap_setCell_at (i := 1) h (.int .i64 a'); unfold CurAt; rw [this]; rfl
theorem CurAt.setBad {w : World} {b a : Nat} {s : ByteArray} {bad : Bool} (h : CurAt w b s a bad) : CurAt (w.setCell ⟨b, 2, none⟩ (.bool true)) b s a true := by
  have := heap_setCell_at (i := 2) h (.bool true); unfold CurAt; rw [this]; rfl
theorem CurAt.below {w w' : World} {b a : Nat} {s : ByteArray} {bad : Bool} (h : CurAt w b s a bad) (hb : Below w.heap.size w w') : CurAt w' b s a bad := by
  unfold CurAt at *
  rw [hb.block b ?_, h]
  rcases Nat.lt_or_ge b w.heap.size with h' | h'
  · exact h'
  · rw [Array.getElem?_eq_none h'] at h; cases h
theorem CurAt.drewN {w : World} {b a : Nat} {s : ByteArray} {bad : Bool} (h : CurAt w b s a bad) (q : Nat) : CurAt (w.drewN q) b s a bad := h
theorem CurAt.lt {w : World} {b a : Nat} {s : ByteArray} {bad : Bool} (h : CurAt w b s a bad) : b < w.heap.size := by
  unfold CurAt at h
  rcases Nat.lt_or_ge b w.heap.size with h' | h'
  · exact h'
  · rw [Array.getElem?_eq_none h'] at h; cases h
theorem CurAt.belowAt {w w' : World} {b a B : Nat} {s : ByteArray} {bad : Bool} (h : CurAt w b s a bad) (hb : Below B w w') (hB : b < B) : CurAt w' b s a bad := by
  unfold CurAt at *; rw [hb.block b hB, h]
/-- A cursor that says so much. -/
def Curs (w : World) (b : Nat) (c : Pg.Cur) : Prop := ∃ s a, CurAt w b s a c.bad ∧ a ≤ s.size ∧ s.size ≤ 1000000000 ∧ c.rem = s.data.toList.drop a
/-- A cursor that has gone bad. -/
theorem Curs.bad {w : World} {b : Nat} {c : Pg.Cur} (h : Curs w b c) : Curs (w.setCell ⟨b, 2, none⟩ (.bool true)) b ⟨c.rem, true⟩ := by
  obtain ⟨s, a, h1, h2, h3, h4⟩ := h
  exact ⟨s, a, h1.setBad, h2, h3, h4⟩
theorem Curs.cells {w : World} {b : Nat} {c : Pg.Cur} (h : Curs w b c) : w.cell? ⟨b, 2, none⟩ = some (.bool c.bad) ∧ w.frozen? ⟨b, 2, none⟩ = false := by
  obtain ⟨s, a, h1, h2, h3, h4⟩ := h
  exact ⟨h1.cells.2.2.1, h1.cells.2.2.2.2⟩
theorem curs_new (s : ByteArray) (w : World) (hs : s.size ≤ 1000000000) : Curs (w.alloc (.cells #[.string s, .int .i64 0, .bool false] 259)) w.heap.size ⟨s.data.toList, false⟩ :=
  ⟨s, 0, heap_alloc_new _ _, by omega, hs, by simp⟩
theorem Curs.drewN {w : World} {b : Nat} {c : Pg.Cur} (h : Curs w b c) (q : Nat) : Curs (w.drewN q) b c := h
theorem Curs.below {w w' : World} {b : Nat} {c : Pg.Cur} (h : Curs w b c) (hb : Below w.heap.size w w') : Curs w' b c := by
  obtain ⟨s, a, h1, h2, h3, h4⟩ := h
  exact ⟨s, a, h1.below hb, h2, h3, h4⟩
/-- What header holds while it looks: its result, empty; its own variable; the texts so far. -/
structure Hdr (w wr : World) (ks ss : List ByteArray) (vk vs : Value) : Prop where
  res : wr.heap[w.heap.size]? = some (.cells #[.slice none 0 0, .slice none 0 0] 205 (0, 0))
  var : wr.heap[w.heap.size + 1]? = some (.cells #[vk, vs] 205 (0, 0))
  keys : OwnsS (w.heap.size + 2) wr vk ks
  secs : OwnsS (w.heap.size + 2) wr vs ss
  apart : Apart vk vs
  bel : Below w.heap.size w wr
  sz : w.heap.size + 2 ≤ wr.heap.size
theorem Hdr.cells {w wr : World} {ks ss : List ByteArray} {vk vs : Value} (h : Hdr w wr ks ss vk vs) : wr.cell? ⟨w.heap.size + 1, 0, none⟩ = some vk ∧ wr.cell? ⟨w.heap.size + 1, 1, none⟩ = some vs ∧ wr.frozen? ⟨w.heap.size + 1, 0, none⟩ = false ∧ wr.frozen? ⟨w.heap.size + 1, 1, none⟩ = false ∧ wr.frozen? ⟨w.heap.size, 0, none⟩ = false ∧ wr.frozen? ⟨w.heap.size, 1, none⟩ = false ∧ wr.cell? ⟨w.heap.size, 0, none⟩ = some (.slice none 0 0) ∧ wr.cell? ⟨w.heap.size, 1, none⟩ = some (.slice none 0 0) := by
  have h1 := h.res
  have h2 := h.var
  refine ⟨?_, ?_, ?_, ?_, ?_, ?_, ?_, ?_⟩ <;> simp [World.cell?, World.frozen?, h1, h2]
theorem Hdr.below {w wr wx : World} {ks ss : List ByteArray} {vk vs : Value} (h : Hdr w wr ks ss vk vs) (hb : Below wr.heap.size wr wx) : Hdr w wx ks ss vk vs :=
  ⟨(hb.block _ (by have := h.sz; omega)).trans h.res, (hb.block _ (by have := h.sz; omega)).trans h.var, h.keys.below hb (Nat.le_refl _), h.secs.below hb (Nat.le_refl _), h.apart, h.bel.trans (hb.mono (by have := h.sz; omega)), Nat.le_trans h.sz hb.size⟩
theorem hdr_start (w : World) : Hdr w ((w.alloc (.cells #[.slice none 0 0, .slice none 0 0] 205)).alloc (.cells #[.slice none 0 0, .slice none 0 0] 205)) [] [] (.slice none 0 0) (.slice none 0 0) := by
  refine ⟨?_, ?_, OwnsS.nil _ _, OwnsS.nil _ _, apart_nil _, ((Below.refl _ w).alloc (Nat.le_refl _) _).alloc (by simp) _, by simp⟩
  · rw [Below.heap_alloc _ _ _ (by simp)]; exact heap_alloc_new _ _
  · have := heap_alloc_new (w.alloc (.cells #[.slice none 0 0, .slice none 0 0] 205)) (.cells #[.slice none 0 0, .slice none 0 0] 205)
    simpa using this
theorem Hdr.drewN {w wr : World} {ks ss : List ByteArray} {vk vs : Value} (h : Hdr w wr ks ss vk vs) (q : Nat) : Hdr w (wr.drewN q) ks ss vk vs := ⟨h.res, h.var, h.keys, h.secs, h.apart, below_drewN h.bel q, h.sz⟩
/-- The way out: the variable is laid into the result. -/
theorem Hdr.out {w wr : World} {ks ss : List ByteArray} {vk vs : Value} (h : Hdr w wr ks ss vk vs) :
    ((wr.setCell ⟨w.heap.size, 0, none⟩ vk).setCell ⟨w.heap.size, 1, none⟩ vs).cell? ⟨w.heap.size, 0, none⟩ = some vk ∧ ((wr.setCell ⟨w.heap.size, 0, none⟩ vk).setCell ⟨w.heap.size, 1, none⟩ vs).cell? ⟨w.heap.size, 1, none⟩ = some vs ∧ Below w.heap.size w ((wr.setCell ⟨w.heap.size, 0, none⟩ vk).setCell ⟨w.heap.size, 1, none⟩ vs) ∧ OwnsS (w.heap.size + 2) ((wr.setCell ⟨w.heap.size, 0, none⟩ vk).setCell ⟨w.heap.size, 1, none⟩ vs) vk ks ∧ OwnsS (w.heap.size + 2) ((wr.setCell ⟨w.heap.size, 0, none⟩ vk).setCell ⟨w.heap.size, 1, none⟩ vs) vs ss := by
  have h1 := heap_setCell_at (i := 1) (heap_setCell_at (i := 0) h.res vk) vs
  refine ⟨?_, ?_, (h.bel.setCell (p := ⟨w.heap.size, 0, none⟩) (Nat.le_refl _) _).setCell (p := ⟨w.heap.size, 1, none⟩) (Nat.le_refl _) _, (h.keys.setBelow (by omega) _).setBelow (by omega) _, (h.secs.setBelow (by omega) _).setBelow (by omega) _⟩
  · unfold World.cell?; rw [h1]; rfl
  · unfold World.cell?; rw [h1]; rfl
theorem Hdr.mid {w wr wx : World} {ks ss : List ByteArray} {vk vs : Value} (h : Hdr w wr ks ss vk vs) (hb : Below (w.heap.size + 2) wr wx) : wx.cell? ⟨w.heap.size + 1, 0, none⟩ = some vk ∧ wx.cell? ⟨w.heap.size + 1, 1, none⟩ = some vs ∧ wx.frozen? ⟨w.heap.size + 1, 0, none⟩ = false ∧ wx.frozen? ⟨w.heap.size + 1, 1, none⟩ = false := by
  have h2 := (hb.block (w.heap.size + 1) (by omega)).trans h.var
  refine ⟨?_, ?_, ?_, ?_⟩ <;> simp [World.cell?, World.frozen?, h2]
theorem Hdr.apK {w wr w' : World} {ks ss : List ByteArray} {vk vs v' : Value} {s : ByteArray} (h : Hdr w wr ks ss vk vs) (ho : OwnsS (w.heap.size + 2) w' v' (ks ++ [s])) (hg : wr.grownBy w' vk.ownBlock) (hat : v'.ownBlock = vk.ownBlock ∨ ∃ k, wr.heap.size ≤ k ∧ v'.ownBlock = some k) :
    Below (w.heap.size + 2) wr w' ∧ Hdr w (w'.setCell ⟨w.heap.size + 1, 0, none⟩ v') (ks ++ [s]) ss v' vs := by
  obtain ⟨o2, ap2, bel2⟩ := owns_apart h.secs h.keys h.sz h.apart.symm hg hat
  refine ⟨bel2, (Below.heap_setCell _ _ _ _ (by simp)).trans ((bel2.block _ (by omega)).trans h.res), ?_, ho.setBelow (by omega) _, o2.setBelow (by omega) _, ap2.symm, (h.bel.trans (bel2.mono (by omega))).setCell (p := ⟨w.heap.size + 1, 0, none⟩) (by simp) _, ?_⟩
  · rw [heap_setCell_at (i := 0) ((bel2.block (w.heap.size + 1) (by omega)).trans h.var) v']; rfl
  · have := h.sz; have := bel2.size; simp [World.setCell]; omega
theorem Hdr.apS {w wr w' : World} {ks ss : List ByteArray} {vk vs v' : Value} {s : ByteArray} (h : Hdr w wr ks ss vk vs) (ho : OwnsS (w.heap.size + 2) w' v' (ss ++ [s])) (hg : wr.grownBy w' vs.ownBlock) (hat : v'.ownBlock = vs.ownBlock ∨ ∃ k, wr.heap.size ≤ k ∧ v'.ownBlock = some k) :
    Below (w.heap.size + 2) wr w' ∧ Hdr w (w'.setCell ⟨w.heap.size + 1, 1, none⟩ v') ks (ss ++ [s]) vk v' := by
  obtain ⟨o2, ap2, bel2⟩ := owns_apart h.keys h.secs h.sz h.apart hg hat
  refine ⟨bel2, (Below.heap_setCell _ _ _ _ (by simp)).trans ((bel2.block _ (by omega)).trans h.res), ?_, o2.setBelow (by omega) _, ho.setBelow (by omega) _, ap2, (h.bel.trans (bel2.mono (by omega))).setCell (p := ⟨w.heap.size + 1, 1, none⟩) (by simp) _, ?_⟩
  · rw [heap_setCell_at (i := 1) ((bel2.block (w.heap.size + 1) (by omega)).trans h.var) v']; rfl
  · have := h.sz; have := bel2.size; simp [World.setCell]; omega
/-- What the cursor's changes tell. -/
def ChEnd (w : World) (b : Nat) (c : Pg.Cur) (r : Ending) (w' : World) : Prop := ∃ v ml, r = .returned v ∧ plainCh ml = (Pg.rdChanges c.byte (c.take 1).2).1 ∧ ml.length ≤ 255 ∧ OwnsC w.heap.size w' v ml ∧ Curs w' b (Pg.rdChanges c.byte (c.take 1).2).2 ∧ But b w w'
theorem Curs.other {w w' : World} {b : Nat} {c : Pg.Cur} (h : Curs w b c) (he : w'.heap[b]? = w.heap[b]?) : Curs w' b c := by
  obtain ⟨s, a, h1, h2⟩ := h
  exact ⟨s, a, by unfold CurAt at *; rw [he]; exact h1, h2⟩
/-- Within a round: the cursor, the changes so far, and the change that is being read. -/
structure Mid (w wr : World) (b xb : Nat) (c : Pg.Cur) (ml : List (Int × ByteArray × ByteArray)) (vl : Value) (kd : Int) (key val : ByteArray) : Prop where
  cur : Curs wr b c
  own : OwnsC w.heap.size wr vl ml
  but : But b w wr
  x : wr.heap[xb]? = some (.cells #[.int .i64 kd, .string key, .string val] 34 (0, 0))
  ne : ∀ k, vl.ownBlock = some k → k ≠ xb
  ge : w.heap.size ≤ xb
  lt : b < w.heap.size
theorem Mid.cells {w wr : World} {b xb : Nat} {c : Pg.Cur} {ml : List (Int × ByteArray × ByteArray)} {vl : Value} {kd : Int} {key val : ByteArray} (h : Mid w wr b xb c ml vl kd key val) : wr.cell? ⟨xb, 0, none⟩ = some (.int .i64 kd) ∧ wr.cell? ⟨xb, 1, none⟩ = some (.string key) ∧ wr.cell? ⟨xb, 2, none⟩ = some (.string val) ∧ wr.frozen? ⟨xb, 1, none⟩ = false ∧ wr.frozen? ⟨xb, 2, none⟩ = false ∧ xb < wr.heap.size := by
  have h1 := h.x
  refine ⟨?_, ?_, ?_, ?_, ?_, (Array.getElem?_eq_some_iff.1 h1).1⟩ <;> simp [World.cell?, World.frozen?, h1]
theorem Mid.step {w wr wx : World} {b xb : Nat} {c c' : Pg.Cur} {ml : List (Int × ByteArray × ByteArray)} {vl : Value} {kd : Int} {key val : ByteArray} (h : Mid w wr b xb c ml vl kd key val) (hc : Curs wx b c') (hb : But b wr wx) : Mid w wx b xb c' ml vl kd key val :=
  ⟨hc, h.own.but hb h.lt, but_trans h.but hb, (hb.block xb h.cells.2.2.2.2.2 (by have := h.ge; have := h.lt; simp; omega)).trans h.x, h.ne, h.ge, h.lt⟩
theorem Mid.set {w wr : World} {b xb : Nat} {c : Pg.Cur} {ml : List (Int × ByteArray × ByteArray)} {vl : Value} {kd : Int} {key val key' val' : ByteArray} (h : Mid w wr b xb c ml vl kd key val) (i : Nat) (u : Value) (he : (#[.int .i64 kd, .string key, .string val] : Array Value).setIfInBounds i u = #[.int .i64 kd, .string key', .string val']) : Mid w (wr.setCell ⟨xb, i, none⟩ u) b xb c ml vl kd key' val' := by
  have hxb : b ≠ xb := by have := h.ge; have := h.lt; omega
  refine ⟨h.cur.other (Below.heap_setCell _ _ _ _ hxb), World.ownsRow.kept h.own (but_set xb i wr u) ?_, ?_, ?_, h.ne, h.ge, h.lt⟩
  · cases e : vl.ownBlock with
    | none => exact .inl rfl
    | some k => exact .inr (fun e' => h.ne k e (by simpa using e'))
  · exact ⟨h.but.os, h.but.tape, h.but.output, Nat.le_trans h.but.size (but_set xb i wr u).size, fun k hk hr => (Below.heap_setCell _ _ _ _ (by have := h.ge; show k ≠ xb; omega)).trans (h.but.block k hk hr)⟩
  · rw [heap_setCell_at (i := i) h.x u, he]
theorem mid_new {w wr : World} {b : Nat} {c : Pg.Cur} {ml : List (Int × ByteArray × ByteArray)} {vl : Value} {kd : Int} (hlt : b < w.heap.size) (hc : Curs wr b c) (ho : OwnsC w.heap.size wr vl ml) (hb : But b w wr) : Mid w (wr.alloc (.cells #[.int .i64 kd, .string ⟨#[]⟩, .string ⟨#[]⟩] 34)) b wr.heap.size c ml vl kd ⟨#[]⟩ ⟨#[]⟩ := by
  have hA := (Below.refl wr.heap.size wr).alloc (Nat.le_refl _) (.cells #[.int .i64 kd, .string ⟨#[]⟩, .string ⟨#[]⟩] 34)
  refine ⟨hc.other (hA.block b (Nat.lt_of_lt_of_le hlt hb.size)), World.ownsRow.alloc ho _, but_trans hb (but_below hA), heap_alloc_new _ _, fun k hk => ?_, hb.size, hlt⟩
  have := (World.ownsRow.lt ho k hk).2; omega
theorem Mid.ap {w wr w' : World} {b xb : Nat} {c : Pg.Cur} {ml : List (Int × ByteArray × ByteArray)} {vl : Value} {kd : Int} {key val : ByteArray} (h : Mid w wr b xb c ml vl kd key val) (hg : wr.grownBy w' vl.ownBlock) : Curs w' b c ∧ But b w w' := by
  have hne : ∀ k, k < w.heap.size → some k ≠ vl.ownBlock := fun k hk e => by have := (World.ownsRow.lt h.own k e.symm).1; omega
  refine ⟨h.cur.other (hg.block b (Nat.lt_of_lt_of_le h.lt h.but.size) (hne b h.lt)), ⟨hg.os.trans h.but.os, hg.tape.trans h.but.tape, hg.output.trans h.but.output, Nat.le_trans h.but.size hg.size, fun k hk hr => (hg.block k (Nat.lt_of_lt_of_le hk h.but.size) (hne k hk)).trans (h.but.block k hk hr)⟩⟩
end Go.Proofs.YtolgpnaoaodepaaGreat
/- The walks of the reference's bytes: crc, low, noughts, Sealed, Number, Text, Section. -/
namespace Go.Proofs.YtolgpnaoaodepaaGreat
open Go.RowKit
set_option maxHeartbeats 1000000 in
theorem crc_any (s : ByteArray) (w : World) (hs : s.size ≤ 35184372088832) :
    Calls Tryz.prog 144 #[.string s] w fun r w' => r = .returned (.int .i64 (Pg.crc s.data.toList)) ∧ w' = w := by
  go_enter Tryz.func144, Tryz.ntmps144
  go_wp2_with fail
  go_loop [3, 4] (fun c i => ∃ k : Nat, k ≤ s.size ∧ i = .int .i64 k ∧ c = .int .i64 (Pg.crcAll (s.data.toList.take k))) (fun _ i => s.size - (intOf i).toNat)
  case atStart => exact ⟨0, Nat.zero_le _, rfl, rfl⟩
  case round =>
    obtain ⟨k, hk, rfl, rfl⟩ := hrel
    have hlt := Pg.crcAll_lt (s.data.toList.take k)
    by_cases hks : k < s.size
    · have HN := hid (crc_next s k hks)
      generalize hc : Pg.crcAll (s.data.toList.take k) = c at *
      have hb : (s[k]'hks).toNat < 256 := (s[k]'hks).toNat_lt
      have hx := i64_xor_nat c (s[k]'hks).toNat hlt (by omega)
      have hx2 := Pg.xor_lt (a := c) (b := (s[k]'hks).toNat) hlt (by omega)
      have HX : Hid (Pg.crcByte c (s[k]'hks) = Pg.crcBits 8 (c ^^^ (s[k]'hks).toNat)) := rfl
      clear hc
      generalize hd : c ^^^ (s[k]'hks).toNat = d at *
      clear hd
      go_wp2_with fail
      clear hx
      go_loop [3, 5] (fun e j => ∃ m : Nat, m ≤ 8 ∧ j = .int .i64 m ∧ e = .int .i64 (Pg.crcBits m d)) (fun _ j => 8 - (intOf j).toNat)
      case atStart => exact ⟨0, Nat.zero_le _, rfl, rfl⟩
      case round =>
        obtain ⟨m, hm, rfl, rfl⟩ := hrel
        have hlt2 := Pg.crcBits_lt hx2 m
        have HS : Hid (Pg.crcBits (m + 1) d = Pg.crcBit (Pg.crcBits m d)) := rfl
        generalize hf : Pg.crcBits m d = f at *
        by_cases hm8 : m < 8
        · clear hf
          by_cases h1 : f % 2 = 1
          · have HC := hid (crcBit_one h1)
            have HXP := hid (xor_poly f hlt2)
            have h1' : ((f : Int) % 2 == 1) = true := by simp; omega
            go_wp2_with fail
            go_round
            case rel => exact ⟨m + 1, by omega, by go_num, by rw [HS.out, HC.out, HXP.out]⟩
            case measure => simp [intOf]; omega
          · have HC := hid (crcBit_zero h1)
            have h1' : ((f : Int) % 2 == 1) = false := by simp; omega
            go_wp2_with fail
            go_round
            case rel => exact ⟨m + 1, by omega, by go_num, by rw [HS.out, HC.out]; exact int_eq (by omega)⟩
            case measure => simp [intOf]; omega
        · have hm' : m = 8 := by omega
          subst hm'
          go_wp2_with fail
          go_round
          case rel => exact ⟨k + 1, by omega, by go_num, by rw [HN.out, HX.out, hf]⟩
          case measure => simp [intOf]; omega
    · have HF : Hid (bits .xor .i64 (Pg.crcAll (s.data.toList.take k) : Int) 4294967295 = (Pg.crc s.data.toList : Int)) := by
        show _ = _
        rw [xor_ones _ hlt, List.take_of_length_le (by rw [len_size]; omega)]; rfl
      go_wp2_with fail
      go_ret
      exact ⟨ret_int HF.out, rfl⟩
set_option maxHeartbeats 1000000 in
theorem noughts_any (n : Nat) (w : World) (hn : n ≤ 140737488355328) :
    Calls Tryz.prog 90 #[.int .i64 n] w fun r w' => r = .returned (.string ⟨(List.replicate n 0).toArray⟩) ∧ Below w.heap.size w w' := by
  go_enter Tryz.func90, Tryz.ntmps90
  go_wp2_with (first
    | (at_make; refine wpMk w rfl (.tmp 3) (.tmp 3) rfl n rfl rfl hn ?_))
  intro w1 ho hb _
  have hcv := ho.str
  have HB := hid hb
  clear ho hb
  generalize hl : List.replicate n (0 : UInt8) = l at *
  have HL := hid hl
  clear hl
  go_wp2_with fail
  go_ret
  exact ⟨by rw [HL.out]; rfl, HB.out⟩
set_option maxHeartbeats 1000000 in
theorem low_any (n m : Nat) (w : World) (hn : n ≤ 9223372036854775807) (hm : m ≤ 140737488355328) :
    Calls Tryz.prog 89 #[.int .i64 n, .int .i64 m] w fun r w' => r = .returned (.string ⟨(Pg.low n m).toArray⟩) ∧ Below w.heap.size w w' := by
  go_enter Tryz.func89, Tryz.ntmps89
  go_wp2_with (first
    | (at_make; refine wpMk w rfl (.tmp 7) (.tmp 7) rfl m rfl rfl hm ?_))
  intro w1 ho hb _
  have HO := hid ho
  have HB := hid hb
  clear ho hb
  go_wp2_with fail
  go_loopw [0, 6] (fun x i wr => ∃ k : Nat, k ≤ m ∧ i = .int .i64 k ∧ x = .int .i64 (n / 256 ^ k : Nat) ∧ Owns w.heap.size wr (.slice (some ⟨w.heap.size, 0, none⟩) m m) (Pg.low n k ++ List.replicate (m - k) 0) ∧ Below w.heap.size w wr) (fun _ i _ => m - (intOf i).toNat)
  case atStart => exact ⟨0, Nat.zero_le _, rfl, int_eq (by simp), by simpa [Pg.low] using HO.out, HB.out⟩
  case round =>
    obtain ⟨k, hk, rfl, rfl, hok, hbk⟩ := hrel
    have hlen : (Pg.low n k ++ List.replicate (m - k) 0).length = m := by simp [Pg.low_len]; omega
    by_cases hkm : k < m
    · have hnk : n / 256 ^ k ≤ n := Nat.div_le_self _ _
      have HNX : Hid (n / 256 ^ (k + 1) = n / 256 ^ k / 256) := by show _ = _; rw [Nat.div_div_eq_div_mul, Nat.pow_succ]
      have hst := Owns.stored (by rw [hlen]; exact hok) k (UInt8.ofNat (n / 256 ^ k % 256)) (c := m)
      rw [low_set n k m hkm, hlen] at hst
      have hce : (wr.cell? ⟨w.heap.size, k, none⟩).isSome = true := by
        rw [hok.cellAt k _ (List.getElem?_eq_getElem (by omega))]; rfl
      have hfz : wr.frozen? ⟨w.heap.size, k, none⟩ = false := World.ownsRow.frozenAt (by have := hok; unfold Owns at this; rw [hlen] at this; exact this) k
      have hbs := hbk.setCell (p := ⟨w.heap.size, k, none⟩) (Nat.le_refl _) (.int .u8 ((UInt8.ofNat (n / 256 ^ k % 256)).toNat : Int))
      have hu : ((UInt8.ofNat (n / 256 ^ k % 256)).toNat : Int) = ((n / 256 ^ k : Nat) : Int) % 256 := by simp
      rw [hu] at hst hbs
      have HST := hid hst
      have HBS := hid hbs
      obtain ⟨vc, hcv⟩ := Option.isSome_iff_exists.1 hce
      clear hok hbk hst hbs hu hce hlen
      generalize n / 256 ^ k = x at *
      go_wp2_with fail
      go_roundw
      case rel => exact ⟨k + 1, by omega, by go_num, by rw [HNX.out]; exact int_eq (by omega), HST.out, HBS.out⟩
      case measure => simp [intOf]; omega
    · have hcv : (convert 108 9 (.slice (some ⟨w.heap.size, 0, none⟩) m m)).run Tryz.prog wr = .ok (.string ⟨(Pg.low n m).toArray⟩) wr := by
        have hkm' : k = m := by omega
        subst hkm'
        have := hok.str
        simpa using this
      clear hok hlen
      go_wp2_with fail
      go_ret
      exact ⟨rfl, hbk⟩
end Go.Proofs.YtolgpnaoaodepaaGreat
/- The walks of Sealed, Number, Text, Section. -/
namespace Go.Proofs.YtolgpnaoaodepaaGreat
open Go.RowKit
set_option maxHeartbeats 1000000 in
theorem sealed_any (s : ByteArray) (w : World) (hs : s.size ≤ 35184372088832) :
    Calls Tryz.prog 88 #[.string s] w fun r w' => r = .returned (.string ⟨(Pg.sealed s.data.toList).toArray⟩) ∧ Below w.heap.size w w' := by
  go_enter Tryz.func88, Tryz.ntmps88
  go_wp2_with fail
  refine (crc_any s _ hs).mono ?_
  rintro r w1 ⟨rfl, rfl⟩
  have hc := Pg.crc_lt s.data.toList
  go_wp2_with fail
  refine (low_any (Pg.crc s.data.toList) 4 _ (by omega) (by omega)).mono ?_
  rintro r w2 ⟨rfl, hb⟩
  have HB := hid hb
  clear hb
  have hl4 := Pg.low_len 4 (Pg.crc s.data.toList)
  have HSE : Hid (Pg.sealed s.data.toList = s.data.toList ++ Pg.low (Pg.crc s.data.toList) 4) := rfl
  generalize Pg.low (Pg.crc s.data.toList) 4 = lw at *
  go_wp2_with fail
  go_ret
  exact ⟨ret_str (by rw [HSE.out]; simp), HB.out⟩
set_option maxHeartbeats 1000000 in
set_option maxRecDepth 100000 in
theorem number_any (n : Nat) : ∀ (w : World), n ≤ 9223372036854775807 →
    Calls Tryz.prog 84 #[.int .i64 n] w fun r w' => r = .returned (.string ⟨(Pg.num n).toArray⟩) ∧ Below w.heap.size w w' := by
  induction n using Nat.strongRecOn with
  | _ n ih =>
    intro w hn
    have IH := hid ih
    clear ih
    by_cases hs : n < 128
    · have HN := hid (Pg.num_small n hs)
      go_enter Tryz.func84, Tryz.ntmps84
      go_wp2_with fail
      refine (low_any n 1 _ hn (by omega)).mono ?_
      rintro r w1 ⟨rfl, hb⟩
      go_wp2_with fail
      go_ret
      exact ⟨by rw [HN.out]; rfl, hb⟩
    · have HN := hid (Pg.num_big n hs)
      go_enter Tryz.func84, Tryz.ntmps84
      go_wp2_with fail
      rw [show ((128 : Int) + (n : Int) % 128) = ((128 + n % 128 : Nat) : Int) by omega]
      refine (low_any (128 + n % 128) 1 _ (by omega) (by omega)).mono ?_
      rintro r w1 ⟨rfl, hb⟩
      have HB := hid hb
      have hsz := hb.size
      clear hb
      have hll := Pg.low_len 1 (128 + n % 128)
      generalize Pg.low (128 + n % 128) 1 = lw at *
      go_wp2_with fail
      rw [show ((n : Int) / 128) = ((n / 128 : Nat) : Int) by omega]
      refine (IH.out (n / 128) (by omega) _ (by omega)).mono ?_
      rintro r w2 ⟨rfl, hb2⟩
      have HB2 := hid (HB.out.trans (hb2.mono hsz))
      clear hb2
      have hnl : (Pg.num (n / 128)).length ≤ 100 := by
        have := Pg.num_len' 9 (n / 128) (by show n / 128 < 128 ^ 10; omega)
        omega
      generalize Pg.num (n / 128) = nm at *
      go_wp2_with fail
      go_ret
      exact ⟨ret_str (by rw [HN.out]; simp), HB2.out⟩
set_option maxHeartbeats 1000000 in
theorem text_any (s : ByteArray) (w : World) (hs : s.size ≤ 35184372088832) :
    Calls Tryz.prog 85 #[.string s] w fun r w' => r = .returned (.string ⟨(Pg.text s.data.toList).toArray⟩) ∧ Below w.heap.size w w' := by
  have HT : Hid (Pg.text s.data.toList = Pg.num s.size ++ s.data.toList) := by show _ = _; unfold Pg.text; rw [len_size]
  go_enter Tryz.func85, Tryz.ntmps85
  go_wp2_with fail
  refine (number_any s.size _ (by omega)).mono ?_
  rintro r w1 ⟨rfl, hb⟩
  have HB := hid hb
  clear hb
  have hnl := num_short s.size (by omega)
  generalize Pg.num s.size = nm at *
  go_wp2_with fail
  go_ret
  exact ⟨ret_str (by rw [HT.out]; simp), HB.out⟩
set_option maxHeartbeats 2000000 in
theorem section_any (k s : ByteArray) (w : World) (hk : k.size ≤ 1000) (hs : s.size ≤ 4398046511104) :
    Calls Tryz.prog 86 #[.string k, .string s] w fun r w' => r = .returned (.string ⟨(Pg.section_ k.data.toList s.data.toList).toArray⟩) ∧ Below w.heap.size w w' := by
  go_enter Tryz.func86, Tryz.ntmps86
  go_wp2_with fail
  refine (refSqueeze_any s _ (by omega)).mono ?_
  rintro r w1 ⟨rfl, hb1⟩
  have HB1 := hid hb1
  have hsz1 := hb1.size
  clear hb1
  have hql := Sq.squeeze_le s.data.toList
  rw [len_size] at hql
  by_cases hlt : (Sq.squeeze s.data.toList).length < s.size
  · have HSEC : Hid (Pg.section_ k.data.toList s.data.toList = Pg.sealed (k.data.toList ++ Pg.low 1 1 ++ Pg.num s.size ++ Pg.text (Sq.squeeze s.data.toList))) := by
      show _ = _; unfold Pg.section_; rw [len_size, if_pos hlt]
    generalize Sq.squeeze s.data.toList = q at *
    go_wp2_with fail
    refine (low_any 1 1 _ (by omega) (by omega)).mono ?_
    rintro r w2 ⟨rfl, hb2⟩
    have HB2 := hid (HB1.out.trans (hb2.mono hsz1))
    have hsz2 := HB2.out.size
    clear hb2
    have hl1 := Pg.low_len 1 1
    generalize Pg.low 1 1 = lw at *
    go_wp2_with fail
    refine (number_any s.size _ (by omega)).mono ?_
    rintro r w3 ⟨rfl, hb3⟩
    have HB3 := hid (HB2.out.trans (hb3.mono hsz2))
    have hsz3 := HB3.out.size
    clear hb3
    have hnl := num_short s.size (by omega)
    generalize Pg.num s.size = nm at *
    go_wp2_with fail
    refine (text_any ⟨q.toArray⟩ _ (by show q.toArray.size ≤ _; simp; omega)).mono ?_
    rintro r w4 ⟨rfl, hb4⟩
    have HB4 := hid (HB3.out.trans (hb4.mono hsz3))
    have hsz4 := HB4.out.size
    clear hb4
    have htl : (Pg.text (⟨q.toArray⟩ : ByteArray).data.toList).length ≤ 5000000000000 := by
      unfold Pg.text; simp; have := num_short q.length (by omega); omega
    generalize Pg.text (⟨q.toArray⟩ : ByteArray).data.toList = tx at *
    go_wp2_with fail
    refine (sealed_any _ _ (by simp only [ByteArray.size_append', size_mk]; omega)).mono ?_
    rintro r w5 ⟨rfl, hb5⟩
    have HB5 := hid (HB4.out.trans (hb5.mono hsz4))
    clear hb5
    generalize hse : Pg.sealed _ = se
    have HSE := hid hse
    clear hse
    go_wp2_with fail
    go_ret
    exact ⟨ret_str (by rw [HSEC.out, ← HSE.out]; simp), HB5.out⟩
  · have HSEC : Hid (Pg.section_ k.data.toList s.data.toList = Pg.sealed (k.data.toList ++ Pg.low 0 1 ++ Pg.num s.size ++ Pg.text s.data.toList)) := by
      show _ = _; unfold Pg.section_; rw [len_size, if_neg hlt]
    generalize Sq.squeeze s.data.toList = q at *
    go_wp2_with fail
    refine (low_any 0 1 _ (by omega) (by omega)).mono ?_
    rintro r w2 ⟨rfl, hb2⟩
    have HB2 := hid (HB1.out.trans (hb2.mono hsz1))
    have hsz2 := HB2.out.size
    clear hb2
    have hl1 := Pg.low_len 1 0
    generalize Pg.low 0 1 = lw at *
    go_wp2_with fail
    refine (number_any s.size _ (by omega)).mono ?_
    rintro r w3 ⟨rfl, hb3⟩
    have HB3 := hid (HB2.out.trans (hb3.mono hsz2))
    have hsz3 := HB3.out.size
    clear hb3
    have hnl := num_short s.size (by omega)
    generalize Pg.num s.size = nm at *
    go_wp2_with fail
    refine (text_any s _ (by omega)).mono ?_
    rintro r w4 ⟨rfl, hb4⟩
    have HB4 := hid (HB3.out.trans (hb4.mono hsz3))
    have hsz4 := HB4.out.size
    clear hb4
    have htl : (Pg.text s.data.toList).length ≤ 5000000000000 := by
      unfold Pg.text; rw [len_size, List.length_append, len_size]; have := num_short s.size (by omega); omega
    generalize Pg.text s.data.toList = tx at *
    go_wp2_with fail
    refine (sealed_any _ _ (by simp only [ByteArray.size_append', size_mk]; omega)).mono ?_
    rintro r w5 ⟨rfl, hb5⟩
    have HB5 := hid (HB4.out.trans (hb5.mono hsz4))
    clear hb5
    generalize hse : Pg.sealed _ = se
    have HSE := hid hse
    clear hse
    go_wp2_with fail
    go_ret
    exact ⟨ret_str (by rw [HSEC.out, ← HSE.out]; simp), HB5.out⟩
end Go.Proofs.YtolgpnaoaodepaaGreat
