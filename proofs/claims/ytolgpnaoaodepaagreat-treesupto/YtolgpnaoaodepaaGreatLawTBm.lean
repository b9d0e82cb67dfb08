/- A script's world: its trees, its book, what else stands aside. -/
import Derived.Test.YtolgpnaoaodepaaGreatWalkUm
import Derived.Test.YtolgpnaoaodepaaGreatSilAm
import Derived.Deep.DeepCutAuto
namespace Go.Proofs.YtolgpnaoaodepaaGreat
open Go.RowKit

structure LW (b k N : Nat) (X : Nat → Prop) (vl : Value) (qs : List (Nat × List Nat)) (w : World) : Prop where
  trs : Trs N vl qs w
  bk : Bk w b vl k (fun g => X g ∨ g ∈ blk vl ++ prB qs)
  far : ∀ g ∈ blk vl ++ prB qs, b < g ∧ ¬ X g
  xs : ∀ g, X g → b < g ∧ g < w.heap.size
  cnt : qs.length ≤ N
theorem LW.below {b k N : Nat} {X : Nat → Prop} {vl : Value} {qs : List (Nat × List Nat)} {w w' : World} (h : LW b k N X vl qs w) (hb : Below w.heap.size w w') : LW b k N X vl qs w' :=
  ⟨h.trs.keep fun g hg => hb.block g (h.trs.lt g hg), h.bk.below2 hb fun _ hg => .inl hg, h.far, fun g hg => ⟨(h.xs g hg).1, Nat.lt_of_lt_of_le (h.xs g hg).2 hb.size⟩, h.cnt⟩
theorem LW.mono {b k k' N N' : Nat} {X : Nat → Prop} {vl : Value} {qs : List (Nat × List Nat)} {w : World} (h : LW b k N X vl qs w) (hk : k ≤ k') (hN : N ≤ N') : LW b k' N' X vl qs w :=
  ⟨h.trs.mono hN, h.bk.mono hk, h.far, h.xs, Nat.le_trans h.cnt hN⟩
theorem LW.cell {b k N : Nat} {X : Nat → Prop} {vl : Value} {qs : List (Nat × List Nat)} {w : World} (h : LW b k N X vl qs w) : w.cell? ⟨b, 0, none⟩ = some vl ∧ w.frozen? ⟨b, 0, none⟩ = false := by
  obtain ⟨v, nx, m, hW, -⟩ := h.bk
  exact ⟨hW.cells.1, hW.cells.2.2.2.2.2.2.2.2.2.2 0⟩
theorem LW.lt {b k N : Nat} {X : Nat → Prop} {vl : Value} {qs : List (Nat × List Nat)} {w : World} (h : LW b k N X vl qs w) : b < w.heap.size := h.bk.lt
/-- More stands aside, beyond the heap's end. -/
theorem LW.aside {b k N : Nat} {X X' : Nat → Prop} {vl : Value} {qs : List (Nat × List Nat)} {w w' : World} (h : LW b k N X vl qs w) (hb : Below w.heap.size w w') (hX : ∀ g, X' g → X g ∨ (w.heap.size ≤ g ∧ g < w'.heap.size)) : LW b k N X' vl qs w' := by
  have hl := h.lt
  have hs := hb.size
  refine ⟨h.trs.keep fun g hg => hb.block g (h.trs.lt g hg), h.bk.below2 hb fun g hg => ?_, fun g hg => ⟨(h.far g hg).1, fun hx => ?_⟩, fun g hg => ?_, h.cnt⟩
  · rcases hg with hg | hg
    · rcases hX g hg with q | q
      · exact .inl (.inl q)
      · exact .inr q.1
    · exact .inl (.inr hg)
  · rcases hX g hx with q | q
    · exact (h.far g hg).2 q
    · have := h.trs.lt g hg; omega
  · rcases hX g hg with q | q
    · have := h.xs g q; omega
    · omega
theorem LW.less {b k N : Nat} {X X' : Nat → Prop} {vl : Value} {qs : List (Nat × List Nat)} {w : World} (h : LW b k N X vl qs w) (hX : ∀ g, X' g → X g) : LW b k N X' vl qs w :=
  h.aside (Below.refl _ _) fun g hg => .inl (hX g hg)
/-- One pair turns. -/
theorem LW.turn {b k N N' : Nat} {X : Nat → Prop} {vl : Value} {A C : List (Nat × List Nat)} {q : Nat} {G G' : List Nat} {w w' : World} (h : LW b k N X vl (A ++ (q, G) :: C) w) (hp : PrM N' q G' w') (hN : N ≤ N') (hm : Mod (fun g => g ∈ q :: G) w w') (hs : ∀ g ∈ G', g ∈ q :: G ∨ w.heap.size ≤ g) : LW b k N' X vl (A ++ (q, G') :: C) w' := by
  have hl := h.lt
  have hz := hm.size
  have hin : ∀ g ∈ q :: G, g ∈ blk vl ++ prB (A ++ (q, G) :: C) := fun g hg => by
    rw [prB_mid]; exact List.mem_append_right _ (List.mem_append_right _ (List.mem_append_left _ hg))
  have hold : ∀ g ∈ blk vl ++ prB (A ++ (q, G') :: C), g ∈ blk vl ++ prB (A ++ (q, G) :: C) ∨ w.heap.size ≤ g := fun g hg => by
    rw [prB_mid] at hg
    rcases List.mem_append.1 hg with z | z
    · exact .inl (List.mem_append_left _ z)
    · rcases List.mem_append.1 z with z | z
      · exact .inl (List.mem_append_right _ (by rw [prB_mid]; exact List.mem_append_left _ z))
      · rcases List.mem_append.1 z with z | z
        · rcases List.mem_cons.1 z with e | z
          · exact .inl (hin g (by rw [e]; exact List.mem_cons_self ..))
          · exact (hs g z).imp (hin g) id
        · exact .inl (List.mem_append_right _ (by rw [prB_mid]; exact List.mem_append_right _ (List.mem_append_right _ z)))
  refine ⟨h.trs.turn hp hN hm hs, h.bk.turn hm (fun z => ?_) (fun g z => .inr (hin g z)) (fun g hg => ?_), fun g hg => ?_, fun g hg => ⟨(h.xs g hg).1, Nat.lt_of_lt_of_le (h.xs g hg).2 hz⟩, ?_⟩
  · have := (h.far b (hin b z)).1; omega
  · rcases hg with hg | hg
    · exact .inl (.inl hg)
    · exact (hold g hg).imp .inr id
  · rcases hold g hg with z | z
    · exact h.far g z
    · exact ⟨by omega, fun hx => by have := (h.xs g hx).2; omega⟩
  · have := h.cnt; simp at this ⊢; omega
/-- A pair more. -/
structure AdQ (b k N : Nat) (X : Nat → Prop) (qs : List (Nat × List Nat)) (w : World) (r : Ending) (w' : World) : Prop where
  ret : r = .returned (.bool true)
  lw : ∃ vl' p, LW b k (N + 1) X vl' (qs ++ [p]) w'
  bel : Below b w w'
  same : ∀ g, X g → w'.heap[g]? = w.heap[g]?
theorem LW.add {b k N : Nat} {X : Nat → Prop} {vl vl' : Value} {qs : List (Nat × List Nat)} {x y b' : Nat} {F : List Nat} {v : Value} {il : List (ByteArray × ByteArray)} {V : Tr.Key → Option Tr.Key} {w w3 w4 : World} (h : LW b k N (fun g => X g ∨ g ∈ x :: y :: b' :: (F ++ blk v)) vl qs w) (hst : ST w x b') (htr : TreM V N b' F w) (hrt : RT w y v) (hrow : OwnsI 0 w v il) (hris : Tr.Rising (plain il)) (hval : ∀ k, Tr.look (plain il) k = V k) (hlen : il.length ≤ N) (h16 : ∀ z ∈ il, z.2.size ≤ 16) (hnd : (x :: y :: b' :: (F ++ blk v)).Nodup) (hGX : ∀ g ∈ x :: y :: b' :: (F ++ blk v), ¬ X g)
    (h3 : w.alloc (.cells #[.pointer (some ⟨x, 0, none⟩), .pointer (some ⟨y, 0, none⟩)] 117) = w3) (hv : w4.ownsRow 0 84 1 vl' (qs.length + 1) ((qs.map fun p => Value.pointer (some ⟨p.1, 0, none⟩)) ++ [.pointer (some ⟨w.heap.size, 0, none⟩)])) (hg : w3.grownBy w4 vl.ownBlock) (ho : vl'.ownBlock = vl.ownBlock ∨ ∃ k, w3.heap.size ≤ k ∧ vl'.ownBlock = some k) : AdQ b k N X qs w (.returned (.bool true)) (w4.setCell ⟨b, 0, none⟩ vl') := by
  have hl := h.lt
  have hb3 : Below w.heap.size w w3 := by rw [← h3]; exact (Below.refl _ w).alloc (Nat.le_refl _) _
  have hz3 : w3.heap.size = w.heap.size + 1 := by rw [← h3]; simp
  have hz4 := hg.size
  have hpb : PB w3 w.heap.size x y := by rw [← h3]; exact heap_alloc_new _ _
  have m4 : Mod (fun g => g ∈ blk vl) w w4 := (Mod.of_below (F := fun g => g ∈ blk vl) hb3).trans (Mod.of_grown hg) (fun _ _ q => q) (fun g _ q => mem_blk.2 q)
  have m5 := Mod.setCell w4 b 0 vl'
  have hG : ∀ g ∈ x :: y :: b' :: (F ++ blk v), g < w.heap.size ∧ b < g := fun g hg => ⟨(h.xs g (.inr hg)).2, (h.xs g (.inr hg)).1⟩
  have hvl : ∀ g ∈ blk vl, g < w.heap.size ∧ b < g ∧ g ∉ x :: y :: b' :: (F ++ blk v) ∧ ¬ X g ∧ g ∉ prB qs := fun g hg => by
    have hf := h.far g (List.mem_append_left _ hg)
    exact ⟨h.trs.lt g (List.mem_append_left _ hg), hf.1, fun q => hf.2 (.inr q), fun q => hf.2 (.inl q), fun q => (List.nodup_append.1 h.trs.nd).2.2 g hg g q rfl⟩
  -- what is no list of pairs, and is not b, stays
  have keep : ∀ g, g < w.heap.size → g ∉ blk vl → g ≠ b → (w4.setCell ⟨b, 0, none⟩ vl').heap[g]? = w.heap[g]? := fun g hg hn hb => (m5.block g (by omega) hb).trans (m4.block g hg hn)
  have hq5 : PB (w4.setCell ⟨b, 0, none⟩ vl') w.heap.size x y := by
    refine (m5.block _ (by omega) (by omega)).trans ((hg.block _ (by omega) fun e => ?_).trans hpb)
    have := (hvl w.heap.size (mem_blk.2 e.symm)).1; omega
  have hGk : ∀ g ∈ x :: y :: b' :: (F ++ blk v), (w4.setCell ⟨b, 0, none⟩ vl').heap[g]? = w.heap[g]? := fun g hg => keep g (hG g hg).1 (fun q => (hvl g q).2.2.1 hg) (by have := (hG g hg).2; omega)
  have hvb : ∀ g ∈ blk vl', b < g ∧ (g ∈ blk vl ∨ w3.heap.size ≤ g) := fun g hg => by
    rcases ho with e | ⟨k, hk, e⟩
    · have : g ∈ blk vl := mem_blk.2 (by rw [← e]; exact mem_blk.1 hg)
      exact ⟨(hvl g this).2.1, .inl this⟩
    · have : k = g := by have := mem_blk.1 hg; rw [e] at this; exact Option.some.inj this
      exact ⟨by omega, .inr (by omega)⟩
  have hpair : PrM (N + 1) w.heap.size (x :: y :: b' :: (F ++ blk v)) (w4.setCell ⟨b, 0, none⟩ vl') := by
    refine ⟨x, y, b', F, v, il, V, ⟨hq5, (hGk x (by simp)).trans hst, (htr.mono (Nat.le_succ N)).keep fun g hg => hGk g (by rcases List.mem_cons.1 hg with e | e <;> simp [e]), (hGk y (by simp)).trans hrt, row_same hrow fun g hg _ => hGk g (by simp [mem_blk.2 hg]), hris, hval, by omega, h16, List.nodup_cons.2 ⟨fun q => ?_, hnd⟩⟩, rfl⟩
    have := (hG _ q).1; omega
  have hprs : ∀ p ∈ qs, ∀ g ∈ p.1 :: p.2, g < w.heap.size ∧ b < g ∧ g ∉ blk vl ∧ g ∉ x :: y :: b' :: (F ++ blk v) ∧ ¬ X g := fun p hp g hg => by
    have hm : g ∈ blk vl ++ prB qs := List.mem_append_right _ (prB_mem hp hg)
    have hf := h.far g hm
    exact ⟨h.trs.lt g hm, hf.1, fun q => (List.nodup_append.1 h.trs.nd).2.2 g q g (prB_mem hp hg) rfl, fun q => hf.2 (.inr q), fun q => hf.2 (.inl q)⟩
  have hB : prB (qs ++ [(w.heap.size, x :: y :: b' :: (F ++ blk v))]) = prB qs ++ ((w.heap.size :: x :: y :: b' :: (F ++ blk v)) ++ prB []) := prB_mid _ _ _
  have hmem : ∀ g ∈ blk vl' ++ prB (qs ++ [(w.heap.size, x :: y :: b' :: (F ++ blk v))]), g ∈ blk vl ++ prB qs ∨ g ∈ x :: y :: b' :: (F ++ blk v) ∨ w.heap.size ≤ g := fun g hg => by
    rw [hB] at hg
    rcases List.mem_append.1 hg with z | z
    · rcases (hvb g z).2 with q | q
      · exact .inl (List.mem_append_left _ q)
      · exact .inr (.inr (by omega))
    · rcases List.mem_append.1 z with z | z
      · exact .inl (List.mem_append_right _ z)
      · rcases List.mem_append.1 z with z | z
        · rcases List.mem_cons.1 z with e | z
          · exact .inr (.inr (by omega))
          · exact .inr (.inl z)
        · cases z
  refine ⟨rfl, ⟨vl', (w.heap.size, x :: y :: b' :: (F ++ blk v)), ⟨⟨?_, fun p hp => ?_, ?_⟩, ?_, fun g hg => ?_, fun g hg => ?_, ?_⟩⟩, ?_, fun g hg => ?_⟩
  · rw [List.map_append, List.length_append]
    exact m5.row hv fun g hg e => by have := (hvb g (mem_blk.2 hg)).1; omega
  · rcases List.mem_append.1 hp with z | z
    · exact ((h.trs.prs p z).mono (Nat.le_succ N)).keep fun g hg => by
        obtain ⟨q1, q2, q3, -⟩ := hprs p z g hg
        exact keep g q1 q3 (by omega)
    · rw [List.mem_singleton.1 z]; exact hpair
  · rw [hB]
    refine List.nodup_append.2 ⟨blk_nodup _, List.nodup_append.2 ⟨(List.nodup_append.1 h.trs.nd).2.1, by rw [show prB [] = [] from rfl, List.append_nil]; exact hpair.nd, fun a ha c hc e => ?_⟩, fun a ha c hc e => ?_⟩
    · subst e
      obtain ⟨p, hp, hap⟩ := List.mem_flatMap.1 ha
      obtain ⟨q1, -, -, q4, -⟩ := hprs p hp a hap
      rw [show prB [] = [] from rfl, List.append_nil] at hc
      rcases List.mem_cons.1 hc with e | hc
      · omega
      · exact q4 hc
    · subst e
      have hac : a ∈ prB qs ∨ a ∈ w.heap.size :: x :: y :: b' :: (F ++ blk v) := by
        rw [show prB [] = [] from rfl, List.append_nil] at hc
        exact List.mem_append.1 hc
      rcases (hvb a ha).2 with z | z
      · rcases hac with q | q
        · exact (hvl a z).2.2.2.2 q
        · rcases List.mem_cons.1 q with e | q
          · have := (hvl a z).1; omega
          · exact (hvl a z).2.2.1 q
      · rcases hac with q | q
        · have := h.trs.lt a (List.mem_append_right _ q); omega
        · rcases List.mem_cons.1 q with e | q
          · omega
          · have := (hG a q).1; omega
  · refine Bk.setl (h.bk.turn m4 (fun q => ?_) (fun g q => .inr (List.mem_append_left _ q)) (fun g hg => ?_)) vl'
    · have := (hvl b q).2.1; omega
    · rcases hg with hg | hg
      · exact .inl (.inl (.inl hg))
      · rcases hmem g hg with q | q | q
        · exact .inl (.inr q)
        · exact .inl (.inl (.inr q))
        · exact .inr q
  · rcases hmem g hg with q | q | q
    · exact ⟨(h.far g q).1, fun hx => (h.far g q).2 (.inl hx)⟩
    · exact ⟨(hG g q).2, hGX g q⟩
    · exact ⟨by omega, fun hx => by have := (h.xs g (.inl hx)).2; omega⟩
  · have := h.xs g (.inl hg); have := m5.size; omega
  · have := h.cnt; simp; omega
  · exact ⟨m5.os.trans m4.os, m5.tape.trans m4.tape, m5.output.trans m4.output, Nat.le_trans m4.size m5.size, fun g hg => keep g (by omega) (fun q => by have := (hvl g q).2.1; omega) (by omega)⟩
  · exact keep g (h.xs g (.inl hg)).2 (fun q => (hvl g q).2.2.2.1 hg) (by have := (h.xs g (.inl hg)).1; omega)
end Go.Proofs.YtolgpnaoaodepaaGreat
/- The lock's functions and types in this program. -/
namespace Go.Proofs.YtolgpnaoaodepaaGreat
open Go.RowKit

abbrev muLink : Go.Conc.Locks.MuLink := { lock := 34, unlock := 35, ilock := 58, iunlock := 59, lockSlow := 120, unlockSlow := 123, disable := 116, enable := 118, acquire := 119, relMerge := 121, cas32 := 117, add32 := 122, tMutex := 93, tIMutex := 91, tPMutex := 126, tPIMutex := 184, tPI32 := 186, tUP := 188, tNoCopy := 88, tU32 := 89 }
theorem muLib : Go.Conc.Locks.MuLib Tryz.prog muLink :=
  ⟨Tryz.func34, Tryz.func35, Tryz.func58, Tryz.func59, Tryz.func116, Tryz.func118, Tryz.func119, Tryz.func121, Tryz.func117, Tryz.func122,
    Tryz.underlying91, Tryz.runUnderlying91, Tryz.sizeOf91, Tryz.isAgg91, Tryz.zeroValue91,
    Tryz.underlying93, Tryz.runUnderlying93, Tryz.sizeOf93, Tryz.isAgg93, Tryz.zeroValue93,
    Tryz.underlying126, Tryz.runUnderlying126, Tryz.sizeOf126, Tryz.isAgg126, Tryz.zeroValue126,
    Tryz.underlying184, Tryz.runUnderlying184, Tryz.sizeOf184, Tryz.isAgg184, Tryz.zeroValue184,
    Tryz.underlying186, Tryz.runUnderlying186, Tryz.sizeOf186, Tryz.isAgg186, Tryz.zeroValue186,
    Tryz.underlying188, Tryz.runUnderlying188, Tryz.sizeOf188, Tryz.isAgg188, Tryz.zeroValue188,
    Tryz.underlying88, Tryz.runUnderlying88, Tryz.sizeOf88, Tryz.isAgg88, Tryz.zeroValue88,
    Tryz.underlying21, Tryz.runUnderlying21, Tryz.sizeOf21, Tryz.isAgg21, Tryz.zeroValue21, (by kernel_rfl)⟩
end Go.Proofs.YtolgpnaoaodepaaGreat
/- The walk of a tree's Make. -/
namespace Go.Proofs.YtolgpnaoaodepaaGreat
open Go.RowKit

/-- The change in its box, at the world's first new block. -/
structure CW (w : World) (k : Int) (key x : ByteArray) (W : World) : Prop where
  ch : ChB W w.heap.size k key x
  bel : Below w.heap.size w W
theorem CW.below {w : World} {k : Int} {key x : ByteArray} {W W' : World} (h : CW w k key x W) (hb : Below W.heap.size W W') : CW w k key x W' := ⟨(hb.block _ h.ch.lt).trans h.ch, h.bel.trans (hb.mono h.bel.size)⟩
theorem CW.drew {w : World} {k : Int} {key x : ByteArray} {W : World} (h : CW w k key x W) : CW w k key x W.drew := h.below (Below.refl _ W).drew
theorem ChB.set1 {w : World} {b : Nat} {k : Int} {key x : ByteArray} (h : ChB w b k key x) : ChB (w.setCell ⟨b, 1, none⟩ (.string key)) b k key x := by unfold ChB at *; rw [heap_setCell_at (i := 1) h]; rfl
theorem ChB.set2 {w : World} {b : Nat} {k : Int} {key x : ByteArray} (h : ChB w b k key x) : ChB (w.setCell ⟨b, 2, none⟩ (.string x)) b k key x := by unfold ChB at *; rw [heap_setCell_at (i := 2) h]; rfl
theorem ChB.froz {w : World} {b : Nat} {k : Int} {key x : ByteArray} (h : ChB w b k key x) : w.frozen? ⟨b, 0, none⟩ = false ∧ w.frozen? ⟨b, 1, none⟩ = false ∧ w.frozen? ⟨b, 2, none⟩ = false := by
  unfold ChB at h
  refine ⟨?_, ?_, ?_⟩ <;> simp [World.frozen?, h]
theorem CW.stores {w : World} {k : Int} {key x : ByteArray} {W : World} (h : CW w k key x W) : CW w k key x ((W.setCell ⟨w.heap.size, 1, none⟩ (.string key)).setCell ⟨w.heap.size, 2, none⟩ (.string x)) :=
  ⟨h.ch.set1.set2, (h.bel.setCell (p := ⟨w.heap.size, 1, none⟩) (Nat.le_refl _) _).setCell (p := ⟨w.heap.size, 2, none⟩) (Nat.le_refl _) _⟩
/-- One change, as a list. -/
theorem row_change (W : World) (k : Int) (key x : ByteArray) : OwnsC 0 (W.alloc (.cells #[.int .i64 k, .string key, .string x] 34)) (.slice (some ⟨W.heap.size, 0, none⟩) 1 1) [(k, key, x)] :=
  ⟨rfl, .inr ⟨W.heap.size, 1, #[.int .i64 k, .string key, .string x], rfl, Nat.zero_le _, heap_alloc_new _ _, Nat.le_refl _, by unfold maxLen; omega, by simp, by simp [ccells]⟩⟩
/-- A tree within Make: its parts. -/
structure MkP (V : Tr.Key → Option Tr.Key) (N b : Nat) (F : List Nat) (w : World) (h : Nat) (v : Value) (pl : List (ByteArray × Nat)) (ps : List (Tr.Key × Tr.TreeT h)) (G : List Nat) (W : World) : Prop where
  tb : ∃ p, TB W b p
  row : OwnsP 0 W v pl
  kids : Kids (Rep h W) pl ps G
  nd : (blk v ++ G).Nodup
  lvl : Tr.Lvl V N h ps
  gone : Gone (b :: F) (blk v ++ G) w W
  nb : b ∉ blk v ++ G
theorem MkP.start {V : Tr.Key → Option Tr.Key} {N b : Nat} {F : List Nat} {w : World} {h p : Nat} {t : Tr.TreeT h} {F1 : List Nat} {W W' : World} {v : Value} {pl : List (ByteArray × Nat)} {G : List Nat} (htb : TB W b p) (hw : Tr.WF h [] none t) (hs : Tr.Small h t) (hv : ∀ k, Tr.val h t k = V k) (hN : Tr.wt h t ≤ N) (hg : Gone (b :: F) (b :: F1) w W) (hb1 : b ∉ F1) (hq : CtQ h W (Tr.cutT h [] t) v pl G W') (hG : ∀ g ∈ G, g ∈ F1 ∨ W.heap.size ≤ g) (hb : Below W.heap.size W W') : MkP V N b F w h v pl (Tr.cutT h [] t) G W' := by
  have hvn := blk_new hq.row
  have hsub : ∀ g ∈ blk v ++ G, g ∈ F1 ∨ W.heap.size ≤ g := fun g hg => (List.mem_append.1 hg).elim (fun q => .inr (hvn g q)) (hG g)
  refine ⟨⟨p, htb.keep (hb.block b htb.lt)⟩, row_zero hq.row, hq.kids, hq.nd, Tr.Lvl.start hw hs hv hN, ⟨(hg.trans (Gone.below hb)).1, fun g hgg => ?_⟩, fun q => ?_⟩
  · rcases hsub g hgg with z | z
    · exact hg.2 g (List.mem_cons_of_mem _ z)
    · exact .inr (Nat.le_trans hg.1.size z)
  · rcases hsub b q with z | z
    · exact hb1 z
    · have := htb.lt; omega
/-- Parts that stand below a new node. -/
theorem MkP.node {V : Tr.Key → Option Tr.Key} {N b : Nat} {F : List Nat} {w : World} {h : Nat} {v : Value} {pl : List (ByteArray × Nat)} {ps : List (Tr.Key × Tr.TreeT h)} {G : List Nat} {W : World} (hm : MkP V N b F w h v pl ps G W) : Rep (h + 1) (W.alloc (.cells #[.slice none 0 0, v, .slice none 0 0] 123)) W.heap.size (Tr.brT ps []) (W.heap.size :: (blk v ++ G)) ∧ (W.heap.size :: (blk v ++ G)).Nodup ∧ (∀ g ∈ blk v ++ G, g < W.heap.size) := by
  have hlt : ∀ g ∈ blk v ++ G, g < W.heap.size := fun g hg => (List.mem_append.1 hg).elim (fun q => (World.ownsRow.lt hm.row g (mem_blk.1 q)).2) (fun q => hm.kids.lt g q)
  have hb : Below W.heap.size W (W.alloc (.cells #[.slice none 0 0, v, .slice none 0 0] 123)) := (Below.refl _ W).alloc (Nat.le_refl _) _
  refine ⟨⟨v, .slice none 0 0, pl, [], G, heap_alloc_new _ _, row_below hm.row hb (Nat.le_refl _), World.ownsRow_nil _ _ _ _, rfl, hm.kids.keep fun g hg => hb.block g (hlt g (List.mem_append_right _ hg)), by simp [blk, Value.ownBlock]⟩, List.nodup_cons.2 ⟨fun q => by have := hlt _ q; omega, hm.nd⟩, hlt⟩
theorem MkP.up {V : Tr.Key → Option Tr.Key} {N b : Nat} {F : List Nat} {w : World} {h : Nat} {v v' : Value} {pl pl' : List (ByteArray × Nat)} {ps : List (Tr.Key × Tr.TreeT h)} {G G' : List Nat} {W W' : World} (hm : MkP V N b F w h v pl ps G W) (hq : CtQ (h + 1) (W.alloc (.cells #[.slice none 0 0, v, .slice none 0 0] 123)) (Tr.cutT (h + 1) [] (Tr.brT ps [])) v' pl' G' W') (hG : ∀ g ∈ G', g ∈ W.heap.size :: (blk v ++ G) ∨ (W.alloc (.cells #[.slice none 0 0, v, .slice none 0 0] 123)).heap.size ≤ g) (hb : Below (W.alloc (.cells #[.slice none 0 0, v, .slice none 0 0] 123)).heap.size (W.alloc (.cells #[.slice none 0 0, v, .slice none 0 0] 123)) W') : MkP V N b F w (h + 1) v' pl' (Tr.cutT (h + 1) [] (Tr.brT ps [])) G' W' := by
  obtain ⟨p, htb⟩ := hm.tb
  have hb1 : Below W.heap.size W (W.alloc (.cells #[.slice none 0 0, v, .slice none 0 0] 123)) := (Below.refl _ W).alloc (Nat.le_refl _) _
  have hb2 : Below W.heap.size W W' := hb1.trans (hb.mono hb1.size)
  have hs1 := hb1.size
  have hvn := blk_new hq.row
  have hsub : ∀ g ∈ blk v' ++ G', g ∈ blk v ++ G ∨ W.heap.size ≤ g := fun g hg => (List.mem_append.1 hg).elim (fun q => .inr (by have := hvn g q; omega)) (fun q => (hG g q).elim (fun z => (List.mem_cons.1 z).elim (fun e => .inr (by omega)) .inl) (fun z => .inr (by omega)))
  refine ⟨⟨p, htb.keep (hb2.block b htb.lt)⟩, row_zero hq.row, hq.kids, hq.nd, hm.lvl.up, ⟨(hm.gone.trans (Gone.below hb2)).1, fun g hgg => ?_⟩, fun q => ?_⟩
  · rcases hsub g hgg with z | z
    · exact hm.gone.2 g z
    · exact .inr (Nat.le_trans hm.gone.1.size z)
  · rcases hsub b q with z | z
    · exact hm.nb z
    · have := htb.lt; omega
/-- One part alone becomes the tree. -/
theorem MkP.root {V : Tr.Key → Option Tr.Key} {N b : Nat} {F : List Nat} {w : World} {h : Nat} {v : Value} {x : ByteArray × Nat} {ps : List (Tr.Key × Tr.TreeT h)} {G : List Nat} {W : World} (hm : MkP V N b F w h v [x] ps G W) : ∃ t, TreQ V N b h x.2 t G (W.setCell ⟨b, 0, none⟩ (.pointer (some ⟨x.2, 0, none⟩))) ∧ Gone (b :: F) (b :: G) w (W.setCell ⟨b, 0, none⟩ (.pointer (some ⟨x.2, 0, none⟩))) := by
  obtain ⟨p, htb⟩ := hm.tb
  have hk := hm.kids
  have hl := hm.lvl
  match ps, hk, hl with
  | [(f, t)], ⟨e, G1, G2, r1, e2, eG⟩, hl =>
    have e2 : G2 = [] := e2
    subst e2
    rw [List.append_nil] at eG
    subst eG
    have m := Mod.setCell W b 0 (.pointer (some ⟨x.2, 0, none⟩))
    have hne : ∀ g ∈ G, g ≠ b := fun g hg q => hm.nb (by rw [← q]; exact List.mem_append_right _ hg)
    refine ⟨t, ⟨htb.set _, r1.keep fun g hg => m.block g (r1.lt g hg) (hne g hg), (List.nodup_append.1 hm.nd).2.1, fun q => hm.nb (List.mem_append_right _ q), hl.root⟩, hm.gone.1.trans m (fun _ _ q => q) (fun g _ q => by simp [q]), fun g hg => ?_⟩
    rcases List.mem_cons.1 hg with q | q
    · exact .inl (by simp [q])
    · exact hm.gone.2 g (List.mem_append_right _ q)
/-- A branch that its child can stand for. -/
theorem TreQ.idle {V : Tr.Key → Option Tr.Key} {N b h p : Nat} {ps : List (Tr.Key × Tr.TreeT h)} {F : List Nat} {w : World} (hq : TreQ V N b (h + 1) p (Tr.brT ps []) F w) (h1 : ps.length = 1) : ∃ g cap a c q, NodT w p (.slice none 0 0) (.slice (some ⟨g, 0, none⟩) 1 cap) (.slice a 0 c) ∧ w.cell? ⟨g, 1, none⟩ = some (.pointer (some ⟨q, 0, none⟩)) ∧ 1 ≤ cap ∧ ∃ t F', TreQ V N b h q t F' (w.setCell ⟨b, 0, none⟩ (.pointer (some ⟨q, 0, none⟩))) ∧ Gone (b :: F) (b :: F') w (w.setCell ⟨b, 0, none⟩ (.pointer (some ⟨q, 0, none⟩))) := by
  have hroot := hq.root
  have hnd := hq.nd
  have hnb := hq.nb
  obtain ⟨vp, vc, pl, ml, G, hn, hop, hoc, e, hk, rfl⟩ := hq.rep
  have hml : ml = [] := List.eq_nil_of_length_eq_zero (by rw [← plainCh_len ml, e]; rfl)
  subst hml
  obtain ⟨a, c, rfl⟩ := rowShape hoc
  match ps, h1, pl, hk, hop, hroot with
  | [(f, t)], _, [x], ⟨ex, G1, G2, r1, e2, eG⟩, hop, hroot =>
    have e2 : G2 = [] := e2
    subst e2
    rw [List.append_nil] at eG
    subst eG
    obtain ⟨g, cap, rfl, hcap, -, hg, x0, x1⟩ := hop.at 0 (by simp)
    have m := Mod.setCell w b 0 (.pointer (some ⟨x.2, 0, none⟩))
    have hne : ∀ g ∈ G, g ≠ b := fun g hg q => hnb (by rw [← q]; simp [hg])
    refine ⟨g, cap, a, c, x.2, hn, by simpa using x1, hcap, t, G, ⟨hq.tb.set _, r1.keep fun g hg => m.block g (r1.lt g hg) (hne g hg), ?_, fun q => hne b q rfl, hroot.idle⟩, m.mono (fun g _ q => by simp [q]), fun g hg => .inl ?_⟩
    · have h2 := (List.nodup_cons.1 hnd).2
      exact (List.nodup_append.1 (List.nodup_append.1 h2).2.1).2.1
    · rcases List.mem_cons.1 hg with q | q
      · simp [q]
      · simp [q]
def lenOf (v : Value) : Nat := match v with
  | .slice _ n _ => n
  | _ => 0

set_option maxHeartbeats 1000000 in
set_option maxRecDepth 20000 in
theorem tMake_any (V : Tr.Key → Option Tr.Key) (N b : Nat) (F : List Nat) (k : Int) (key x : ByteArray) (w : World) (ht : TreM V N b F w) (hN : N + 1 ≤ 90000) (hc : Tr.okCh (chP k key x)) :
    Calls Tryz.prog 37 #[.pointer (some ⟨b, 0, none⟩), .agg #[.int .i64 k, .string key, .string x]] w fun r w' => r = .returned (.tuple #[]) ∧ ∃ F', TreM (fun k' => Tr.one k' (V k') (chP k key x)) (N + 1) b F' w' ∧ Gone (b :: F) (b :: F') w w' := by
  obtain ⟨h, p, t, hh, hq⟩ := ht
  have hks : key.size ≤ 12 ∧ x.size ≤ 16 := by
    obtain ⟨h1, h2⟩ := Tr.okCh_key hc
    unfold Pg.isKey at h1
    simp only [Bool.and_eq_true, decide_eq_true_eq] at h1
    have h1' : key.data.toList.length ≤ 12 := h1.2
    have h2' : x.data.toList.length ≤ 16 := h2
    exact ⟨by simpa using h1', by simpa using h2'⟩
  obtain ⟨hks1, hks2⟩ := hks
  have hb0 : Below w.heap.size w (w.alloc (.cells #[.int .i64 k, .string key, .string x] 34)) := (Below.refl _ w).alloc (Nat.le_refl _) _
  have HC0 : Hid (CW w k key x (w.alloc (.cells #[.int .i64 k, .string key, .string x] 34))) := ⟨heap_alloc_new _ _, hb0⟩
  obtain ⟨c0, c1, c2⟩ := HC0.out.ch.cells
  have HCL := hid (fun W => clone_any key W (by omega))
  have HCM := hid (fun W => clone_any x W (by omega))
  have HBLT := hid hq.tb.lt
  have HTB : Hid (∀ W, CW w k key x W → TB W b p) := fun W hW => hq.tb.keep (hW.bel.block b hq.tb.lt)
  have HTK : Hid (∀ W, CW w k key x W → Calls Tryz.prog 63 #[.pointer (some ⟨p, 0, none⟩), .slice (some ⟨W.heap.size, 0, none⟩) 1 1] (W.alloc (.cells #[.int .i64 k, .string key, .string x] 34)) fun r w3 => r = .returned (.tuple #[]) ∧ TB w3 b p ∧ Calls Tryz.prog 64 #[.agg #[.string ⟨#[]⟩, .pointer (some ⟨p, 0, none⟩)]] w3 fun r w4 => ∃ v pl ps G, r = .returned v ∧ MkP (fun k' => Tr.one k' (V k') (chP k key x)) (N + 1) b F w h v pl ps G w4) := by
    intro W hW
    have hb1 : Below W.heap.size W (W.alloc (.cells #[.int .i64 k, .string key, .string x] 34)) := (Below.refl _ W).alloc (Nat.le_refl _) _
    have hb2 : Below w.heap.size w (W.alloc (.cells #[.int .i64 k, .string key, .string x] 34)) := hW.bel.trans (hb1.mono hW.bel.size)
    have hlt := hq.rep.lt
    refine (takeT_any h p t F _ _ [(k, key, x)] [] none (hq.rep.keep fun g hg => hb2.block g (hlt g hg)) hq.nd hq.root.wf hq.root.top Tr.room_all (row_change W k key x) (fun g hg q => ?_) (fun c hc' => ?_) ?_).mono ?_
    · have e : W.heap.size = g := Option.some.inj hg
      have := hlt g q
      have := hW.bel.size
      omega
    · have e : c = chP k key x := List.mem_singleton.1 hc'
      rw [e]; exact ⟨Tr.inR_all _, hc⟩
    · have := hq.root.wt
      show _ + 1 ≤ _
      omega
    · rintro r w3 ⟨rfl, t', F', hnew, hwt, hval⟩
      have hbW : b < (W.alloc (.cells #[.int .i64 k, .string key, .string x] 34)).heap.size := Nat.lt_of_lt_of_le hq.tb.lt hb2.size
      have htb3 : TB w3 b p := hq.tb.keep ((hnew.mod.block b hbW hq.nb).trans (hb2.block b hq.tb.lt))
      have hwt' : Tr.wt h t' ≤ N + 1 := by have := hq.root.wt; have h2 : Tr.wt h t' ≤ Tr.wt h t + 1 := hwt; omega
      have hg3 : Gone (b :: F) (b :: F') w w3 := by
        refine ⟨(Mod.of_below (F := fun g => g ∈ b :: F) hb2).trans hnew.mod (fun _ _ q => q) (fun g _ q => List.mem_cons_of_mem _ q), fun g hg => ?_⟩
        rcases List.mem_cons.1 hg with q | q
        · exact .inl (by simp [q])
        · exact (hnew.sub g q).imp (fun z => List.mem_cons_of_mem _ z) (fun z => Nat.le_trans hb2.size z)
      have hb3 : b ∉ F' := fun q => by
        rcases hnew.sub b q with z | z
        · exact hq.nb z
        · omega
      refine ⟨rfl, htb3, ?_⟩
      refine (cut_any h ⟨#[]⟩ p t' F' w3 hnew.rep hnew.nd [] none hnew.wf (by omega)).mono ?_
      rintro r w4 ⟨v, pl, G, rfl, hct, hG, hb4⟩
      refine ⟨v, pl, _, G, rfl, MkP.start htb3 hnew.wf hnew.small (fun k' => ?_) hwt' hg3 hb3 hct hG hb4⟩
      rw [hval k' (Tr.inR_all k'), hq.root.val]; rfl
  clear hb0 hq hc
  generalize hV : (fun k' => Tr.one k' (V k') (chP k key x)) = V' at *
  go_enter Tryz.func37, Tryz.ntmps37
  go_upto_region 1 with fail
  go_cut [12] (fun _ wx => CW w k key x wx)
  case first =>
    go_region_law (first
      | (go_simp; go_at_call 62; refine (HCL.out (World.drew (w.alloc (.cells #[.int .i64 k, .string key, .string x] 34)))).mono ?_; rintro r w3 ⟨rfl, hb3⟩; have HC3 := hid (HC0.out.drew.below hb3); obtain ⟨d0, d1, d2⟩ := HC3.out.ch.cells; obtain ⟨f0, f1, f2⟩ := HC3.out.ch.froz; clear hb3)
      | (go_simp; go_at_call 62; refine (HCM.out (World.drew (w.alloc (.cells #[.int .i64 k, .string key, .string x] 34)))).mono ?_; rintro r w3 ⟨rfl, hb3⟩; have HC3 := hid (HC0.out.drew.below hb3); obtain ⟨d0, d1, d2⟩ := HC3.out.ch.cells; obtain ⟨f0, f1, f2⟩ := HC3.out.ch.froz; clear hb3)
      | (go_simp; go_at_call 62; refine (HCL.out w3).mono ?_; rintro r w4 ⟨rfl, hb4⟩; have HC4 := hid (HC3.out.below hb4); obtain ⟨e0, e1, e2⟩ := HC4.out.ch.cells; obtain ⟨h0, h1, h2⟩ := HC4.out.ch.froz; clear hb4)
      | (go_simp; go_at_call 62; refine (HCM.out w3).mono ?_; rintro r w4 ⟨rfl, hb4⟩; have HC4 := hid (HC3.out.below hb4); obtain ⟨e0, e1, e2⟩ := HC4.out.ch.cells; obtain ⟨h0, h1, h2⟩ := HC4.out.ch.froz; clear hb4))
    all_goals
      go_wp2_with fail
      go_meet
      exact HC4.out.stores
  case rest =>
    have HC := hid hcut
    obtain ⟨d0, d1, d2⟩ := hcut.ch.cells
    obtain ⟨t0, t1⟩ := (HTB.out wc hcut).cells
    have hb5 : Below wc.heap.size wc (wc.alloc (.cells #[.int .i64 k, .string key, .string x] 34)) := (Below.refl _ wc).alloc (Nat.le_refl _) _
    obtain ⟨t2, t3⟩ := (HTB.out _ (hcut.below hb5)).cells
    have HTK1 := hid (HTK.out wc.drew hcut.drew)
    clear hcut hb5 c0 c1 c2 HTK
    go_upto_region 2 with fail
    go_cut [19] (fun _ wx => TB wx b p ∧ Calls Tryz.prog 64 #[.agg #[.string ⟨#[]⟩, .pointer (some ⟨p, 0, none⟩)]] wx fun r w4 => ∃ v pl ps G, r = .returned v ∧ MkP V' (N + 1) b F w h v pl ps G w4)
    case first =>
      go_region_law (go_simp; go_at_call 63; refine HTK1.out.mono ?_; rintro r w3 ⟨rfl, htb3, hct3⟩; have HCT := hid (And.intro htb3 hct3); clear htb3 hct3)
      all_goals
        go_wp2_with fail
        go_meet
        exact HCT.out
    case rest =>
      obtain ⟨htb, hct⟩ := hcut
      have HCT := hid hct
      obtain ⟨t4, t5⟩ := htb.cells
      clear htb hct HTK1 HC t0 t1 t2 t3 d0 d1 d2
      go_wp2_with fail
      refine HCT.out.mono ?_
      rintro r w4 ⟨v, pl, ps, G, rfl, hm⟩
      have HM0 := hid hm
      clear hm HCT t4 t5
      go_wp2_with fail
      go_loopw [4] (fun v4 wr => ∃ h1 pl ps G, h1 + pl.length ≤ h + (N + 1) ∧ MkP V' (N + 1) b F w h1 v4 pl ps G wr) (fun v4 _ => lenOf v4)
      case atStart => exact ⟨_, _, _, _, by have h1 := HM0.out.kids.len; have h2 := HM0.out.lvl.len; omega, HM0.out⟩
      case round =>
        obtain ⟨h1, pl1, ps1, G1, hhb, hm1⟩ := hrel
        have HHB := hid hhb
        clear hhb
        have HM := hid hm1
        obtain ⟨a1, c1, rfl⟩ := rowShape hm1.row
        have HLEN := hid hm1.kids.len
        have hpl : pl1.length ≤ 90000 := by rw [hm1.kids.len]; have := hm1.lvl.len; omega
        clear hm1
        by_cases hone : 1 < pl1.length
        · obtain ⟨hr, hnd, hlt⟩ := HM.out.node
          have HCU := hid (cut_any (h1 + 1) ⟨#[]⟩ wr.heap.size (Tr.brT ps1 []) _ _ hr hnd [] none HM.out.lvl.wf.1 (by have := HM.out.lvl.wtb; omega))
          clear hr hnd hlt
          go_wp2_with fail
          refine HCU.out.mono ?_
          rintro r w5 ⟨v5, pl5, G5, rfl, hq5, hG5, hb5⟩
          have HM5 := hid (HM.out.up hq5 hG5 hb5)
          have hl5 : pl5.length < pl1.length := by
            rw [hq5.kids.len, HLEN.out]
            exact Tr.up_len (by rw [← HLEN.out]; exact hone)
          obtain ⟨a5, c5, rfl⟩ := rowShape hq5.row
          clear hq5 hG5 hb5 HCU
          go_wp2_with fail
          exact ⟨⟨_, _, _, _, by have := HHB.out; omega, HM5.out⟩, hl5⟩
        · have hpos := HM.out.lvl.pos
          obtain ⟨x1, rfl⟩ : ∃ x1, pl1 = [x1] := by
            match pl1, hone, HLEN.out with
            | [x1], _, _ => exact ⟨x1, rfl⟩
            | [], _, hlen => rw [← hlen] at hpos; simp at hpos
            | _ :: _ :: _, hone, _ => simp at hone
          have HH1 : Hid (h1 ≤ (N + 1) * 100000) := by
            show _ ≤ _
            have := HHB.out
            rw [List.length_singleton] at this
            omega
          clear HHB
          obtain ⟨p1, htb1⟩ := HM.out.tb
          obtain ⟨s0, s1⟩ := htb1.cells
          obtain ⟨g, cap, e, hcap, -, hg, y0, y1⟩ := HM.out.row.at 0 (by simp)
          simp only [Value.slice.injEq] at e
          obtain ⟨rfl, -, rfl⟩ := e
          obtain ⟨t1, hq1, hg1⟩ := HM.out.root
          have HQ1 := hid hq1
          have HG1 := hid hg1
          simp only [List.getElem_cons_zero, Nat.zero_mul, Nat.zero_add] at y0 y1
          clear htb1 hq1 hg1 hpos hone HLEN
          rw [List.length_singleton]
          go_wp2_with fail
          go_loopw [45] (fun _ wr => ∃ h2 p2 t2 F2, h2 ≤ h1 ∧ TreQ V' (N + 1) b h2 p2 t2 F2 wr ∧ Gone (b :: F) (b :: F2) w wr) (fun _ wr => rootH h1 b wr)
          case atStart => exact ⟨_, _, _, _, Nat.le_refl _, HQ1.out, HG1.out⟩
          case round =>
            obtain ⟨h2, p2, t2, F2, hh2, hq2, hg2⟩ := hrel
            have HQ2 := hid hq2
            have HG2 := hid hg2
            obtain ⟨z0, z1⟩ := hq2.tb.cells
            clear hq2 hg2 s0 s1 y0 y1
            by_cases hidle : ∃ (h3 : Nat) (e : h2 = h3 + 1) (ps : List (Tr.Key × Tr.TreeT h3)), ps.length = 1 ∧ TreQ V' (N + 1) b (h3 + 1) p2 (Tr.brT ps []) F2 wr
            · obtain ⟨h3, e3, ps3, hl3, hq3⟩ := hidle
              obtain ⟨g3, cap3, a3, c3, q3, hn3, hc3, hcap3, t4, F4, hq4, hg4⟩ := hq3.idle hl3
              have HID := hid (tIsIdle_any p2 _ _ _ _ _ _ _ wr hn3)
              obtain ⟨m0, m1, m2, -⟩ := hn3.cells
              have HQ4 := hid hq4
              have HG4 := hid (HG2.out.trans hg4)
              have HR3 := hid (rootH_at hq3 (n := h1) (by omega))
              have HR4 := hid (rootH_at hq4 (n := h1) (by omega))
              clear hn3 hq4 hg4 hq3 HQ2
              go_wp2_with fail
              refine HID.out.mono ?_
              rintro r wr ⟨rfl, rfl⟩
              go_wp2_with fail
              first
                | exact ⟨⟨_, _, _, _, by omega, HQ4.out, HG4.out⟩, by rw [HR3.out, HR4.out]; omega⟩
                | (go_roundw; case rel => exact ⟨_, _, _, _, by omega, HQ4.out, HG4.out⟩; case measure => rw [HR3.out, HR4.out]; omega)
                | (trace_state; fail)
            · have HNI : Hid (∃ (vi : Value) (a a' : Option Addr) (n c n' c' : Nat), NodT wr p2 vi (.slice a n c) (.slice a' n' c') ∧ (decide (n = 1) && decide (n' = 0)) = false) := by
                have hq2 := HQ2.out
                match h2, t2, hq2, hidle with
                | 0, t2, hq2, _ =>
                  obtain ⟨vi, il, hn, -⟩ := hq2.rep
                  exact ⟨vi, none, none, 0, 0, 0, 0, hn, rfl⟩
                | h3 + 1, (ps, cs), hq2, hidle =>
                  obtain ⟨vp, vc, pl, ml, G, hn, hop, hoc, e, hk, eF⟩ := hq2.rep
                  obtain ⟨a, c, rfl⟩ := rowShape hop
                  obtain ⟨a', c', rfl⟩ := rowShape hoc
                  refine ⟨_, a, a', _, c, _, c', hn, ?_⟩
                  refine Bool.eq_false_iff.2 fun q => hidle ?_
                  simp only [Bool.and_eq_true, decide_eq_true_eq] at q
                  have hml : ml = [] := List.eq_nil_of_length_eq_zero q.2
                  subst hml
                  have hcs : cs = [] := e.symm
                  subst hcs
                  exact ⟨h3, rfl, ps, by rw [← hk.len]; exact q.1, hq2⟩
              obtain ⟨vi, a, a', n, c, n', c', hn, hb⟩ := HNI.out
              have HID := hid (tIsIdle_any p2 vi a a' n c n' c' wr hn)
              rw [hb] at HID
              clear hn hb HNI hidle
              go_wp2_with fail
              refine HID.out.mono ?_
              rintro r wr ⟨rfl, rfl⟩
              go_wp2_with fail
              go_end0
              exact ⟨rfl, F2, ⟨h2, p2, t2, Nat.le_trans hh2 HH1.out, HQ2.out⟩, HG2.out⟩
end Go.Proofs.YtolgpnaoaodepaaGreat
/- A new tree. -/
namespace Go.Proofs.YtolgpnaoaodepaaGreat
open Go.RowKit

theorem root_new : Tr.Root (fun _ => none) 1 0 (Tr.lf []) := by
  refine ⟨⟨List.Pairwise.nil, fun x hx => by cases hx⟩, Nat.zero_le _, fun _ => rfl, ?_⟩
  show 1 + (([] : List Tr.It).length - 16) ≤ 1
  simp

set_option maxHeartbeats 400000 in
theorem tNew_any (w : World) :
    Calls Tryz.prog 31 #[] w fun r w' => ∃ b F, r = .returned (.pointer (some ⟨b, 0, none⟩)) ∧ TreM (fun _ => none) 1 b F w' ∧ (∀ g ∈ b :: F, w.heap.size ≤ g) ∧ Below w.heap.size w w' := by
  have h1 := heap_alloc_new w (.cells #[.slice none 0 0, .slice none 0 0, .slice none 0 0] 123)
  have b1 : Below w.heap.size w (w.alloc (.cells #[.slice none 0 0, .slice none 0 0, .slice none 0 0] 123)) := (Below.refl _ w).alloc (Nat.le_refl _) _
  have z1 : (w.alloc (.cells #[.slice none 0 0, .slice none 0 0, .slice none 0 0] 123)).heap.size = w.heap.size + 1 := by simp
  have HF : Hid (TreM (fun _ => none) 1 (w.heap.size + 1) [w.heap.size] ((w.alloc (.cells #[.slice none 0 0, .slice none 0 0, .slice none 0 0] 123)).alloc (.cells #[.pointer (some ⟨w.heap.size, 0, none⟩)] 125)) ∧ Below w.heap.size w ((w.alloc (.cells #[.slice none 0 0, .slice none 0 0, .slice none 0 0] 123)).alloc (.cells #[.pointer (some ⟨w.heap.size, 0, none⟩)] 125))) := by
    generalize w.alloc (.cells #[.slice none 0 0, .slice none 0 0, .slice none 0 0] 123) = w1 at *
    have h2 := heap_alloc_new w1 (.cells #[.pointer (some ⟨w.heap.size, 0, none⟩)] 125)
    have b2 : Below w1.heap.size w1 (w1.alloc (.cells #[.pointer (some ⟨w.heap.size, 0, none⟩)] 125)) := (Below.refl _ w1).alloc (Nat.le_refl _) _
    rw [z1] at h2
    refine ⟨⟨0, w.heap.size, Tr.lf [], Nat.zero_le _, h2, ⟨.slice none 0 0, [], (b2.block _ (by omega)).trans h1, World.ownsRow_nil _ _ _ _, rfl, rfl⟩, by simp, by simp, root_new⟩, b1.trans (b2.mono (by omega))⟩
  clear h1 b1 z1
  go_enter Tryz.func31, Tryz.ntmps31
  go_wp2_with fail
  go_ret
  exact ⟨_, _, rfl, HF.out.1, fun g hg => by rcases List.mem_cons.1 hg with e | e; · omega
                                             · rw [List.mem_singleton.1 e]; exact Nat.le_refl _, HF.out.2⟩
end Go.Proofs.YtolgpnaoaodepaaGreat
