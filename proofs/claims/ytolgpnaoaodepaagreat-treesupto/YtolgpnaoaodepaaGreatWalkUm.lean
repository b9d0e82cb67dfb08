/- The walks of pages' Write and of silt's Write. -/
import Derived.Test.YtolgpnaoaodepaaGreatWalkQm
import Derived.Lib.BufferWrite
import Derived.Lib.UnsafeStr
import Derived.Test.YtolgpnaoaodepaaGreatTreZVm
import Derived.Test.YtolgpnaoaodepaaGreatLawSm
import Derived.Test.YtolgpnaoaodepaaGreatSilAm
namespace Go.Proofs.YtolgpnaoaodepaaGreat
open Go.RowKit

end Go.Proofs.YtolgpnaoaodepaaGreat
/- The walks of strings.Clone and of package wire's Reader. -/
namespace Go.Proofs.YtolgpnaoaodepaaGreat
open Go.RowKit

theorem cells_u8 : Tryz.prog.cellsOf 5 = 1 := by kernel_rfl
set_option maxHeartbeats 1000000 in
set_option maxRecDepth 20000 in
theorem sliteClone_any (s : ByteArray) (w : World) (hs : s.size ≤ 35184372088832) :
    Calls Tryz.prog 124 #[.string s] w fun r w' => r = .returned (.string s) ∧ Below w.heap.size w w' := by
  by_cases h0 : s.size = 0
  · have he : s = ⟨#[]⟩ := ByteArray.ext (Array.eq_empty_of_size_eq_zero h0)
    subst he
    go_enter Tryz.func124, Tryz.ntmps124
    go_wp2_with fail
    go_ret
    exact ⟨rfl, Below.refl _ _⟩
  · obtain ⟨i, hi, hz0, hz1, hz2⟩ := info_parts info_u8
    obtain ⟨Z, hZ⟩ : ∃ Z, Z = madeCells (Value.int .u8 0).cells (((s.size : Nat) : Int).toNat * i.size) := ⟨_, rfl⟩
    have hZs : Z.size = s.size := by rw [hZ, size_madeCells, hz1]; simp
    have mk : ∀ W : World, (Instr.makeSlice 108 (.int .i64 (s.size : Int)) (.int .i64 (s.size : Int))).run Tryz.prog W = .ok (.slice (some ⟨W.heap.size, 0, none⟩) s.size s.size) (W.alloc (.cells Z 5)) := fun W => by
      have h := run_make (P := Tryz.prog) W 108 5 i (.int .u8 0) Tryz.underlying108 hi hz0 .i64 .i64 (s.size : Int) (s.size : Int) (by omega) (by omega) (by rw [hz2]; omega) (by omega)
      rw [← hZ] at h
      simpa using h
    clear hZ
    have cp := Lib.run_copy_row_string (P := Tryz.prog) (w.alloc (.cells Z 5)) 108 9 3 5 w.heap.size 0 s.size s.size s Z 5 Tryz.underlying108 (by rw [hi]; simp [hz1]) (heap_alloc_new w _) (Nat.le_refl _) (by omega)
    obtain ⟨Y, hY⟩ : ∃ Y, Y = (Z.toList.take 0 ++ Lib.byteCells s.data.toList ++ Z.toList.drop (0 + s.size)).toArray := ⟨_, rfl⟩
    have hYl : Y.toList = Lib.byteCells s.data.toList := by
      rw [hY, List.toList_toArray, List.take_zero, List.nil_append, List.drop_of_length_le (by rw [Array.length_toList]; omega), List.append_nil]
    have hYs : Y.size = s.size := by rw [← Array.length_toList, hYl, Lib.byteCells_length, len_size]
    rw [← hY] at cp
    have hg : ((w.alloc (.cells Z 5)).setRow w.heap.size Y).heap[w.heap.size]? = some (.cells Y 5 (0, 0)) := setRow_heap _ _ Z _ 5 (0, 0) (heap_alloc_new w _)
    have us := Lib.run_unsafeString_row (P := Tryz.prog) ((w.alloc (.cells Z 5)).setRow w.heap.size Y) 223 3 9 5 Tryz.underlying223 cells_u8 w.heap.size Y.size (by unfold World.shape?; rw [hg]) s.data.toList (fun e => h0 (by rw [← len_size, e]; rfl)) (by rw [len_size]; omega) (by rw [len_size]; omega)
      (fun j x hx => Lib.cells_of_row hg Y.size j _ (by rw [List.take_of_length_le (by rw [Array.length_toList]; exact Nat.le_refl _), hYl]; simp [Lib.byteCells, hx]))
    rw [len_size] at us
    have HB := hid (Lib.below_freeze (((Below.refl w.heap.size w).alloc (Nat.le_refl _) (.cells Z 5)).trans (⟨rfl, rfl, rfl, by simp, fun k hk => setRow_other _ _ _ _ (by omega)⟩ : Below w.heap.size (w.alloc (.cells Z 5)) ((w.alloc (.cells Z 5)).setRow w.heap.size Y))) (p := ⟨w.heap.size, 0, none⟩) (Nat.le_refl _) s.size)
    clear hY
    go_enter Tryz.func124, Tryz.ntmps124
    go_wp2_with fail
    go_ret
    exact ⟨rfl, HB.out⟩
set_option maxHeartbeats 1000000 in
theorem clone_any (s : ByteArray) (w : World) (hs : s.size ≤ 35184372088832) :
    Calls Tryz.prog 62 #[.string s] w fun r w' => r = .returned (.string s) ∧ Below w.heap.size w w' := by
  go_enter Tryz.func62, Tryz.ntmps62
  go_wp2_with fail
  refine (sliteClone_any s _ hs).mono ?_
  rintro r w1 ⟨rfl, hb1⟩
  go_wp2_with fail
  go_ret
  exact ⟨rfl, hb1⟩
end Go.Proofs.YtolgpnaoaodepaaGreat
/- A tree that is kept: its block, its blocks, what it says. -/
namespace Go.Proofs.YtolgpnaoaodepaaGreat
open Go.RowKit

def TB (w : World) (b p : Nat) : Prop := w.heap[b]? = some (.cells #[.pointer (some ⟨p, 0, none⟩)] 125 (0, 0))
theorem TB.lt {w : World} {b p : Nat} (h : TB w b p) : b < w.heap.size := (Array.getElem?_eq_some_iff.1 h).1
theorem TB.cells {w : World} {b p : Nat} (h : TB w b p) : w.cell? ⟨b, 0, none⟩ = some (.pointer (some ⟨p, 0, none⟩)) ∧ w.frozen? ⟨b, 0, none⟩ = false := by
  unfold TB at h
  refine ⟨?_, ?_⟩ <;> simp [World.cell?, World.frozen?, h]
theorem TB.set {w : World} {b p : Nat} (h : TB w b p) (q : Nat) : TB (w.setCell ⟨b, 0, none⟩ (.pointer (some ⟨q, 0, none⟩))) b q := by
  unfold TB at *; rw [heap_setCell_at (i := 0) h]; rfl
theorem TB.keep {w w' : World} {b p : Nat} (h : TB w b p) (hk : w'.heap[b]? = w.heap[b]?) : TB w' b p := hk.trans h
/-- A tree at block b, in the blocks F. -/
structure TreQ (V : Tr.Key → Option Tr.Key) (N b h p : Nat) (t : Tr.TreeT h) (F : List Nat) (w : World) : Prop where
  tb : TB w b p
  rep : Rep h w p t F
  nd : F.Nodup
  nb : b ∉ F
  root : Tr.Root V N h t
def TreM (V : Tr.Key → Option Tr.Key) (N b : Nat) (F : List Nat) (w : World) : Prop := ∃ h p t, h ≤ N * 100000 ∧ TreQ V N b h p t F w
theorem TreM.lt {V : Tr.Key → Option Tr.Key} {N b : Nat} {F : List Nat} {w : World} (h : TreM V N b F w) : ∀ g ∈ b :: F, g < w.heap.size := fun g hg => by
  obtain ⟨h, p, t, hh, hq⟩ := h
  rcases List.mem_cons.1 hg with q | q
  · rw [q]; exact hq.tb.lt
  · exact hq.rep.lt g q
theorem TreM.keep {V : Tr.Key → Option Tr.Key} {N b : Nat} {F : List Nat} {w w' : World} (h : TreM V N b F w) (hk : ∀ g ∈ b :: F, w'.heap[g]? = w.heap[g]?) : TreM V N b F w' := by
  obtain ⟨h, p, t, hh, hq⟩ := h
  exact ⟨h, p, t, hh, hq.tb.keep (hk b (List.mem_cons_self ..)), hq.rep.keep fun g hg => hk g (List.mem_cons_of_mem _ hg), hq.nd, hq.nb, hq.root⟩
/-- How far it is to the first leaf. -/
def hgt : Nat → World → Nat → Nat
  | 0, _, _ => 0
  | n + 1, w, p => match w.cell? ⟨p, 1, none⟩ with
    | some (.slice (some ⟨g, o, _⟩) (_ + 1) _) => match w.cell? ⟨g, o + 1, none⟩ with
      | some (.pointer (some ⟨q, _, _⟩)) => 1 + hgt n w q
      | _ => 0
    | _ => 0
theorem hgt_rep : ∀ (h n : Nat) {w : World} {p : Nat} {t : Tr.TreeT h} {F : List Nat} {lo : Tr.Key} {hi : Option Tr.Key}, h ≤ n → Rep h w p t F → Tr.WF h lo hi t → Tr.room lo hi → hgt n w p = h
  | 0, 0, _, _, _, _, _, _, _, _, _, _ => rfl
  | 0, n + 1, w, p, t, F, lo, hi, _, hr, _, _ => by
    obtain ⟨vi, il, hn, ho, rfl, rfl⟩ := hr
    unfold hgt
    rw [hn.cells.2.1]
  | h + 1, 0, _, _, _, _, _, _, hh, _, _, _ => by omega
  | h + 1, n + 1, w, p, (ps, cs), F, lo, hi, hh, hr, hw, hm => by
    obtain ⟨vp, vc, pl, ml, G, hn, hop, hoc, rfl, hk, rfl⟩ := hr
    match ps, hw.1, pl, hk, hop with
    | [], hc, _, _, _ => exact absurd (hm lo (show some lo = hi from hc).symm) (Tr.lt_ir lo)
    | (f, t) :: r, ⟨e, m, h1, h2, h3⟩, x :: pl, ⟨ex, G1, G2, r1, hk2, eG⟩, hop =>
      obtain ⟨g, cap, rfl, hcap, -, hg, x0, x1⟩ := hop.at 0 (by simp)
      unfold hgt
      rw [hn.cells.2.1]
      have x1' : w.cell? ⟨g, 0 + 1, none⟩ = some (.pointer (some ⟨x.2, 0, none⟩)) := by simpa using x1
      show (match w.cell? ⟨g, 0 + 1, none⟩ with | some (.pointer (some ⟨q, _, _⟩)) => 1 + hgt n w q | _ => 0) = h + 1
      rw [x1']
      show 1 + hgt n w x.2 = h + 1
      rw [hgt_rep h n (by omega) r1 h2.1 h1]; omega
def rootH (n b : Nat) (w : World) : Nat := match w.cell? ⟨b, 0, none⟩ with
  | some (.pointer (some ⟨p, _, _⟩)) => hgt n w p
  | _ => 0
theorem rootH_at {V : Tr.Key → Option Tr.Key} {N b h p n : Nat} {t : Tr.TreeT h} {F : List Nat} {w : World} (hq : TreQ V N b h p t F w) (hn : h ≤ n) : rootH n b w = h := by
  unfold rootH; rw [hq.tb.cells.1]; exact hgt_rep h n hn hq.rep hq.root.wf Tr.room_all

end Go.Proofs.YtolgpnaoaodepaaGreat
/- Trees side by side: a pair, all pairs, the book beside them. -/
namespace Go.Proofs.YtolgpnaoaodepaaGreat
open Go.RowKit

def PB (w : World) (q x y : Nat) : Prop := w.heap[q]? = some (.cells #[.pointer (some ⟨x, 0, none⟩), .pointer (some ⟨y, 0, none⟩)] 117 (0, 0))
theorem PB.lt {w : World} {q x y : Nat} (h : PB w q x y) : q < w.heap.size := (Array.getElem?_eq_some_iff.1 h).1
theorem PB.cells {w : World} {q x y : Nat} (h : PB w q x y) : w.cell? ⟨q, 0, none⟩ = some (.pointer (some ⟨x, 0, none⟩)) ∧ w.cell? ⟨q, 1, none⟩ = some (.pointer (some ⟨y, 0, none⟩)) := by
  unfold PB at h
  refine ⟨?_, ?_⟩ <;> simp [World.cell?, h]
theorem TreM.mono {V : Tr.Key → Option Tr.Key} {N N' b : Nat} {F : List Nat} {w : World} (h : TreM V N b F w) (hN : N ≤ N') : TreM V N' b F w := by
  obtain ⟨h, p, t, hh, hq⟩ := h
  exact ⟨h, p, t, Nat.le_trans hh (Nat.mul_le_mul_right _ hN), hq.tb, hq.rep, hq.nd, hq.nb, hq.root.wf, hq.root.top, hq.root.val, Nat.le_trans hq.root.wt hN⟩
/-- A pair: a tree, and the reference's, that say the same. -/
structure PrQ (N q x y b : Nat) (F : List Nat) (v : Value) (il : List (ByteArray × ByteArray)) (V : Tr.Key → Option Tr.Key) (w : World) : Prop where
  pb : PB w q x y
  st : ST w x b
  tr : TreM V N b F w
  rt : RT w y v
  row : OwnsI 0 w v il
  ris : Tr.Rising (plain il)
  val : ∀ k, Tr.look (plain il) k = V k
  len : il.length ≤ N
  v16 : ∀ z ∈ il, z.2.size ≤ 16
  nd : (q :: x :: y :: b :: (F ++ blk v)).Nodup
theorem PrQ.lt {N q x y b : Nat} {F : List Nat} {v : Value} {il : List (ByteArray × ByteArray)} {V : Tr.Key → Option Tr.Key} {w : World} (h : PrQ N q x y b F v il V w) : ∀ g ∈ q :: x :: y :: b :: (F ++ blk v), g < w.heap.size := fun g hg => by
  rcases List.mem_cons.1 hg with rfl | hg
  · exact h.pb.lt
  · rcases List.mem_cons.1 hg with rfl | hg
    · exact h.st.lt
    · rcases List.mem_cons.1 hg with rfl | hg
      · exact h.rt.lt
      · rcases List.mem_cons.1 hg with rfl | hg
        · exact h.tr.lt g (List.mem_cons_self ..)
        · rcases List.mem_append.1 hg with hg | hg
          · exact h.tr.lt g (List.mem_cons_of_mem _ hg)
          · exact (World.ownsRow.lt h.row g (mem_blk.1 hg)).2
theorem PrQ.keep {N q x y b : Nat} {F : List Nat} {v : Value} {il : List (ByteArray × ByteArray)} {V : Tr.Key → Option Tr.Key} {w w' : World} (h : PrQ N q x y b F v il V w) (hk : ∀ g ∈ q :: x :: y :: b :: (F ++ blk v), w'.heap[g]? = w.heap[g]?) : PrQ N q x y b F v il V w' :=
  ⟨(hk q (by simp)).trans h.pb, (hk x (by simp)).trans h.st, h.tr.keep fun g hg => hk g (by rcases List.mem_cons.1 hg with e | e <;> simp [e]), (hk y (by simp)).trans h.rt, row_same h.row fun g hg _ => hk g (by simp [mem_blk.2 hg]), h.ris, h.val, h.len, h.v16, h.nd⟩
theorem PrQ.mono {N N' q x y b : Nat} {F : List Nat} {v : Value} {il : List (ByteArray × ByteArray)} {V : Tr.Key → Option Tr.Key} {w : World} (h : PrQ N q x y b F v il V w) (hN : N ≤ N') : PrQ N' q x y b F v il V w :=
  ⟨h.pb, h.st, h.tr.mono hN, h.rt, h.row, h.ris, h.val, Nat.le_trans h.len hN, h.v16, h.nd⟩
def PrM (N q : Nat) (G : List Nat) (w : World) : Prop := ∃ x y b F v il V, PrQ N q x y b F v il V w ∧ G = x :: y :: b :: (F ++ blk v)
theorem PrM.lt {N q : Nat} {G : List Nat} {w : World} (h : PrM N q G w) : ∀ g ∈ q :: G, g < w.heap.size := by
  obtain ⟨x, y, b, F, v, il, V, h, rfl⟩ := h
  exact h.lt
theorem PrM.keep {N q : Nat} {G : List Nat} {w w' : World} (h : PrM N q G w) (hk : ∀ g ∈ q :: G, w'.heap[g]? = w.heap[g]?) : PrM N q G w' := by
  obtain ⟨x, y, b, F, v, il, V, h, rfl⟩ := h
  exact ⟨x, y, b, F, v, il, V, h.keep hk, rfl⟩
theorem PrM.mono {N N' q : Nat} {G : List Nat} {w : World} (h : PrM N q G w) (hN : N ≤ N') : PrM N' q G w := by
  obtain ⟨x, y, b, F, v, il, V, h, rfl⟩ := h
  exact ⟨x, y, b, F, v, il, V, h.mono hN, rfl⟩
theorem PrM.nd {N q : Nat} {G : List Nat} {w : World} (h : PrM N q G w) : (q :: G).Nodup := by
  obtain ⟨x, y, b, F, v, il, V, h, rfl⟩ := h
  exact h.nd
/-- All blocks of all pairs. -/
def prB (qs : List (Nat × List Nat)) : List Nat := qs.flatMap fun p => p.1 :: p.2
theorem prB_mid (A : List (Nat × List Nat)) (p : Nat × List Nat) (C : List (Nat × List Nat)) : prB (A ++ p :: C) = prB A ++ ((p.1 :: p.2) ++ prB C) := by
  unfold prB; rw [List.flatMap_append, List.flatMap_cons]
theorem prB_mem {qs : List (Nat × List Nat)} {p : Nat × List Nat} (hp : p ∈ qs) {g : Nat} (hg : g ∈ p.1 :: p.2) : g ∈ prB qs := List.mem_flatMap.2 ⟨p, hp, hg⟩
structure Trs (N : Nat) (vl : Value) (qs : List (Nat × List Nat)) (w : World) : Prop where
  row : w.ownsRow 0 84 1 vl qs.length (qs.map fun p => .pointer (some ⟨p.1, 0, none⟩))
  prs : ∀ p ∈ qs, PrM N p.1 p.2 w
  nd : (blk vl ++ prB qs).Nodup
theorem Trs.lt {N : Nat} {vl : Value} {qs : List (Nat × List Nat)} {w : World} (h : Trs N vl qs w) : ∀ g ∈ blk vl ++ prB qs, g < w.heap.size := fun g hg => by
  rcases List.mem_append.1 hg with hg | hg
  · exact (World.ownsRow.lt h.row g (mem_blk.1 hg)).2
  · obtain ⟨p, hp, hg⟩ := List.mem_flatMap.1 hg
    exact (h.prs p hp).lt g hg
theorem Trs.keep {N : Nat} {vl : Value} {qs : List (Nat × List Nat)} {w w' : World} (h : Trs N vl qs w) (hk : ∀ g ∈ blk vl ++ prB qs, w'.heap[g]? = w.heap[g]?) : Trs N vl qs w' :=
  ⟨row_same h.row fun g hg _ => hk g (List.mem_append_left _ (mem_blk.2 hg)), fun p hp => (h.prs p hp).keep fun g hg => hk g (List.mem_append_right _ (prB_mem hp hg)), h.nd⟩
theorem Trs.mono {N N' : Nat} {vl : Value} {qs : List (Nat × List Nat)} {w : World} (h : Trs N vl qs w) (hN : N ≤ N') : Trs N' vl qs w := ⟨h.row, fun p hp => (h.prs p hp).mono hN, h.nd⟩
theorem nodup_mid {P M M' R : List Nat} {S : Nat} (h : (P ++ (M ++ R)).Nodup) (h' : M'.Nodup) (hs : ∀ g ∈ M', g ∈ M ∨ S ≤ g) (hl : ∀ g ∈ P ++ R, g < S) : (P ++ (M' ++ R)).Nodup := by
  obtain ⟨h1, h2, h3⟩ := List.nodup_append.1 h
  obtain ⟨h4, h5, h6⟩ := List.nodup_append.1 h2
  refine List.nodup_append.2 ⟨h1, List.nodup_append.2 ⟨h', h5, fun a ha c hc e => ?_⟩, fun a ha c hc e => ?_⟩
  · rcases hs a ha with q | q
    · exact h6 a q c hc e
    · have := hl c (List.mem_append_right _ hc); omega
  · rcases List.mem_append.1 hc with hc | hc
    · rcases hs c hc with q | q
      · exact h3 a ha c (List.mem_append_left _ q) e
      · have := hl a (List.mem_append_left _ ha); omega
    · exact h3 a ha c (List.mem_append_right _ hc) e
/-- One pair turns, the others stay. -/
theorem Trs.turn {N N' : Nat} {vl : Value} {A C : List (Nat × List Nat)} {q : Nat} {G G' : List Nat} {w w' : World} (h : Trs N vl (A ++ (q, G) :: C) w) (hp : PrM N' q G' w') (hN : N ≤ N') (hm : Mod (fun g => g ∈ q :: G) w w') (hs : ∀ g ∈ G', g ∈ q :: G ∨ w.heap.size ≤ g) : Trs N' vl (A ++ (q, G') :: C) w' := by
  have hnd := h.nd
  have hlt := h.lt
  rw [prB_mid] at hnd hlt
  have hnd' : ((blk vl ++ prB A) ++ ((q :: G) ++ prB C)).Nodup := by rw [List.append_assoc]; exact hnd
  obtain ⟨h1, h2, h3⟩ := List.nodup_append.1 hnd'
  obtain ⟨h4, h5, h6⟩ := List.nodup_append.1 h2
  have oP : ∀ g ∈ blk vl ++ prB A, w'.heap[g]? = w.heap[g]? := fun g hg => hm.block g (hlt g (by rw [← List.append_assoc]; exact List.mem_append_left _ hg)) fun q' => h3 g hg g (List.mem_append_left _ q') rfl
  have oC : ∀ g ∈ prB C, w'.heap[g]? = w.heap[g]? := fun g hg => hm.block g (hlt g (List.mem_append_right _ (List.mem_append_right _ (List.mem_append_right _ hg)))) fun q' => h6 g q' g hg rfl
  refine ⟨?_, fun p hp' => ?_, ?_⟩
  · have e : (A ++ (q, G') :: C).map (fun p : Nat × List Nat => Value.pointer (some ⟨p.1, 0, none⟩)) = (A ++ (q, G) :: C).map (fun p : Nat × List Nat => Value.pointer (some ⟨p.1, 0, none⟩)) := by simp
    rw [e, show (A ++ (q, G') :: C).length = (A ++ (q, G) :: C).length by simp]
    exact row_same h.row fun g hg _ => oP g (List.mem_append_left _ (mem_blk.2 hg))
  · rcases List.mem_append.1 hp' with z | z
    · exact ((h.prs p (List.mem_append_left _ z)).mono hN).keep fun g hg => oP g (List.mem_append_right _ (prB_mem z hg))
    · rcases List.mem_cons.1 z with rfl | z
      · exact hp
      · exact ((h.prs p (List.mem_append_right _ (List.mem_cons_of_mem _ z))).mono hN).keep fun g hg => oC g (prB_mem z hg)
  · rw [prB_mid, ← List.append_assoc]
    refine nodup_mid (S := w.heap.size) hnd' hp.nd (fun g hg => ?_) (fun g hg => ?_)
    · rcases List.mem_cons.1 hg with e | hg
      · exact .inl (by rw [e]; exact List.mem_cons_self ..)
      · exact hs g hg
    · rcases List.mem_append.1 hg with hg | hg
      · exact hlt g (by rw [← List.append_assoc]; exact List.mem_append_left _ hg)
      · exact hlt g (List.mem_append_right _ (List.mem_append_right _ (List.mem_append_right _ hg)))
/-- The book, while blocks turn that stand aside. -/
theorem Bk.turn {w w' : World} {b : Nat} {vl : Value} {k : Nat} {X X' F : Nat → Prop} (h : Bk w b vl k X) (hm : Mod F w w') (hb : ¬ F b) (hF : ∀ g, F g → X g) (hX : ∀ g, X' g → X g ∨ w.heap.size ≤ g) : Bk w' b vl k X' := by
  obtain ⟨v, nx, m, hW, hK, hR⟩ := h
  have hs := hm.size
  refine ⟨v, nx, m, (hm.block b hW.lt hb).trans hW, fun p hp => ⟨(hK p hp).1, (hK p hp).2.stay (fun g hg hq => hm.block g hg fun hf => ?_) (fun g hg hf => ⟨hf.1, fun hx => ?_, hf.2.2⟩)⟩, fun i h1 h8 g hg => ?_, hR.2⟩
  · rcases hq with q | q | q
    · exact (hR.1 _ (by omega) (by omega) g q).2.1 (hF g hf)
    · exact (hR.1 _ (by omega) (by omega) g q).2.1 (hF g hf)
    · exact q.2.1 (hF g hf)
  · rcases hX g hx with q | q
    · exact hf.2.1 q
    · omega
  · obtain ⟨c1, c2, c3⟩ := hR.1 i h1 h8 g hg
    refine ⟨c1, fun hx => ?_, by omega⟩
    rcases hX g hx with q | q
    · exact c2 q
    · omega
/-- A longer list of trees is laid down. -/
theorem Bk.setl {w : World} {b : Nat} {vl : Value} {k : Nat} {X : Nat → Prop} (h : Bk w b vl k X) (vl' : Value) : Bk (w.setCell ⟨b, 0, none⟩ vl') b vl' k X := by
  obtain ⟨v, nx, m, hW, hK, hR⟩ := h
  have hm := Mod.setCell w b 0 vl'
  have hs := hm.size
  refine ⟨v, nx, m, ?_, fun p hp => ⟨(hK p hp).1, (hK p hp).2.stay (fun g hg hq => hm.block g hg fun hf => ?_) (fun g hg hf => hf)⟩, fun i h1 h8 g hg => ?_, hR.2⟩
  · unfold Wb at *; rw [heap_setCell_at (i := 0) hW]; rfl
  · rcases hq with q | q | q
    · have := (hR.1 _ (by omega) (by omega) g q).1; omega
    · have := (hR.1 _ (by omega) (by omega) g q).1; omega
    · exact q.1 hf
  · obtain ⟨c1, c2, c3⟩ := hR.1 i h1 h8 g hg
    exact ⟨c1, c2, by omega⟩
end Go.Proofs.YtolgpnaoaodepaaGreat
