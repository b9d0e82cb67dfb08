/- A tree in memory: its nodes' blocks. -/
import Derived.Test.YtolgpnaoaodepaaGreatTreLm
namespace Go.Proofs.YtolgpnaoaodepaaGreat
open Go.RowKit

/-- The block that a list has of its own. -/
def blk (v : Value) : List Nat := match v.ownBlock with
  | some g => [g]
  | none => []
theorem mem_blk {v : Value} {g : Nat} : g ∈ blk v ↔ v.ownBlock = some g := by
  unfold blk
  cases v.ownBlock with
  | none => simp
  | some k => simp [eq_comm]
theorem blk_nodup (v : Value) : (blk v).Nodup := by
  unfold blk
  cases v.ownBlock <;> simp
/-- Parts in memory, and what they say, one by one. -/
def Kids {α : Type} (R : Nat → α → List Nat → Prop) : List (ByteArray × Nat) → List (Tr.Key × α) → List Nat → Prop
  | [], [], G => G = []
  | x :: pl, y :: ps, G => x.1.data.toList = y.1 ∧ ∃ G1 G2, R x.2 y.2 G1 ∧ Kids R pl ps G2 ∧ G = G1 ++ G2
  | _, _, _ => False
theorem Kids.len {α : Type} {R : Nat → α → List Nat → Prop} : ∀ {pl : List (ByteArray × Nat)} {ps : List (Tr.Key × α)} {G : List Nat}, Kids R pl ps G → pl.length = ps.length
  | [], [], _, _ => rfl
  | _ :: _, _ :: _, _, ⟨_, _, _, _, h, _⟩ => by rw [List.length_cons, List.length_cons, h.len]
  | [], _ :: _, _, h => h.elim
  | _ :: _, [], _, h => h.elim
theorem Kids.keys {α : Type} {R : Nat → α → List Nat → Prop} : ∀ {pl : List (ByteArray × Nat)} {ps : List (Tr.Key × α)} {G : List Nat}, Kids R pl ps G → pkeys pl = ps.map (·.1)
  | [], [], _, _ => rfl
  | x :: pl, y :: ps, _, ⟨e, _, _, _, h, _⟩ => by
    have := h.keys
    unfold pkeys at *
    rw [List.map_cons, List.map_cons, this, e]
  | [], _ :: _, _, h => h.elim
  | _ :: _, [], _, h => h.elim
theorem Kids.imp {α : Type} {R R' : Nat → α → List Nat → Prop} : ∀ {pl : List (ByteArray × Nat)} {ps : List (Tr.Key × α)} {G : List Nat}, Kids R pl ps G → (∀ p t F, (∀ g ∈ F, g ∈ G) → R p t F → R' p t F) → Kids R' pl ps G
  | [], [], _, h, _ => h
  | _ :: _, _ :: _, _, ⟨e, G1, G2, h1, h2, rfl⟩, hR => ⟨e, G1, G2, hR _ _ _ (fun _ hg => List.mem_append_left _ hg) h1, h2.imp fun p t F hF => hR p t F fun g hg => List.mem_append_right _ (hF g hg), rfl⟩
  | [], _ :: _, _, h, _ => h.elim
  | _ :: _, [], _, h, _ => h.elim
theorem Kids.append {α : Type} {R : Nat → α → List Nat → Prop} {B : List (ByteArray × Nat)} {Bs : List (Tr.Key × α)} {G2 : List Nat} (hB : Kids R B Bs G2) : ∀ {A : List (ByteArray × Nat)} {As : List (Tr.Key × α)} {G1 : List Nat}, Kids R A As G1 → Kids R (A ++ B) (As ++ Bs) (G1 ++ G2)
  | [], [], _, h => by rw [show _ = [] from h]; exact hB
  | _ :: _, _ :: _, _, ⟨e, F1, F2, h1, h2, rfl⟩ => ⟨e, F1, F2 ++ G2, h1, Kids.append hB h2, by rw [List.append_assoc]⟩
  | [], _ :: _, _, h => h.elim
  | _ :: _, [], _, h => h.elim
theorem Kids.split {α : Type} {R : Nat → α → List Nat → Prop} {Bs : List (Tr.Key × α)} : ∀ {As : List (Tr.Key × α)} {pl : List (ByteArray × Nat)} {G : List Nat}, Kids R pl (As ++ Bs) G → ∃ A B G1 G2, pl = A ++ B ∧ A.length = As.length ∧ Kids R A As G1 ∧ Kids R B Bs G2 ∧ G = G1 ++ G2
  | [], pl, G, h => ⟨[], pl, [], G, rfl, rfl, rfl, h, rfl⟩
  | y :: As, x :: pl, G, ⟨e, F1, F2, h1, h2, hG⟩ => by
    obtain ⟨A, B, G1, G2, rfl, hl, h3, h4, rfl⟩ := Kids.split h2
    exact ⟨x :: A, B, F1 ++ G1, G2, rfl, by rw [List.length_cons, List.length_cons, hl], ⟨e, F1, G1, h1, h3, rfl⟩, h4, by rw [hG, List.append_assoc]⟩
  | _ :: _, [], _, h => h.elim
/-- A tree of so many levels lies there, in these blocks. -/
def Rep : (h : Nat) → World → Nat → Tr.TreeT h → List Nat → Prop
  | 0, w, p, l, F => ∃ vi il, NodT w p vi (.slice none 0 0) (.slice none 0 0) ∧ OwnsI 0 w vi il ∧ plain il = l ∧ F = p :: blk vi
  | h + 1, w, p, (ps, cs), F => ∃ vp vc pl ml G, NodT w p (.slice none 0 0) vp vc ∧ OwnsP 0 w vp pl ∧ OwnsC 0 w vc ml ∧ plainCh ml = cs ∧ Kids (Rep h w) pl ps G ∧ F = p :: (blk vp ++ (blk vc ++ G))
theorem wgA {h:Nat} {w:World} (H:∀ {p : Nat} {t : Tr.TreeT h} {F : List Nat}, Rep h w p t F → ∀ g ∈ F, g < w.heap.size):∀ (pl : List (ByteArray × Nat)) (ps : List (Tr.Key × Tr.TreeT h)) (G : List Nat), Kids (Rep h w) pl ps G → ∀ g ∈ G, g < w.heap.size
  | [], [], _, hk, g, hg => by rw [show _ = [] from hk] at hg; cases hg
  | _ :: pl, _ :: ps, _, ⟨_, G1, G2, h1, h2, rfl⟩, g, hg => by
    rcases List.mem_append.1 hg with hg | hg
    · exact H h1 g hg
    · exact wgA H pl ps G2 h2 g hg
  | [], _ :: _, _, h, _, _ => h.elim
  | _ :: _, [], _, h, _, _ => h.elim
theorem Rep.lt : ∀ {h : Nat} {w : World} {p : Nat} {t : Tr.TreeT h} {F : List Nat}, Rep h w p t F → ∀ g ∈ F, g < w.heap.size
  | 0, _, _, _, _, ⟨vi, il, h1, h2, _, rfl⟩, g, hg => by
    rcases List.mem_cons.1 hg with rfl | hg
    · exact h1.lt
    · exact (World.ownsRow.lt h2 g (mem_blk.1 hg)).2
  | h + 1, _, _, (ps, cs), _, ⟨vp, vc, pl, ml, G, h1, h2, h3, _, h4, rfl⟩, g, hg => by
    rcases List.mem_cons.1 hg with rfl | hg
    · exact h1.lt
    · rcases List.mem_append.1 hg with hg | hg
      · exact (World.ownsRow.lt h2 g (mem_blk.1 hg)).2
      · rcases List.mem_append.1 hg with hg | hg
        · exact (World.ownsRow.lt h3 g (mem_blk.1 hg)).2
        · exact wgA (fun q=>Rep.lt (h:=h) q) pl ps G h4 g hg
/-- It stays while its blocks do. -/
theorem Rep.keep : ∀ {h : Nat} {w w' : World} {p : Nat} {t : Tr.TreeT h} {F : List Nat}, Rep h w p t F → (∀ g ∈ F, w'.heap[g]? = w.heap[g]?) → Rep h w' p t F
  | 0, _, _, p, _, _, ⟨vi, il, h1, h2, e, rfl⟩, hs => ⟨vi, il, (hs p (List.mem_cons_self ..)).trans h1, row_same h2 fun g hg _ => hs g (List.mem_cons_of_mem _ (mem_blk.2 hg)), e, rfl⟩
  | _ + 1, _, _, p, (_, _), _, ⟨vp, vc, pl, ml, G, h1, h2, h3, e, h4, rfl⟩, hs =>
    ⟨vp, vc, pl, ml, G, (hs p (List.mem_cons_self ..)).trans h1, row_same h2 fun g hg _ => hs g (List.mem_cons_of_mem _ (List.mem_append_left _ (mem_blk.2 hg))), row_same h3 fun g hg _ => hs g (List.mem_cons_of_mem _ (List.mem_append_right _ (List.mem_append_left _ (mem_blk.2 hg)))), e,
      h4.imp fun _ _ _ hF hr => Rep.keep hr fun g hg => hs g (List.mem_cons_of_mem _ (List.mem_append_right _ (List.mem_append_right _ (hF g hg)))), rfl⟩
end Go.Proofs.YtolgpnaoaodepaaGreat
/- The walk of handOut. -/
namespace Go.Proofs.YtolgpnaoaodepaaGreat
open Go.RowKit

theorem OwnsC.at {B : Nat} {w : World} {v : Value} {l : List (Int × ByteArray × ByteArray)} (h : OwnsC B w v l) (i : Nat) (hi : i < l.length) : ∃ g cap, v = .slice (some ⟨g, 0, none⟩) l.length cap ∧ l.length ≤ cap ∧ B ≤ g ∧ g < w.heap.size ∧ w.cell? ⟨g, i * 3, none⟩ = some (.int .i64 (l[i]'hi).1) ∧ w.cell? ⟨g, i * 3 + 1, none⟩ = some (.string (l[i]'hi).2.1) ∧ w.cell? ⟨g, i * 3 + 2, none⟩ = some (.string (l[i]'hi).2.2) := by
  rcases h.2 with ⟨_, hn⟩ | ⟨g, cap, cur, rfl, hb, hg, hc, _⟩
  · omega
  · obtain ⟨q1, q2, q3⟩ := ccells_at l i hi
    have c1 := World.ownsRow.cells h (g := g) rfl _ _ q1
    have c2 := World.ownsRow.cells h (g := g) rfl _ _ q2
    have c3 := World.ownsRow.cells h (g := g) rfl _ _ q3
    rw [add_at] at c1 c2 c3
    exact ⟨g, cap, rfl, hc, hb, (Array.getElem?_eq_some_iff.1 hg).1, by simpa using c1, by simpa using c2, by simpa using c3⟩
theorem ccells_one (l : List (Int × ByteArray × ByteArray)) (c : Int × ByteArray × ByteArray) : ccells (l ++ [c]) = ccells l ++ [.int .i64 c.1, .string c.2.1, .string c.2.2] := by
  unfold ccells; simp
theorem take_filter {α : Type} (l : List α) (P : α → Bool) (j : Nat) (hj : j < l.length) : (l.take (j + 1)).filter P = (l.take j).filter P ++ (if P (l[j]'hj) then [l[j]'hj] else []) := by
  rw [List.take_add_one, List.getElem?_eq_getElem hj, List.filter_append]
  congr 1
  simp [List.filter_cons]
/-- Two lists in the making. -/
structure Two (B : Nat) (w : World) (vo vk : Value) (lo lk : List (Int × ByteArray × ByteArray)) : Prop where
  o : OwnsC B w vo lo
  k : OwnsC B w vk lk
  a : ∀ g, vo.ownBlock = some g → vk.ownBlock ≠ some g
def atP (pl : List (ByteArray × Nat)) (n : Nat) (c : Int × ByteArray × ByteArray) : Bool := decide (Tr.ix (pkeys pl) c.2.1.data.toList = n)

set_option maxHeartbeats 1000000 in
set_option maxRecDepth 20000 in
theorem handOut_any (p : Nat) (vi vp vc : Value) (pl : List (ByteArray × Nat)) (ml : List (Int × ByteArray × ByteArray)) (n : Nat) (w : World) (hn : NodT w p vi vp vc) (hp : OwnsP 0 w vp pl) (hc : OwnsC 0 w vc ml) (hpl : pl.length ≤ 1000000) (hml : ml.length ≤ 1000000) :
    Calls Tryz.prog 173 #[.pointer (some ⟨p, 0, none⟩), .int .i64 (n : Nat)] w fun r w' => ∃ vo vk, r = .returned vo ∧ NodT w' p vi vp vk ∧ Two w.heap.size w' vo vk (ml.filter (atP pl n)) (ml.filter fun c => !atP pl n c) ∧ Mod (fun g => g = p) w w' := by
  obtain ⟨n0, n1, n2, -⟩ := hn.cells
  obtain ⟨ca, cc, rfl⟩ := rowShape hc
  have HN := hid hn
  have HP := hid hp
  have HC := hid hc
  clear hn hp hc
  go_enter Tryz.func173, Tryz.ntmps173
  go_wp2_with fail
  go_loopw [5, 6, 14] (fun vo vk i wr => ∃ j : Nat, j ≤ ml.length ∧ i = .int .i64 (j : Nat) ∧ Two w.heap.size wr vo vk ((ml.take j).filter (atP pl n)) ((ml.take j).filter fun c => !atP pl n c) ∧ Below w.heap.size w wr) (fun _ _ i _ => ml.length - (intOf i).toNat)
  case atStart => exact ⟨0, Nat.zero_le _, rfl, ⟨World.ownsRow_nil _ _ _ _, World.ownsRow_nil _ _ _ _, fun g hg => by simp [Value.ownBlock] at hg⟩, Below.refl _ _⟩
  case round =>
    obtain ⟨j, hj, rfl, htw, hbel⟩ := hrel
    have HT := hid htw
    have HB := hid hbel
    have hbs := hbel.size
    clear htw hbel
    by_cases hlt : j < ml.length
    · obtain ⟨g, cap, e, hc1, -, hg, d0, d1, d2⟩ := HC.out.at j hlt
      simp only [Value.slice.injEq] at e
      obtain ⟨rfl, -, rfl⟩ := e
      have hs1 := fun o => HB.out.cell (p := ⟨g, o, none⟩) hg
      have d0' := (hs1 _).trans d0
      have d1' := (hs1 _).trans d1
      have d2' := (hs1 _).trans d2
      clear hs1 d0 d1 d2
      have HTF := hid (take_filter ml (atP pl n) j hlt)
      have HTK := hid (take_filter ml (fun c => !atP pl n c) j hlt)
      generalize ml[j]'hlt = c at *
      obtain ⟨ck, ckey, cx⟩ := c
      have HB1 := hid ((Below.refl wr.heap.size wr).alloc (Nat.le_refl _) (.cells #[.int .i64 ck, .string ckey, .string cx] 34))
      have HX1 : Hid (ChB (wr.alloc (.cells #[.int .i64 ck, .string ckey, .string cx] 34)) wr.heap.size ck ckey cx) := heap_alloc_new _ _
      have HBB := hid (HB.out.trans (HB1.out.mono hbs))
      have HT1 : Hid (Two w.heap.size (wr.alloc (.cells #[.int .i64 ck, .string ckey, .string cx] 34)) u5 u6 ((ml.take j).filter (atP pl n)) ((ml.take j).filter fun c => !atP pl n c)) := ⟨row_below HT.out.o HB1.out (Nat.le_refl _), row_below HT.out.k HB1.out (Nat.le_refl _), HT.out.a⟩
      have HN1 : Hid (NodT (wr.alloc (.cells #[.int .i64 ck, .string ckey, .string cx] 34)) p vi vp (.slice (some ⟨g, 0, none⟩) ml.length cc)) := (HBB.out.block p HN.out.lt).trans HN.out
      have HP1 : Hid (OwnsP 0 (wr.alloc (.cells #[.int .i64 ck, .string ckey, .string cx] 34)) vp pl) := row_below HP.out HBB.out (Nat.le_refl _)
      have hll : ((ml.take j).filter (atP pl n)).length ≤ 1000000 := by have := List.length_filter_le (atP pl n) (ml.take j); rw [List.length_take] at this; omega
      have hlk : ((ml.take j).filter fun c => !atP pl n c).length ≤ 1000000 := by have := List.length_filter_le (fun c => !atP pl n c) (ml.take j); rw [List.length_take] at this; omega
      go_wp2_with fail
      refine (tFind_any p 0 vi vp _ pl ckey _ HN1.out HP1.out (by omega)).mono ?_
      rintro r w1 ⟨rfl, hw1⟩
      rw [← hw1] at HX1 HT1 HBB
      have hz1 : wr.heap.size < w1.heap.size := HX1.out.lt
      clear hw1 HB1 HN1 HP1 d0' d1' d2'
      obtain ⟨x0, x1, x2⟩ := HX1.out.cells
      have hz2 : w.heap.size ≤ w1.heap.size := HBB.out.size
      by_cases hP : Tr.ix (pkeys pl) ckey.data.toList = n
      · have hcm : ((Tr.ix (pkeys pl) ckey.data.toList : Int) == (n : Int)) = true := by rw [hP]; exact beq_self_eq_true _
        have hat : atP pl n (ck, ckey, cx) = true := decide_eq_true hP
        rw [hat] at HTF HTK
        generalize Tr.ix (pkeys pl) ckey.data.toList = ixv at *
        go_wp2_with (at_builtin; refine wpApG w1 rfl (.tmp 24) (.tmp 26) 77 34 Tryz.underlying77 _ 3 40 info_change rfl (by decide) (by decide) rfl w.heap.size u5 _ _ rfl HT1.out.o [.int .i64 ck, .string ckey, .string cx] rfl (by intro u hu; simp at hu; rcases hu with rfl | rfl | rfl <;> rfl) rfl (by omega) hz2 ?_; intro v2 w2 ho2 hg2 hb2)
        have HT2 : Hid (Two w.heap.size w2 v2 u6 ((ml.take (j + 1)).filter (atP pl n)) ((ml.take (j + 1)).filter fun c => !atP pl n c)) := by
          refine ⟨?_, ?_, ?_⟩
          · rw [HTF.out]; unfold OwnsC; rw [if_pos trivial, ccells_one, List.length_append]; exact ho2
          · rw [HTK.out]; simp only [Bool.not_true, Bool.false_eq_true, if_false, List.append_nil]
            exact (Mod.of_grown hg2).row HT1.out.k (fun g hg hg' => HT1.out.a g hg' hg)
          · intro g hg hg'
            rcases hb2 with h | ⟨k, hk, h⟩
            · exact HT1.out.a g (by rw [← h]; exact hg) hg'
            · rw [h] at hg
              have := Option.some.inj hg
              have := (World.ownsRow.lt HT1.out.k g hg').2
              omega
        have HB2 : Hid (Below w.heap.size w w2) := HBB.out.grown hg2 hz2 (fun k hk => (World.ownsRow.lt HT1.out.o k hk).1)
        clear ho2 hg2 hb2 HT1 HBB HX1 x0 x1 x2
        exact ⟨⟨j + 1, by omega, by go_num, HT2.out, HB2.out⟩, by simp [intOf]; omega⟩
      · have hcm : ((Tr.ix (pkeys pl) ckey.data.toList : Int) == (n : Int)) = false := by simp; omega
        have hat : atP pl n (ck, ckey, cx) = false := decide_eq_false hP
        rw [hat] at HTF HTK
        generalize Tr.ix (pkeys pl) ckey.data.toList = ixv at *
        go_wp2_with (at_builtin; refine wpApG w1 rfl (.tmp 28) (.tmp 30) 77 34 Tryz.underlying77 _ 3 40 info_change rfl (by decide) (by decide) rfl w.heap.size u6 _ _ rfl HT1.out.k [.int .i64 ck, .string ckey, .string cx] rfl (by intro u hu; simp at hu; rcases hu with rfl | rfl | rfl <;> rfl) rfl (by omega) hz2 ?_; intro v2 w2 ho2 hg2 hb2)
        have HT2 : Hid (Two w.heap.size w2 u5 v2 ((ml.take (j + 1)).filter (atP pl n)) ((ml.take (j + 1)).filter fun c => !atP pl n c)) := by
          refine ⟨?_, ?_, ?_⟩
          · rw [HTF.out]; simp only [Bool.false_eq_true, if_false, List.append_nil]
            exact (Mod.of_grown hg2).row HT1.out.o (fun g hg hg' => HT1.out.a g hg hg')
          · rw [HTK.out]; unfold OwnsC; rw [Bool.not_false, if_pos rfl, ccells_one, List.length_append]; exact ho2
          · intro g hg hg'
            rcases hb2 with h | ⟨k, hk, h⟩
            · exact HT1.out.a g hg (by rw [← h]; exact hg')
            · rw [h] at hg'
              have := Option.some.inj hg'
              have := (World.ownsRow.lt HT1.out.o g hg).2
              omega
        have HB2 : Hid (Below w.heap.size w w2) := HBB.out.grown hg2 hz2 (fun k hk => (World.ownsRow.lt HT1.out.k k hk).1)
        clear ho2 hg2 hb2 HT1 HBB HX1 x0 x1 x2
        exact ⟨⟨j + 1, by omega, by go_num, HT2.out, HB2.out⟩, by simp [intOf]; omega⟩
    · have hjl : j = ml.length := by omega
      subst hjl
      rw [List.take_length] at HT
      have hn1 : NodT wr p vi vp (.slice ca ml.length cc) := (HB.out.block p HN.out.lt).trans HN.out
      obtain ⟨m0, m1, m2, k0, k1, k2⟩ := hn1.cells
      have HF : Hid (NodT (wr.setCell ⟨p, 2, none⟩ u6) p vi vp u6 ∧ Two w.heap.size (wr.setCell ⟨p, 2, none⟩ u6) u5 u6 (ml.filter (atP pl n)) (ml.filter fun c => !atP pl n c) ∧ Mod (fun g => g = p) w (wr.setCell ⟨p, 2, none⟩ u6)) := by
        have m := Mod.setCell wr p 2 u6
        have hpw := HN.out.lt
        refine ⟨hn1.setc u6, ⟨m.row HT.out.o (fun g hg q => ?_), m.row HT.out.k (fun g hg q => ?_), HT.out.a⟩, (Mod.of_below (F := fun _ => False) HB.out).trans m (fun _ _ q => q.elim) (fun _ _ q => q)⟩
        · have := (World.ownsRow.lt HT.out.o g hg).1; omega
        · have := (World.ownsRow.lt HT.out.k g hg).1; omega
      obtain ⟨y1, y2, y3, hy⟩ := shape3 HT.out.k
      clear HT hn1
      subst hy
      go_wp2_with fail
      go_ret
      exact ⟨_, _, rfl, HF.out⟩
end Go.Proofs.YtolgpnaoaodepaaGreat
/- slices.Max and slices.Index, of numbers. -/
namespace Go.Proofs.YtolgpnaoaodepaaGreat
open Go.RowKit

/-- A row of numbers of its own. -/
def OwnsZ (B : Nat) (w : World) (v : Value) (zs : List Int) : Prop := w.ownsRow B 3 1 v zs.length (zs.map (.int .i64))
theorem OwnsZ.at {B : Nat} {w : World} {v : Value} {zs : List Int} (h : OwnsZ B w v zs) (i : Nat) (hi : i < zs.length) : ∃ g cap, v = .slice (some ⟨g, 0, none⟩) zs.length cap ∧ zs.length ≤ cap ∧ B ≤ g ∧ g < w.heap.size ∧ w.cell? ⟨g, i, none⟩ = some (.int .i64 (zs[i]'hi)) ∧ w.frozen? ⟨g, i, none⟩ = false := by
  rcases h.2 with ⟨_, hn⟩ | ⟨g, cap, cur, rfl, hb, hg, hc, _⟩
  · omega
  · have c1 := World.ownsRow.cells h (g := g) rfl i (.int .i64 (zs[i]'hi)) (by simp [hi])
    rw [add_at] at c1
    exact ⟨g, cap, rfl, hc, hb, (Array.getElem?_eq_some_iff.1 hg).1, by simpa using c1, by simp [World.frozen?, hg]⟩
theorem OwnsZ.set {B : Nat} {w : World} {g cap : Nat} {zs : List Int} (h : OwnsZ B w (.slice (some ⟨g, 0, none⟩) zs.length cap) zs) (i : Nat) (hi : i < zs.length) (z : Int) : OwnsZ B (w.setCell ⟨g, i, none⟩ (.int .i64 z)) (.slice (some ⟨g, 0, none⟩) zs.length cap) (zs.set i z) := by
  rcases h.2 with ⟨_, hn⟩ | ⟨g', cap', cur, e, hb, hg, hc, hm, hcs, htk⟩
  · omega
  · simp only [Value.slice.injEq, Option.some.injEq, Addr.mk.injEq, and_true, true_and] at e
    obtain ⟨rfl, rfl⟩ := e
    unfold OwnsZ
    rw [List.length_set]
    refine ⟨by simp, .inr ⟨g, cap, cur.setIfInBounds i (.int .i64 z), rfl, hb, ?_, hc, hm, by simpa using hcs, ?_⟩⟩
    · rw [heap_setCell_at (i := i) hg]
    · rw [Array.toList_setIfInBounds, List.take_set, htk, List.map_set]

set_option maxHeartbeats 1000000 in
set_option maxRecDepth 20000 in
theorem maxN_any (B : Nat) (v : Value) (zs : List Int) (w : World) (h : OwnsZ B w v zs) (h0 : 0 < zs.length) (hl : zs.length ≤ 1000000) :
    Calls Tryz.prog 223 #[v] w fun r w' => ∃ m, r = .returned (.int .i64 m) ∧ m ∈ zs ∧ (∀ z ∈ zs, z ≤ m) ∧ w' = w := by
  obtain ⟨a, c, rfl⟩ := rowShape h
  have HV := hid h
  obtain ⟨g, cap, e, hc, -, -, d0, -⟩ := h.at 0 h0
  simp only [Value.slice.injEq] at e
  obtain ⟨rfl, -, rfl⟩ := e
  clear h
  have hne : ¬ (zs.length : Int) < 1 := by omega
  have hne2 : decide ((zs.length : Int) < 1) = false := decide_eq_false hne
  go_enter Tryz.func223, Tryz.ntmps223
  go_wp2_with fail
  go_loop [3, 4] (fun mv i => ∃ (j : Nat) (m : Int), 1 ≤ j ∧ j ≤ zs.length ∧ i = .int .i64 (j : Nat) ∧ mv = .int .i64 m ∧ Hid (m ∈ zs) ∧ Hid (∀ z ∈ zs.take j, z ≤ m)) (fun _ i => zs.length - (intOf i).toNat)
  case atStart => exact ⟨1, zs[0]'h0, Nat.le_refl _, h0, rfl, rfl, List.getElem_mem h0, fun z hz => by
    rw [List.take_add_one, List.take_zero, List.getElem?_eq_getElem h0] at hz
    simp at hz; rw [hz]; exact Int.le_refl _⟩
  case round =>
    obtain ⟨j, m, h1, hj, rfl, rfl, hm, hle⟩ := hrel
    by_cases hlt : j < zs.length
    · obtain ⟨g', cap', e, -, -, -, d1, -⟩ := HV.out.at j hlt
      simp only [Value.slice.injEq, Option.some.injEq, Addr.mk.injEq, and_true, true_and] at e
      obtain ⟨rfl, rfl⟩ := e
      have HM : Hid (max m (zs[j]'hlt) ∈ zs) := by
        show _ ∈ _
        rcases Int.le_total m (zs[j]'hlt) with q | q
        · rw [Int.max_eq_right q]; exact List.getElem_mem hlt
        · rw [Int.max_eq_left q]; exact hm.out
      have HL : Hid (∀ z ∈ zs.take (j + 1), z ≤ max m (zs[j]'hlt)) := fun z hz => by
        rw [List.take_add_one, List.getElem?_eq_getElem hlt] at hz
        rcases List.mem_append.1 hz with q | q
        · exact Int.le_trans (hle.out z q) (Int.le_max_left _ _)
        · simp at q; rw [q]; exact Int.le_max_right _ _
      clear hm hle
      generalize zs[j]'hlt = zj at *
      go_wp2_with fail
      go_round
      case rel => exact ⟨j + 1, max m zj, by omega, by omega, by go_num, rfl, HM.out, HL.out⟩
      case measure => simp [intOf]; omega
    · have hjl : j = zs.length := by omega
      subst hjl
      rw [List.take_length] at hle
      go_wp2_with fail
      go_ret
      exact ⟨m, rfl, hm.out, hle.out, rfl⟩
def IdxQ (zs : List Int) (x : Int) (w : World) (r : Ending) (w' : World) : Prop := ∃ i : Nat, r = .returned (.int .i64 (i : Nat)) ∧ zs[i]? = some x ∧ w' = w
set_option maxHeartbeats 1000000 in
set_option maxRecDepth 20000 in
theorem indexN_any (B : Nat) (v : Value) (zs : List Int) (x : Int) (w : World) (h : OwnsZ B w v zs) (hx : x ∈ zs) (hl : zs.length ≤ 1000000) :
    Calls Tryz.prog 222 #[v, .int .i64 x] w (IdxQ zs x w) := by
  obtain ⟨a, c, rfl⟩ := rowShape h
  have HV := hid h
  have HX := hid hx
  clear h hx
  go_enter Tryz.func222, Tryz.ntmps222
  go_wp2_with fail
  go_loop [8] (fun i => ∃ j : Nat, j ≤ zs.length ∧ i = .int .i64 (j : Nat) ∧ Hid (x ∉ zs.take j)) (fun i => zs.length - (intOf i).toNat)
  case atStart => exact ⟨0, Nat.zero_le _, rfl, by show _ ∉ _; simp⟩
  case round =>
    obtain ⟨j, hj, rfl, hnot⟩ := hrel
    by_cases hlt : j < zs.length
    · obtain ⟨g', cap', e, hc, -, -, d1, -⟩ := HV.out.at j hlt
      simp only [Value.slice.injEq] at e
      obtain ⟨rfl, -, rfl⟩ := e
      by_cases heq : zs[j]'hlt = x
      · rw [heq] at d1
        have HQ := hid heq
        clear heq hnot
        go_wp2_with fail
        go_ret
        exact ⟨j, rfl, by rw [List.getElem?_eq_getElem hlt, HQ.out], rfl⟩
      · have hne : (x == zs[j]'hlt) = false := by simp; exact fun q => heq q.symm
        have HN : Hid (x ∉ zs.take (j + 1)) := by
          show _ ∉ _
          rw [List.take_add_one, List.getElem?_eq_getElem hlt]
          intro q
          rcases List.mem_append.1 q with q | q
          · exact hnot.out q
          · simp at q; exact heq q.symm
        clear heq hnot
        generalize zs[j]'hlt = zj at *
        go_wp2_with fail
        go_round
        case rel => exact ⟨j + 1, by omega, by go_num, HN.out⟩
        case measure => simp [intOf]; omega
    · have hjl : j = zs.length := by omega
      subst hjl
      rw [List.take_length] at hnot
      exact absurd HX.out hnot.out
/-- make([]int, n). -/
theorem wpMkN (w : World) {ops : Array Oper} {rest : List Oper} {o : Oper} {a : Act} {Q : Exit → Act → World → Prop} (hgd : o.guard = none) (l c : Operand) (hop : o.op = Op.makeSlice 25 l c) (n : Nat) (hl : a.eval l = .int .i64 (n : Int)) (hc : a.eval c = .int .i64 (n : Int)) (hb : n ≤ 1000000000)
    (h : ∀ w', OwnsZ w.heap.size w' (.slice (some ⟨w.heap.size, 0, none⟩) n n) (List.replicate n 0) → Below w.heap.size w w' → wpList Tryz.prog ops Q rest (a.put o.dst (.slice (some ⟨w.heap.size, 0, none⟩) n n)) w') : wpList Tryz.prog ops Q (o :: rest) a w := by
  obtain ⟨i, hi, hz0, hz1, hz2⟩ := info_parts info_int
  refine wpList_make_full w hgd l c 25 hop w.heap.size 3 i _ 1 Tryz.underlying25 hi hz0 hz1 .i64 .i64 (n : Int) (n : Int) n hl hc rfl rfl (by rw [hz2]; omega) (by unfold maxLen; omega) (Nat.le_refl _) ?_
  intro w' ho hg
  refine h w' ?_ ((Below.refl _ w).grown hg (Nat.le_refl _) (fun k hk => by cases hk))
  have e : (madeCells (Value.int .i64 0).cells (n * 1)).toList = (List.replicate n (0 : Int)).map (.int .i64) := by
    rw [List.map_replicate, List.eq_replicate_iff]
    refine ⟨by rw [Array.length_toList, size_madeCells, Nat.mul_one], fun b hb => ?_⟩
    simp only [madeCells, Array.toList_map, List.mem_map] at hb
    obtain ⟨i, _, rfl⟩ := hb
    show (#[Value.int .i64 0] : Array Value)[i % 1]! = _
    rw [Nat.mod_one]; rfl
  rw [e] at ho
  unfold OwnsZ
  rw [List.length_replicate]
  exact ho
theorem ix_lt : ∀ (l : List (List UInt8)) (k : List UInt8), l ≠ [] → Tr.ix l k < l.length
  | [], _, h => absurd rfl h
  | [_], _, _ => by simp [Tr.ix]
  | _ :: f :: r, k, _ => by
    rw [Tr.ix]
    split
    · simp
    · have := ix_lt (f :: r) k (by simp)
      simp only [List.length_cons] at *
      omega
end Go.Proofs.YtolgpnaoaodepaaGreat
/- The walk of busiest. -/
namespace Go.Proofs.YtolgpnaoaodepaaGreat
open Go.RowKit

/-- Counts that are in the making. -/
structure Cnt (pl : List (ByteArray × Nat)) (ml : List (Int × ByteArray × ByteArray)) (j : Nat) (zs : List Int) : Prop where
  n : zs.length = pl.length
  b : ∀ z ∈ zs, 0 ≤ z ∧ z ≤ j
  c : ∀ (i : Nat) (z : Int), zs[i]? = some z → 0 < z → ∃ c ∈ ml, Tr.ix (pkeys pl) c.2.1.data.toList = i
  s : 0 < j → ∃ z ∈ zs, 0 < z
theorem Cnt.next {pl : List (ByteArray × Nat)} {ml : List (Int × ByteArray × ByteArray)} {j : Nat} {zs : List Int} (h : Cnt pl ml j zs) (i : Nat) (hi : i < zs.length) (c : Int × ByteArray × ByteArray) (hc : c ∈ ml) (he : Tr.ix (pkeys pl) c.2.1.data.toList = i) : Cnt pl ml (j + 1) (zs.set i (zs[i]'hi + 1)) := by
  have hz := h.b _ (List.getElem_mem hi)
  refine ⟨by rw [List.length_set]; exact h.n, fun z q => ?_, fun k z q q0 => ?_, fun _ => ⟨zs[i]'hi + 1, List.mem_set hi _, by omega⟩⟩
  · rcases List.mem_or_eq_of_mem_set q with q | rfl
    · have := h.b z q; omega
    · omega
  · rw [List.getElem?_set] at q
    split at q
    · next e => exact ⟨c, hc, by rw [he]; exact e⟩
    · exact h.c k z q q0

set_option maxHeartbeats 1000000 in
set_option maxRecDepth 20000 in
theorem busiest_any (p : Nat) (vi vp vc : Value) (pl : List (ByteArray × Nat)) (ml : List (Int × ByteArray × ByteArray)) (w : World) (hn : NodT w p vi vp vc) (hp : OwnsP 0 w vp pl) (hc : OwnsC 0 w vc ml) (hpl : pl.length ≤ 1000000) (hml : ml.length ≤ 1000000) (hp0 : 0 < pl.length) (hm0 : 0 < ml.length) :
    Calls Tryz.prog 172 #[.pointer (some ⟨p, 0, none⟩)] w fun r w' => (∃ n : Nat, r = .returned (.int .i64 (n : Nat)) ∧ n < pl.length ∧ ∃ c ∈ ml, Tr.ix (pkeys pl) c.2.1.data.toList = n) ∧ Below w.heap.size w w' := by
  obtain ⟨n0, n1, n2, -⟩ := hn.cells
  obtain ⟨ca, cc, rfl⟩ := rowShape hc
  obtain ⟨pa, pc, rfl⟩ := rowShape hp
  have HN := hid hn
  have HP := hid hp
  have HC := hid hc
  clear hn hp hc
  go_enter Tryz.func172, Tryz.ntmps172
  go_upto_region 2 with (refine wpMkN _ rfl (.tmp 10) (.tmp 10) rfl pl.length rfl rfl (by omega) ?_; intro w1 ho1 hb1)
  have HB1 := hid hb1
  have HZ1 := hid ho1
  have hlt1 : w.heap.size < w1.heap.size := (World.ownsRow.lt ho1 _ rfl).2
  have hn1 : NodT w1 p vi (.slice pa pl.length pc) (.slice ca ml.length cc) := (hb1.block p HN.out.lt).trans HN.out
  obtain ⟨m0, m1, m2, -⟩ := hn1.cells
  clear ho1 hb1 hn1
  go_wp2_with fail
  go_loopw [17] (fun i wr => ∃ (j : Nat) (zs : List Int), j ≤ ml.length ∧ i = .int .i64 (j : Nat) ∧ Cnt pl ml j zs ∧ OwnsZ w.heap.size wr (.slice (some ⟨w.heap.size, 0, none⟩) pl.length pl.length) zs ∧ Below w.heap.size w wr) (fun i _ => ml.length - (intOf i).toNat)
  case atStart => exact ⟨0, List.replicate pl.length 0, Nat.zero_le _, rfl, ⟨List.length_replicate .., fun z hz => by rw [List.eq_of_mem_replicate hz]; omega, fun i z hz h0 => by rw [List.getElem?_replicate] at hz; split at hz <;> simp at hz; omega, fun h => by omega⟩, HZ1.out, HB1.out⟩
  case round =>
    obtain ⟨j, zs, hj, rfl, hcnt, hoz, hbel⟩ := hrel
    have HCN := hid hcnt
    have HZ := hid hoz
    have HB := hid hbel
    have hbs := hbel.size
    have hzn := hcnt.n
    clear hcnt hoz hbel
    by_cases hlt : j < ml.length
    · obtain ⟨g, cap, e, hc1, -, hg, d0, d1, d2⟩ := HC.out.at j hlt
      simp only [Value.slice.injEq] at e
      obtain ⟨rfl, -, rfl⟩ := e
      have hs1 := fun o => HB.out.cell (p := ⟨g, o, none⟩) hg
      have d0' := (hs1 _).trans d0
      have d1' := (hs1 _).trans d1
      have d2' := (hs1 _).trans d2
      clear hs1 d0 d1 d2
      have HMM := hid (List.getElem_mem hlt)
      generalize ml[j]'hlt = c at *
      obtain ⟨ck, ckey, cx⟩ := c
      have HB1 := hid ((Below.refl wr.heap.size wr).alloc (Nat.le_refl _) (.cells #[.int .i64 ck, .string ckey, .string cx] 34))
      have HBB := hid (HB.out.trans (HB1.out.mono hbs))
      have HX1 : Hid (ChB (wr.alloc (.cells #[.int .i64 ck, .string ckey, .string cx] 34)) wr.heap.size ck ckey cx) := heap_alloc_new _ _
      have HZ2 : Hid (OwnsZ w.heap.size (wr.alloc (.cells #[.int .i64 ck, .string ckey, .string cx] 34)) (.slice (some ⟨w.heap.size, 0, none⟩) pl.length pl.length) zs) := row_below HZ.out HB1.out (Nat.le_refl _)
      have HN1 : Hid (NodT (wr.alloc (.cells #[.int .i64 ck, .string ckey, .string cx] 34)) p vi (.slice pa pl.length pc) (.slice (some ⟨g, 0, none⟩) ml.length cc)) := (HBB.out.block p HN.out.lt).trans HN.out
      have HP1 : Hid (OwnsP 0 (wr.alloc (.cells #[.int .i64 ck, .string ckey, .string cx] 34)) (.slice pa pl.length pc) pl) := row_below HP.out HBB.out (Nat.le_refl _)
      have hix : Tr.ix (pkeys pl) ckey.data.toList < pl.length := by
        have := ix_lt (pkeys pl) ckey.data.toList (by intro q; unfold pkeys at q; rw [List.map_eq_nil_iff] at q; rw [q] at hp0; simp at hp0)
        simpa [pkeys] using this
      go_wp2_with fail
      refine (tFind_any p 0 vi _ _ pl ckey _ HN1.out HP1.out (by omega)).mono ?_
      rintro r w2 ⟨rfl, hw2⟩
      rw [← hw2] at HX1 HZ2 HBB
      clear hw2 HB1 HN1 HP1 d0' d1' d2'
      have HIX : Hid (Tr.ix (pkeys pl) ckey.data.toList = Tr.ix (pkeys pl) ckey.data.toList) := rfl
      generalize hixe : Tr.ix (pkeys pl) ckey.data.toList = ixv at *
      have HXE := hid hixe
      clear hixe HIX
      obtain ⟨g', cap', e', hcc, -, -, y0, y1⟩ := HZ2.out.at ixv (by omega)
      simp only [Value.slice.injEq, Option.some.injEq, Addr.mk.injEq, and_true] at e'
      obtain ⟨rfl, -, rfl⟩ := e'
      have hixz : ixv < zs.length := by omega
      have hzb := HCN.out.b _ (List.getElem_mem hixz)
      have HNX := hid (HCN.out.next ixv hixz (ck, ckey, cx) HMM.out HXE.out)
      have HZS : Hid (OwnsZ w.heap.size (w2.setCell ⟨w.heap.size, ixv, none⟩ (.int .i64 (zs[ixv]'hixz + 1))) (.slice (some ⟨w.heap.size, 0, none⟩) pl.length pl.length) (zs.set ixv (zs[ixv]'hixz + 1))) := by
        have := HZ2.out
        rw [← hzn] at this ⊢
        exact OwnsZ.set this ixv hixz _
      generalize zs[ixv]'hixz = zv at *
      have HBS : Hid (Below w.heap.size w (w2.setCell ⟨w.heap.size, ixv, none⟩ (.int .i64 (zv + 1)))) := HBB.out.setCell (p := ⟨w.heap.size, ixv, none⟩) (Nat.le_refl _) _
      go_wp2_with fail
      go_roundw
      case rel => exact ⟨j + 1, _, by omega, by go_num, HNX.out, HZS.out, HBS.out⟩
      case measure => simp [intOf]; omega
    · have hjl : j = ml.length := by omega
      subst hjl
      have HMX := hid (maxN_any w.heap.size _ zs wr HZ.out (by omega) (by omega))
      have HIX : Hid (∀ x ∈ zs, Calls Tryz.prog 222 #[.slice (some ⟨w.heap.size, 0, none⟩) pl.length pl.length, .int .i64 x] wr (IdxQ zs x wr)) := fun x hx => indexN_any w.heap.size _ zs x wr HZ.out hx (by omega)
      go_wp2_with fail
      refine HMX.out.mono ?_
      rintro r w2 ⟨m, rfl, hmm, hml2, hw2⟩
      subst hw2
      have HI := hid (HIX.out m hmm)
      have HFN : Hid (∀ i : Nat, zs[i]? = some m → i < pl.length ∧ ∃ c ∈ ml, Tr.ix (pkeys pl) c.2.1.data.toList = i) := fun i hi => by
        obtain ⟨z, hz, hz0⟩ := HCN.out.s hm0
        have h1 := hml2 z hz
        have h2 : i < zs.length := (List.getElem?_eq_some_iff.1 hi).1
        exact ⟨by omega, HCN.out.c i m hi (by omega)⟩
      clear HMX HIX hmm hml2
      go_wp2_with fail
      refine HI.out.mono ?_
      rintro r w3 ⟨i, rfl, hi, hw3⟩
      subst hw3
      have HF := hid (HFN.out i hi)
      clear HI HFN hi
      go_wp2_with fail
      go_ret
      exact ⟨⟨i, rfl, HF.out⟩, HB.out⟩
end Go.Proofs.YtolgpnaoaodepaaGreat
