/- The walk of cutLeaf. -/
import Derived.Test.YtolgpnaoaodepaaGreatTrePm
namespace Go.Proofs.YtolgpnaoaodepaaGreat.Tr
theorem sh_map {α β : Type} (f : α → β) : ∀ (k : Nat) (l : List α), sh k (l.map f) = (sh k l).map (List.map f)
  | 0, _ => rfl
  | k + 1, l => by rw [sh, sh, List.map_cons, List.length_map, ← sh_map f k, List.map_take, List.map_drop]
theorem shares_map {α β : Type} (f : α → β) (l : List α) (m : Nat) : shares (l.map f) m = (shares l m).map (List.map f) := by
  unfold shares; rw [List.length_map, sh_map]
/-- Leaves, each with the key that it begins at. -/
def lkey (l : List It) : Key := (l.head?.map (·.1)).getD []
def lparts (ls : List (List It)) : List (Key × TreeT 0) := ls.map fun l => (lkey l, (l : TreeT 0))
def leafParts (f : Key) : List (List It) → List (Key × TreeT 0)
  | [] => []
  | l :: r => (f, (l : TreeT 0)) :: lparts r
end Go.Proofs.YtolgpnaoaodepaaGreat.Tr
namespace Go.Proofs.YtolgpnaoaodepaaGreat
open Go.RowKit

/-- Leaves in the making. -/
structure LfM (w : World) (B : Nat) (pl : List (ByteArray × Nat)) (vs : List Value) (ls : List (List (ByteArray × ByteArray))) : Prop where
  n : pl.length ≤ vs.length
  m : vs.length = ls.length
  nod : ∀ i (h : i < pl.length) (h' : i < vs.length), NodT w (pl[i]'h).2 (vs[i]'(h')) (.slice none 0 0) (.slice none 0 0)
  key : ∀ i (h : i < pl.length) (h' : i < ls.length), (pl[i]'h).1.data.toList = Tr.lkey (plain (ls[i]'(h')))
  inc : (pl.map (·.2)).Pairwise (· < ·)
  low : ∀ x ∈ pl, B ≤ x.2
theorem LfM.keep {w w' : World} {B : Nat} {pl : List (ByteArray × Nat)} {vs : List Value} {ls : List (List (ByteArray × ByteArray))} (h : LfM w B pl vs ls) {F : Nat → Prop} (m : Mod F w w') (hF : ∀ x ∈ pl, ¬ F x.2) : LfM w' B pl vs ls :=
  ⟨h.n, h.m, fun i hi hi' => m.nod (h.nod i hi hi') (hF _ (List.getElem_mem hi)), h.key, h.inc, h.low⟩
theorem LfM.snoc {w : World} {B : Nat} {pl : List (ByteArray × Nat)} {vs : List Value} {ls : List (List (ByteArray × ByteArray))} (h : LfM w B pl vs ls) (x : ByteArray × Nat) (hl : pl.length < vs.length) (hn : NodT w x.2 (vs[pl.length]'hl) (.slice none 0 0) (.slice none 0 0)) (hk : x.1.data.toList = Tr.lkey (plain (ls[pl.length]'(by rw [← h.m]; exact hl)))) (hx : ∀ y ∈ pl, y.2 < x.2) (hB : B ≤ x.2) : LfM w B (pl ++ [x]) vs ls := by
  refine ⟨by simp; omega, h.m, fun i hi hi' => ?_, fun i hi hi' => ?_, ?_, fun y hy => ?_⟩
  · by_cases q : i < pl.length
    · rw [List.getElem_append_left q]; exact h.nod i q hi'
    · have e : i = pl.length := by simp at hi; omega
      subst e
      simpa using hn
  · by_cases q : i < pl.length
    · rw [List.getElem_append_left q]; exact h.key i q hi'
    · have e : i = pl.length := by simp at hi; omega
      subst e
      simpa using hk
  · rw [List.map_append]
    refine List.pairwise_append.2 ⟨h.inc, by simp, fun a ha b hb => ?_⟩
    obtain ⟨y, hy, rfl⟩ := List.mem_map.1 ha
    simp at hb; subst hb
    exact hx y hy
  · rcases List.mem_append.1 hy with q | q
    · exact h.low y q
    · simp at q; subst q; exact hB
/-- All leaves that were made. -/
theorem kids_leaf {w : World} : ∀ {pl : List (ByteArray × Nat)} {vs : List Value} {ls : List (List (ByteArray × ByteArray))} (_ : pl.length = vs.length) (_ : vs.length = ls.length) (_ : ∀ i (h : i < pl.length) (h' : i < vs.length), NodT w (pl[i]'h).2 (vs[i]'(h')) (.slice none 0 0) (.slice none 0 0)) (_ : ∀ i (h : i < vs.length) (h' : i < ls.length), OwnsI 0 w (vs[i]'h) (ls[i]'(h'))) (_ : ∀ i (h : i < pl.length) (h' : i < ls.length), (pl[i]'h).1.data.toList = Tr.lkey (plain (ls[i]'(h')))), Kids (Rep 0 w) pl (Tr.lparts (ls.map plain)) ((pl.zip vs).flatMap fun x => x.1.2 :: blk x.2)
  | [], [], [], _, _, _, _, _ => rfl
  | x :: pl, v :: vs, l :: ls, h1, h2, hn, ho, hk =>
    ⟨hk 0 (by simp) (by simp), _, _, ⟨v, l, hn 0 (by simp) (by simp), ho 0 (by simp) (by simp), rfl, rfl⟩, kids_leaf (by simpa using h1) (by simpa using h2) (fun i h h' => hn (i + 1) (by simpa using h) (by simpa using h')) (fun i h h' => ho (i + 1) (by simpa using h) (by simpa using h')) (fun i h h' => hk (i + 1) (by simpa using h) (by simpa using h')), by simp⟩
  | [], _ :: _, _, h1, _, _, _, _ => by simp at h1
  | _ :: _, [], _, h1, _, _, _, _ => by simp at h1
  | [], [], _ :: _, _, h2, _, _, _ => by simp at h2
  | _ :: _, _ :: _, [], _, h2, _, _, _ => by simp at h2
/-- Their blocks are apart. -/
theorem nodup_leaf {C : Nat} : ∀ {pl : List (ByteArray × Nat)} {vs : List Value}, (pl.map (·.2)).Pairwise (· < ·) → (vs.Pairwise fun u v => ∀ g, u.ownBlock = some g → v.ownBlock ≠ some g) → (∀ x ∈ pl, C ≤ x.2) → (∀ v ∈ vs, ∀ g, v.ownBlock = some g → g < C) → ((pl.zip vs).flatMap fun x => x.1.2 :: blk x.2).Nodup
  | [], _, _, _, _, _ => by simp
  | _ :: _, [], _, _, _, _ => by simp
  | x :: pl, v :: vs, h1, h2, h3, h4 => by
    rw [List.zip_cons_cons, List.flatMap_cons]
    have h1' := List.pairwise_cons.1 h1
    have h2' := List.pairwise_cons.1 h2
    have ih := nodup_leaf (C := C) h1'.2 h2'.2 (fun y hy => h3 y (List.mem_cons_of_mem _ hy)) (fun u hu => h4 u (List.mem_cons_of_mem _ hu))
    have hx := h3 x (List.mem_cons_self ..)
    refine List.nodup_append.2 ⟨List.nodup_cons.2 ⟨fun q => ?_, blk_nodup v⟩, ih, fun a ha b hb e => ?_⟩
    · have h : x.2 < C := h4 v (List.mem_cons_self ..) _ (mem_blk.1 q)
      omega
    · subst e
      obtain ⟨⟨y, u⟩, hyu, hq⟩ := List.mem_flatMap.1 hb
      have hy := (List.of_mem_zip hyu).1
      have hu := (List.of_mem_zip hyu).2
      rcases List.mem_cons.1 ha with rfl | ha
      · rcases List.mem_cons.1 hq with q | q
        · have h : x.2 < y.2 := h1'.1 y.2 (List.mem_map.2 ⟨y, hy, rfl⟩)
          have h' : x.2 = y.2 := q
          omega
        · have h : x.2 < C := h4 u (List.mem_cons_of_mem _ hu) _ (mem_blk.1 q)
          omega
      · have ha' := mem_blk.1 ha
        have hal := h4 v (List.mem_cons_self ..) _ ha'
        rcases List.mem_cons.1 hq with q | q
        · have h : C ≤ y.2 := h3 y (List.mem_cons_of_mem _ hy)
          have h' : a = y.2 := q
          omega
        · exact h2'.1 u hu a ha' (mem_blk.1 q)
theorem OwnsP.setKey {B : Nat} {w : World} {g cap : Nat} {x : ByteArray × Nat} {pl : List (ByteArray × Nat)} (h : OwnsP B w (.slice (some ⟨g, 0, none⟩) (x :: pl).length cap) (x :: pl)) (b : ByteArray) : OwnsP B (w.setCell ⟨g, 0, none⟩ (.string b)) (.slice (some ⟨g, 0, none⟩) (x :: pl).length cap) ((b, x.2) :: pl) := by
  rcases h.2 with ⟨_, hn⟩ | ⟨g', cap', cur, e, hb, hg, hc, hm, hcs, htk⟩
  · simp at hn
  · simp only [Value.slice.injEq, Option.some.injEq, Addr.mk.injEq, and_true, true_and] at e
    obtain ⟨rfl, rfl⟩ := e
    refine ⟨by rw [pcells_len], .inr ⟨g, cap, cur.setIfInBounds 0 (.string b), rfl, hb, ?_, hc, hm, by simpa using hcs, ?_⟩⟩
    · rw [heap_setCell_at (i := 0) hg]
    · rw [Array.toList_setIfInBounds]
      show List.take ((x :: pl).length * 2) _ = _
      rw [List.take_set, htk]; rfl
end Go.Proofs.YtolgpnaoaodepaaGreat
/- The walk of cutLeaf. -/
namespace Go.Proofs.YtolgpnaoaodepaaGreat
open Go.RowKit

/-- A part in a block of its own. -/
def PtB (w : World) (b : Nat) (f : ByteArray) (p : Nat) : Prop := w.heap[b]? = some (.cells #[.string f, .pointer (some ⟨p, 0, none⟩)] 132 (0, 0))
theorem PtB.cells {w : World} {b : Nat} {f : ByteArray} {p : Nat} (h : PtB w b f p) : w.cell? ⟨b, 0, none⟩ = some (.string f) ∧ w.cell? ⟨b, 1, none⟩ = some (.pointer (some ⟨p, 0, none⟩)) := by
  unfold PtB at h
  refine ⟨?_, ?_⟩ <;> simp [World.cell?, h]
/-- What a cut hands back: new parts, in new blocks. -/
structure CtQ (h : Nat) (w : World) (ps : List (Tr.Key × Tr.TreeT h)) (v : Value) (pl : List (ByteArray × Nat)) (G : List Nat) (w' : World) : Prop where
  row : OwnsP w.heap.size w' v pl
  kids : Kids (Rep h w') pl ps G
  nd : (blk v ++ G).Nodup

set_option maxHeartbeats 1000000 in
set_option maxRecDepth 20000 in
theorem cutLeaf_any (fb : ByteArray) (pb : Nat) (vi : Value) (il : List (ByteArray × ByteArray)) (w : World) (hn : NodT w pb vi (.slice none 0 0) (.slice none 0 0)) (hv : OwnsI 0 w vi il) (hl : 16 < il.length) (hl2 : il.length ≤ 100000) :
    Calls Tryz.prog 127 #[.agg #[.string fb, .pointer (some ⟨pb, 0, none⟩)]] w fun r w' => ∃ v pl G, r = .returned v ∧ CtQ 0 w (Tr.leafParts fb.data.toList (Tr.shares (plain il) 16)) v pl G w' ∧ (∀ g ∈ G, w.heap.size ≤ g) ∧ Below w.heap.size w w' := by
  obtain ⟨g, cap, e, hc, -, hg, -, -⟩ := hv.at 0 (by omega)
  subst e
  have HB0 := hid ((Below.refl w.heap.size w).alloc (Nat.le_refl _) (.cells #[.string fb, .pointer (some ⟨pb, 0, none⟩)] 132))
  have HX0 : Hid (PtB (w.alloc (.cells #[.string fb, .pointer (some ⟨pb, 0, none⟩)] 132)) w.heap.size fb pb) := heap_alloc_new _ _
  have hn0 : NodT (w.alloc (.cells #[.string fb, .pointer (some ⟨pb, 0, none⟩)] 132)) pb (.slice (some ⟨g, 0, none⟩) il.length cap) (.slice none 0 0) (.slice none 0 0) := (HB0.out.block pb hn.lt).trans hn
  obtain ⟨n0, n1, n2, -⟩ := hn0.cells
  have hv0 : OwnsI 0 (w.alloc (.cells #[.string fb, .pointer (some ⟨pb, 0, none⟩)] 132)) (.slice (some ⟨g, 0, none⟩) il.length cap) il := row_below hv HB0.out (Nat.le_refl _)
  have HSH := hid (sharesI_any g 0 il.length cap il 16 (w.alloc (.cells #[.string fb, .pointer (some ⟨pb, 0, none⟩)] 132)) rfl hc hl2 (by decide) (by decide) (fun j u hj => by
    have := World.ownsRow.cells hv0 (g := g) rfl j u hj
    rw [add_at] at this
    simpa using this) (by simp; omega))
  have HSZ : Hid (w.heap.size < (w.alloc (.cells #[.string fb, .pointer (some ⟨pb, 0, none⟩)] 132)).heap.size) := by show _ < _; simp
  clear hn0 hv0 hn hv
  go_enter Tryz.func127, Tryz.ntmps127
  go_wp2_with fail
  refine HSH.out.mono ?_
  clear HSH n0 n1 n2
  generalize w.alloc (.cells #[.string fb, .pointer (some ⟨pb, 0, none⟩)] 132) = w0 at *
  rintro r w1 ⟨sv, vs, rfl, hsq, hb1⟩
  have HQ := hid hsq
  have HB1 := hid hb1
  have hnum := Tr.shares_num il 16 (by decide)
  have HSM := hid (Tr.sh_some _ il hnum.2.1)
  have HLEN : Hid ((Tr.shares il 16).length ≤ 100000 ∧ 0 < (Tr.shares il 16).length) := by
    unfold Tr.shares
    rw [Tr.sh_len]
    exact ⟨by omega, hnum.2.2 (by omega)⟩
  have HNE : Hid (∀ l ∈ Tr.shares il 16, l ≠ []) := HSM.out
  have HMP : Hid (Tr.shares (plain il) 16 = (Tr.shares il 16).map plain) := Tr.shares_map _ _ _
  clear hnum HSM hsq hb1
  generalize Tr.shares il 16 = ls at *
  obtain ⟨sa, sc, rfl⟩ := rowShape HQ.out.row
  have hvl : vs.length ≤ 100000 ∧ 0 < vs.length := by rw [HQ.out.many.n]; exact HLEN.out
  have hz01 : w0.heap.size ≤ w1.heap.size := HB1.out.size
  go_wp2_with fail
  go_loopw [3, 13] (fun t3 i wr => ∃ (j : Nat) (pl : List (ByteArray × Nat)), i = .int .i64 (j : Nat) ∧ pl.length = j ∧ j ≤ vs.length ∧ OwnsP w0.heap.size wr t3 pl ∧ ShQ w0.heap.size wr (.slice sa vs.length sc) vs ls ∧ LfM wr w1.heap.size pl vs ls ∧ Below w0.heap.size w0 wr ∧ w1.heap.size ≤ wr.heap.size) (fun _ i _ => vs.length - (intOf i).toNat)
  case atStart => exact ⟨0, [], rfl, rfl, Nat.zero_le _, World.ownsRow_nil _ _ _ _, HQ.out, ⟨by simp, HQ.out.many.n, fun i h => by simp at h, fun i h => by simp at h, by simp, fun x h => by simp at h⟩, HB1.out, Nat.le_refl _⟩
  case round =>
    obtain ⟨j, pl, rfl, hjl, hj, hop, hsq, hlf, hbel, hw1⟩ := hrel
    have HO := hid hop
    have HS := hid hsq
    have HL := hid hlf
    have HB := hid hbel
    have hbs := hbel.size
    clear hop hsq hlf hbel
    by_cases hlt : j < vs.length
    · have hlt' : j < ls.length := by rw [← HS.out.many.n]; exact hlt
      have hov := HS.out.many.o j hlt hlt'
      have hne : 0 < (ls[j]'hlt').length := by
        have := HNE.out _ (List.getElem_mem hlt')
        exact List.length_pos_iff.2 this
      obtain ⟨gj, cj, ej, hcj, -, hgj, d0, -⟩ := hov.at 0 hne
      rw [Nat.zero_mul] at d0
      obtain ⟨gs, sc', es, hcs⟩ : ∃ gs sc', Value.slice sa vs.length sc = .slice (some ⟨gs, 0, none⟩) vs.length sc' ∧ wr.cell? ⟨gs, j, none⟩ = some (vs[j]'hlt) := by
        rcases HS.out.row.2 with ⟨_, h0⟩ | ⟨gs, sc', cur, es, _⟩
        · omega
        · have := World.ownsRow.cells HS.out.row (g := gs) (by rw [es]; rfl) j (vs[j]'hlt) (List.getElem?_eq_getElem hlt)
          rw [add_at] at this
          exact ⟨gs, sc', es, by simpa using this⟩
      simp only [Value.slice.injEq, true_and] at es
      obtain ⟨rfl, rfl⟩ := es
      have HKY : Hid (((ls[j]'hlt')[0]'hne).1.data.toList = Tr.lkey (plain (ls[j]'hlt'))) := by
        show _ = _
        unfold Tr.lkey plain
        rw [List.head?_map, List.head?_eq_getElem?, List.getElem?_eq_getElem hne]; rfl
      have HEJ := hid ej
      rw [ej] at hcs
      generalize (ls[j]'hlt')[0]'hne = it at *
      obtain ⟨kb, vb⟩ := it
      generalize hll : (ls[j]'hlt').length = lj at *
      have hw2 := (Below.refl wr.heap.size wr).alloc (Nat.le_refl _) (.cells #[.slice (some ⟨gj, 0, none⟩) lj cj, .slice none 0 0, .slice none 0 0] 123)
      have HB2 : Hid (Below wr.heap.size wr ((wr.alloc (.cells #[.slice (some ⟨gj, 0, none⟩) lj cj, .slice none 0 0, .slice none 0 0] 123)).alloc (.cells #[.string kb, .pointer (some ⟨wr.heap.size, 0, none⟩)] 132))) := hw2.alloc (by simp) _
      have HN2 : Hid (NodT ((wr.alloc (.cells #[.slice (some ⟨gj, 0, none⟩) lj cj, .slice none 0 0, .slice none 0 0] 123)).alloc (.cells #[.string kb, .pointer (some ⟨wr.heap.size, 0, none⟩)] 132)) wr.heap.size (vs[j]'hlt) (.slice none 0 0) (.slice none 0 0)) := by
        rw [HEJ.out]
        exact (Below.heap_alloc _ _ _ (by simp)).trans (heap_alloc_new _ _)
      have HX2 : Hid (((wr.alloc (.cells #[.slice (some ⟨gj, 0, none⟩) lj cj, .slice none 0 0, .slice none 0 0] 123)).alloc (.cells #[.string kb, .pointer (some ⟨wr.heap.size, 0, none⟩)] 132)).heap[wr.heap.size + 1]? = some (.cells #[.string kb, .pointer (some ⟨wr.heap.size, 0, none⟩)] 132 (0, 0))) := by
        have h : (wr.alloc (.cells #[.slice (some ⟨gj, 0, none⟩) lj cj, .slice none 0 0, .slice none 0 0] 123)).heap.size = wr.heap.size + 1 := by simp
        show _ = _
        rw [← h]; exact heap_alloc_new _ _
      have HZW : Hid (wr.heap.size + 2 ≤ ((wr.alloc (.cells #[.slice (some ⟨gj, 0, none⟩) lj cj, .slice none 0 0, .slice none 0 0] 123)).alloc (.cells #[.string kb, .pointer (some ⟨wr.heap.size, 0, none⟩)] 132)).heap.size) := by show _ ≤ _; simp
      clear hov hw2
      go_wp2_with (generalize (wr.alloc (.cells #[.slice (some ⟨gj, 0, none⟩) lj cj, .slice none 0 0, .slice none 0 0] 123)).alloc (.cells #[.string kb, .pointer (some ⟨wr.heap.size, 0, none⟩)] 132) = w2 at *; at_builtin; refine wpApAt w2 rfl (.tmp 17) (.tmp 26) 121 132 Tryz.underlying121 _ 2 24 info_part rfl (by decide) (by decide) rfl w0.heap.size u3 pl.length (pcells pl) rfl (row_below HO.out HB2.out (Nat.le_refl _)) ⟨wr.heap.size + 1, 0, none⟩ 1 1 [.string kb, .pointer (some ⟨wr.heap.size, 0, none⟩)] rfl rfl (fun j u hj => by rw [off_add]; unfold World.cell?; simp only [HX2.out, Nat.zero_add]; simpa using hj) (by intro u hu; simp at hu; rcases hu with rfl | rfl <;> rfl) (by omega) (Nat.le_trans hbs HB2.out.size) ?_; intro v2 w3 ho3 hg3 hb3)
      have m3 : Mod (fun k => u3.ownBlock = some k) wr w3 := (Mod.of_below (F := fun _ => False) HB2.out).trans (Mod.of_grown hg3) (fun _ _ q => q.elim) (fun _ _ q => q)
      have HF : Hid (OwnsP w0.heap.size w3 v2 (pl ++ [(kb, wr.heap.size)]) ∧ ShQ w0.heap.size w3 (.slice (some ⟨gs, 0, none⟩) vs.length sc) vs ls ∧ LfM w3 w1.heap.size (pl ++ [(kb, wr.heap.size)]) vs ls ∧ Below w0.heap.size w0 w3 ∧ w1.heap.size ≤ w3.heap.size) := by
        refine ⟨?_, ⟨m3.row HS.out.row (fun g hg hg' => rowsE_apart HS.out.row HO.out (by decide) g hg hg'), HS.out.many.keep m3 (fun u hu k hk hk' => ?_)⟩, ?_, ?_, Nat.le_trans hw1 m3.size⟩
        · unfold OwnsP
          rw [List.length_append, pcells_append]
          exact ho3
        · obtain ⟨i, hi, rfl⟩ := List.getElem_of_mem hu
          exact rowsE_apart (HS.out.many.o i hi (by rw [← HS.out.many.n]; exact hi)) HO.out (by decide) k hk hk'
        · have hL3 := HL.out.keep m3 (fun x hx q => by
            obtain ⟨i, hi, rfl⟩ := List.getElem_of_mem hx
            exact nod_row (HL.out.nod i hi (by have := HL.out.n; omega)) HO.out (by decide) q)
          subst hjl
          refine hL3.snoc (kb, wr.heap.size) hlt ((Mod.of_grown hg3).nod HN2.out (fun q => ?_)) HKY.out (fun y hy => ?_) hw1
          · have := (World.ownsRow.lt HO.out _ q).2; omega
          · obtain ⟨i, hi, rfl⟩ := List.getElem_of_mem hy
            exact (HL.out.nod i hi (by have := HL.out.n; omega)).lt
        · exact (HB.out.trans (HB2.out.mono hbs)).grown hg3 (Nat.le_trans hbs HB2.out.size) (fun k hk => (World.ownsRow.lt HO.out k hk).1)
      exact ⟨⟨j + 1, pl ++ [(kb, wr.heap.size)], by go_num, by simp [hjl], by omega, HF.out⟩, by simp [intOf]; omega⟩
    · have hjv : j = vs.length := by omega
      have hvn := HS.out.many.n
      have h0 : 0 < pl.length := by omega
      obtain ⟨gp, pc, ep, hpc, hgB, hgp, y0, -⟩ := HO.out.at 0 h0
      rw [Nat.zero_mul] at y0
      have fr : wr.frozen? ⟨gp, 0, none⟩ = false := by
        rcases HO.out.2 with ⟨q, _⟩ | ⟨g', cap', cur, e', _, hg', _⟩
        · rw [ep] at q; simp at q
        · rw [ep] at e'
          simp only [Value.slice.injEq, Option.some.injEq, Addr.mk.injEq, and_true, true_and] at e'
          obtain ⟨rfl, rfl⟩ := e'
          simp [World.frozen?, hg']
      obtain ⟨x, pl', rfl⟩ : ∃ x pl', pl = x :: pl' := by cases pl with | nil => simp at h0 | cons x r => exact ⟨x, r, rfl⟩
      have hbx : PtB wr w.heap.size fb pb := (HB.out.block w.heap.size HSZ.out).trans HX0.out
      obtain ⟨bx0, -⟩ := hbx.cells
      clear hbx
      subst ep
      have HF : Hid (∃ G, CtQ 0 w (Tr.leafParts fb.data.toList (Tr.shares (plain il) 16)) (.slice (some ⟨gp, 0, none⟩) (x :: pl').length pc) ((fb, x.2) :: pl') G (wr.setCell ⟨gp, 0, none⟩ (.string fb)) ∧ (∀ g ∈ G, w.heap.size ≤ g) ∧ Below w.heap.size w (wr.setCell ⟨gp, 0, none⟩ (.string fb))) := by
        have m := Mod.setCell wr gp 0 (.string fb)
        have hnode : ∀ i (h : i < (x :: pl').length) (h' : i < vs.length), NodT (wr.setCell ⟨gp, 0, none⟩ (.string fb)) ((x :: pl')[i]'h).2 (vs[i]'(h')) (.slice none 0 0) (.slice none 0 0) := fun i h h' => m.nod (HL.out.nod i h h') (fun q => nod_row (HL.out.nod i h h') HO.out (by decide) (by rw [q]; rfl))
        have hrow : ∀ i (h : i < vs.length) (h' : i < ls.length), OwnsI 0 (wr.setCell ⟨gp, 0, none⟩ (.string fb)) (vs[i]'h) (ls[i]'(h')) := fun i h h' => m.row (row_zero (HS.out.many.o i h h')) (fun g hg q => rowsE_apart (HS.out.many.o i h h') HO.out (by decide) g hg (by rw [q]; rfl))
        have hk := kids_leaf (w := wr.setCell ⟨gp, 0, none⟩ (.string fb)) (pl := x :: pl') (vs := vs) (ls := ls) (by omega) hvn hnode hrow HL.out.key
        have hlow : ∀ g ∈ ((x :: pl').zip vs).flatMap (fun y => y.1.2 :: blk y.2), w0.heap.size ≤ g ∧ g ≠ gp := by
          intro g hg
          obtain ⟨⟨y, u⟩, hyu, hq⟩ := List.mem_flatMap.1 hg
          have hy := (List.of_mem_zip hyu).1
          have hu := (List.of_mem_zip hyu).2
          rcases List.mem_cons.1 hq with q | q
          · have q' : g = y.2 := q
            rw [q']
            refine ⟨Nat.le_trans hz01 (HL.out.low y hy), fun e => ?_⟩
            obtain ⟨i, hi, rfl⟩ := List.getElem_of_mem hy
            exact nod_row (HL.out.nod i hi (by have := HL.out.n; omega)) HO.out (by decide) (by rw [e]; rfl)
          · have q' := mem_blk.1 q
            refine ⟨(HS.out.many.lt hu g q').1, fun e => ?_⟩
            obtain ⟨i, hi, rfl⟩ := List.getElem_of_mem hu
            exact rowsE_apart (HS.out.many.o i hi (by omega)) HO.out (by decide) g q' (by rw [e]; rfl)
        refine ⟨_, ⟨row_shrink (OwnsP.setKey HO.out fb) (Nat.le_of_lt HSZ.out), ?_, ?_⟩, fun g hg => Nat.le_trans (Nat.le_of_lt HSZ.out) (hlow g hg).1, ?_⟩
        · rw [HMP.out]
          cases ls with
          | nil => rw [List.length_nil] at hvn; omega
          | cons l0 ls' =>
            obtain ⟨-, G1, G2, k1, k2, k3⟩ := hk
            exact ⟨rfl, G1, G2, k1, k2, k3⟩
        · refine List.nodup_append.2 ⟨blk_nodup _, nodup_leaf (C := w1.heap.size) HL.out.inc HS.out.many.a HL.out.low (fun v hv g hg => (HQ.out.many.lt hv g hg).2), fun a ha b hb e => ?_⟩
          have h1 := mem_blk.1 ha
          have h2 : gp = a := Option.some.inj h1
          exact (hlow b hb).2 (by rw [← e, ← h2])
        · exact (HB0.out.trans (HB.out.mono (Nat.le_of_lt HSZ.out))).setCell (p := ⟨gp, 0, none⟩) (Nat.le_trans (Nat.le_of_lt HSZ.out) hgB) _
      clear HO HS HL HB HQ HB1
      go_wp2_with fail
      go_ret
      obtain ⟨G, q⟩ := HF.out
      exact ⟨_, _, G, rfl, q⟩
end Go.Proofs.YtolgpnaoaodepaaGreat
/- The walk of cutBranch: what it makes, node by node. -/
namespace Go.Proofs.YtolgpnaoaodepaaGreat
open Go.RowKit

def pkey0 (l : List (ByteArray × Nat)) : List UInt8 := (l.head?.map (·.1.data.toList)).getD []
/-- Branches in the making: their parts, their changes. -/
structure BrM (w : World) (B : Nat) (pl : List (ByteArray × Nat)) (vs : List Value) (ls : List (List (ByteArray × Nat))) (vc : Nat → Value) : Prop where
  n : pl.length ≤ vs.length
  m : vs.length = ls.length
  nod : ∀ i (h : i < pl.length) (h' : i < vs.length), NodT w (pl[i]'h).2 (.slice none 0 0) (vs[i]'(h')) (vc i)
  key : ∀ i (h : i < pl.length) (h' : i < ls.length), (pl[i]'h).1.data.toList = pkey0 (ls[i]'(h'))
  inc : (pl.map (·.2)).Pairwise (· < ·)
  low : ∀ x ∈ pl, B ≤ x.2
theorem BrM.keep {w w' : World} {B : Nat} {pl : List (ByteArray × Nat)} {vs : List Value} {ls : List (List (ByteArray × Nat))} {vc : Nat → Value} (h : BrM w B pl vs ls vc) {F : Nat → Prop} (m : Mod F w w') (hF : ∀ x ∈ pl, ¬ F x.2) : BrM w' B pl vs ls vc :=
  ⟨h.n, h.m, fun i hi hi' => m.nod (h.nod i hi hi') (hF _ (List.getElem_mem hi)), h.key, h.inc, h.low⟩
theorem BrM.snoc {w : World} {B : Nat} {pl : List (ByteArray × Nat)} {vs : List Value} {ls : List (List (ByteArray × Nat))} {vc : Nat → Value} (h : BrM w B pl vs ls vc) (x : ByteArray × Nat) (hl : pl.length < vs.length) (hn : NodT w x.2 (.slice none 0 0) (vs[pl.length]'hl) (vc pl.length)) (hk : x.1.data.toList = pkey0 (ls[pl.length]'(by rw [← h.m]; exact hl))) (hx : ∀ y ∈ pl, y.2 < x.2) (hB : B ≤ x.2) : BrM w B (pl ++ [x]) vs ls vc := by
  refine ⟨by simp; omega, h.m, fun i hi hi' => ?_, fun i hi hi' => ?_, ?_, fun y hy => ?_⟩
  · by_cases q : i < pl.length
    · rw [List.getElem_append_left q]; exact h.nod i q hi'
    · have e : i = pl.length := by simp at hi; omega
      subst e
      simpa using hn
  · by_cases q : i < pl.length
    · rw [List.getElem_append_left q]; exact h.key i q hi'
    · have e : i = pl.length := by simp at hi; omega
      subst e
      simpa using hk
  · rw [List.map_append]
    refine List.pairwise_append.2 ⟨h.inc, by simp, fun a ha b hb => ?_⟩
    obtain ⟨y, hy, rfl⟩ := List.mem_map.1 ha
    simp at hb; subst hb
    exact hx y hy
  · rcases List.mem_append.1 hy with q | q
    · exact h.low y q
    · simp at q; subst q; exact hB
/-- The changes of each, so far. -/
structure BrC (w : World) (B : Nat) (pl : List (ByteArray × Nat)) (vc : Nat → Value) (cs : List (Int × ByteArray × ByteArray)) : Prop where
  o : ∀ i, i < pl.length → OwnsC B w (vc i) (cs.filter (atP pl i))
  a : ∀ i j, i < pl.length → j < pl.length → i ≠ j → ∀ g, (vc i).ownBlock = some g → (vc j).ownBlock ≠ some g
theorem BrC.next {w w' : World} {B : Nat} {pl : List (ByteArray × Nat)} {vc : Nat → Value} {cs : List (Int × ByteArray × ByteArray)} (h : BrC w B pl vc cs) (n : Nat) (c : Int × ByteArray × ByteArray) (hc : Tr.ix (pkeys pl) c.2.1.data.toList = n) (v : Value) (ho : OwnsC B w' v (cs.filter (atP pl n) ++ [c])) (hb : v.ownBlock = (vc n).ownBlock ∨ ∃ k, w.heap.size ≤ k ∧ v.ownBlock = some k) (hk : ∀ i, i < pl.length → i ≠ n → OwnsC B w' (vc i) (cs.filter (atP pl i))) (hn : n < pl.length) : BrC w' B pl (fun i => if i = n then v else vc i) (cs ++ [c]) := by
  refine ⟨fun i hi => ?_, fun i j hi hj hij g hg hg' => ?_⟩
  · rw [List.filter_append]
    by_cases e : i = n
    · subst e
      have : atP pl i c = true := decide_eq_true hc
      simp only [if_true, List.filter_cons, this, List.filter_nil]
      exact ho
    · have : atP pl i c = false := decide_eq_false (by rw [hc]; exact fun q => e q.symm)
      simp only [e, if_false, List.filter_cons, this, List.filter_nil, List.append_nil, Bool.false_eq_true]
      exact hk i hi e
  · by_cases ei : i = n
    · subst ei
      have ej : ¬ j = i := fun q => hij q.symm
      simp only [if_true, ej, if_false] at hg hg'
      rcases hb with q | ⟨k, hk', q⟩
      · exact h.a i j hi hj hij g (by rw [← q]; exact hg) hg'
      · have h1 := (World.ownsRow.lt (h.o j hj) g hg').2
        rw [q] at hg
        have := Option.some.inj hg
        omega
    · by_cases ej : j = n
      · subst ej
        simp only [ei, if_true, if_false] at hg hg'
        rcases hb with q | ⟨k, hk', q⟩
        · exact h.a i j hi hj hij g hg (by rw [← q]; exact hg')
        · have h1 := (World.ownsRow.lt (h.o i hi) g hg).2
          rw [q] at hg'
          have := Option.some.inj hg'
          omega
      · simp only [ei, ej, if_false] at hg hg'
        exact h.a i j hi hj hij g hg hg'
/-- What cutBranch makes. -/
structure CbQ (w : World) (pl : List (ByteArray × Nat)) (vs : List Value) (ls : List (List (ByteArray × Nat))) (vc : Nat → Value) (ml : List (Int × ByteArray × ByteArray)) (v : Value) (C : Nat) (w' : World) : Prop where
  len : pl.length = vs.length
  row : OwnsP w.heap.size w' v pl
  many : ManyP w.heap.size w' vs ls
  brm : BrM w' C pl vs ls vc
  brc : BrC w' C pl vc ml
  old : ∀ u ∈ vs, ∀ g, u.ownBlock = some g → g < C
  pv : ∀ g, v.ownBlock = some g → C ≤ g
  hC : w.heap.size ≤ C
  bel : Below w.heap.size w w'

set_option maxHeartbeats 1000000 in
set_option maxRecDepth 20000 in
theorem cutBranch_any (fb : ByteArray) (pb : Nat) (vp vc : Value) (pl0 : List (ByteArray × Nat)) (ml : List (Int × ByteArray × ByteArray)) (w : World) (hn : NodT w pb (.slice none 0 0) vp vc) (hv : OwnsP 0 w vp pl0) (hcs : OwnsC 0 w vc ml) (hl : 4 < pl0.length) (hl2 : pl0.length ≤ 100000) (hml : ml.length ≤ 100000) :
    Calls Tryz.prog 128 #[.agg #[.string fb, .pointer (some ⟨pb, 0, none⟩)]] w fun r w' => ∃ v pl vs vcs C, r = .returned v ∧ CbQ w pl vs (Tr.shares pl0 4) vcs ml v C w' := by
  obtain ⟨g, cap, e, hc, -, hg, -, -⟩ := hv.at 0 (by omega)
  subst e
  obtain ⟨ca, cc, rfl⟩ := rowShape hcs
  have HB0 := hid ((Below.refl w.heap.size w).alloc (Nat.le_refl _) (.cells #[.string fb, .pointer (some ⟨pb, 0, none⟩)] 132))
  have HX0 : Hid (PtB (w.alloc (.cells #[.string fb, .pointer (some ⟨pb, 0, none⟩)] 132)) w.heap.size fb pb) := heap_alloc_new _ _
  have hn0 : NodT (w.alloc (.cells #[.string fb, .pointer (some ⟨pb, 0, none⟩)] 132)) pb (.slice none 0 0) (.slice (some ⟨g, 0, none⟩) pl0.length cap) (.slice ca ml.length cc) := (HB0.out.block pb hn.lt).trans hn
  obtain ⟨n0, n1, n2, -⟩ := hn0.cells
  have hv0 : OwnsP 0 (w.alloc (.cells #[.string fb, .pointer (some ⟨pb, 0, none⟩)] 132)) (.slice (some ⟨g, 0, none⟩) pl0.length cap) pl0 := row_below hv HB0.out (Nat.le_refl _)
  have HSH := hid (sharesP_any g 0 pl0.length cap pl0 4 (w.alloc (.cells #[.string fb, .pointer (some ⟨pb, 0, none⟩)] 132)) rfl hc hl2 (by decide) (by decide) (fun j u hj => by
    have := World.ownsRow.cells hv0 (g := g) rfl j u hj
    rw [add_at] at this
    simpa using this) (by simp; omega))
  have HSZ : Hid (w.heap.size < (w.alloc (.cells #[.string fb, .pointer (some ⟨pb, 0, none⟩)] 132)).heap.size) := by show _ < _; simp
  have HN0 := hid hn0
  have HCS : Hid (OwnsC 0 (w.alloc (.cells #[.string fb, .pointer (some ⟨pb, 0, none⟩)] 132)) (.slice ca ml.length cc) ml) := row_below hcs HB0.out (Nat.le_refl _)
  clear hn0 hv0 hn hv hcs
  go_enter Tryz.func128, Tryz.ntmps128
  go_wp2_with fail
  refine HSH.out.mono ?_
  clear HSH n0 n1 n2
  generalize w.alloc (.cells #[.string fb, .pointer (some ⟨pb, 0, none⟩)] 132) = w0 at *
  rintro r w1 ⟨sv, vs, rfl, hsq, hb1⟩
  have HQ := hid hsq
  have HB1 := hid hb1
  have hnum := Tr.shares_num pl0 4 (by decide)
  have HSM := hid (Tr.sh_some _ pl0 hnum.2.1)
  have HLEN : Hid ((Tr.shares pl0 4).length ≤ 100000 ∧ 0 < (Tr.shares pl0 4).length) := by
    unfold Tr.shares
    rw [Tr.sh_len]
    exact ⟨by omega, hnum.2.2 (by omega)⟩
  have HNE : Hid (∀ l ∈ Tr.shares pl0 4, l ≠ []) := HSM.out
  clear hnum HSM hsq hb1
  generalize hls : Tr.shares pl0 4 = ls at *
  have HLS := hid hls
  clear hls
  obtain ⟨sa, sc, rfl⟩ := rowShape HQ.out.row
  have hvl : vs.length ≤ 100000 ∧ 0 < vs.length := by rw [HQ.out.many.n]; exact HLEN.out
  have hz01 : w0.heap.size ≤ w1.heap.size := HB1.out.size
  go_wp2_with fail
  go_loopw [3, 17] (fun t3 i wr => ∃ (j : Nat) (pl : List (ByteArray × Nat)), i = .int .i64 (j : Nat) ∧ pl.length = j ∧ j ≤ vs.length ∧ OwnsP w1.heap.size wr t3 pl ∧ ShP w0.heap.size wr (.slice sa vs.length sc) vs ls ∧ BrM wr w1.heap.size pl vs ls (fun _ => .slice none 0 0) ∧ Below w0.heap.size w0 wr ∧ w1.heap.size ≤ wr.heap.size) (fun _ i _ => vs.length - (intOf i).toNat)
  case atStart => exact ⟨0, [], rfl, rfl, Nat.zero_le _, World.ownsRow_nil _ _ _ _, HQ.out, ⟨by simp, HQ.out.many.n, fun i h => by simp at h, fun i h => by simp at h, by simp, fun x h => by simp at h⟩, HB1.out, Nat.le_refl _⟩
  case round =>
    obtain ⟨j, pl, rfl, hjl, hj, hop, hsq, hlf, hbel, hw1⟩ := hrel
    have HO := hid hop
    have HS := hid hsq
    have HL := hid hlf
    have HB := hid hbel
    have hbs := hbel.size
    clear hop hsq hlf hbel
    by_cases hlt : j < vs.length
    · have hlt' : j < ls.length := by rw [← HS.out.many.n]; exact hlt
      have hov := HS.out.many.o j hlt hlt'
      have hne : 0 < (ls[j]'hlt').length := by
        have := HNE.out _ (List.getElem_mem hlt')
        exact List.length_pos_iff.2 this
      obtain ⟨gj, cj, ej, hcj, -, hgj, d0, -⟩ := hov.at 0 hne
      rw [Nat.zero_mul] at d0
      obtain ⟨gs, sc', es, hcs⟩ : ∃ gs sc', Value.slice sa vs.length sc = .slice (some ⟨gs, 0, none⟩) vs.length sc' ∧ wr.cell? ⟨gs, j, none⟩ = some (vs[j]'hlt) := by
        rcases HS.out.row.2 with ⟨_, h0⟩ | ⟨gs, sc', cur, es, _⟩
        · omega
        · have := World.ownsRow.cells HS.out.row (g := gs) (by rw [es]; rfl) j (vs[j]'hlt) (List.getElem?_eq_getElem hlt)
          rw [add_at] at this
          exact ⟨gs, sc', es, by simpa using this⟩
      simp only [Value.slice.injEq, true_and] at es
      obtain ⟨rfl, rfl⟩ := es
      have HKY : Hid (((ls[j]'hlt')[0]'hne).1.data.toList = pkey0 (ls[j]'hlt')) := by
        show _ = _
        unfold pkey0
        rw [List.head?_eq_getElem?, List.getElem?_eq_getElem hne]; rfl
      have HEJ := hid ej
      rw [ej] at hcs
      generalize (ls[j]'hlt')[0]'hne = it at *
      obtain ⟨kb, vb⟩ := it
      generalize hll : (ls[j]'hlt').length = lj at *
      have hw2 := (Below.refl wr.heap.size wr).alloc (Nat.le_refl _) (.cells #[.slice none 0 0, .slice (some ⟨gj, 0, none⟩) lj cj, .slice none 0 0] 123)
      have HB2 : Hid (Below wr.heap.size wr ((wr.alloc (.cells #[.slice none 0 0, .slice (some ⟨gj, 0, none⟩) lj cj, .slice none 0 0] 123)).alloc (.cells #[.string kb, .pointer (some ⟨wr.heap.size, 0, none⟩)] 132))) := hw2.alloc (by simp) _
      have HN2 : Hid (NodT ((wr.alloc (.cells #[.slice none 0 0, .slice (some ⟨gj, 0, none⟩) lj cj, .slice none 0 0] 123)).alloc (.cells #[.string kb, .pointer (some ⟨wr.heap.size, 0, none⟩)] 132)) wr.heap.size (.slice none 0 0) (vs[j]'hlt) (.slice none 0 0)) := by
        rw [HEJ.out]
        exact (Below.heap_alloc _ _ _ (by simp)).trans (heap_alloc_new _ _)
      have HX2 : Hid (((wr.alloc (.cells #[.slice none 0 0, .slice (some ⟨gj, 0, none⟩) lj cj, .slice none 0 0] 123)).alloc (.cells #[.string kb, .pointer (some ⟨wr.heap.size, 0, none⟩)] 132)).heap[wr.heap.size + 1]? = some (.cells #[.string kb, .pointer (some ⟨wr.heap.size, 0, none⟩)] 132 (0, 0))) := by
        have h : (wr.alloc (.cells #[.slice none 0 0, .slice (some ⟨gj, 0, none⟩) lj cj, .slice none 0 0] 123)).heap.size = wr.heap.size + 1 := by simp
        show _ = _
        rw [← h]; exact heap_alloc_new _ _
      clear hov hw2
      go_wp2_with (generalize (wr.alloc (.cells #[.slice none 0 0, .slice (some ⟨gj, 0, none⟩) lj cj, .slice none 0 0] 123)).alloc (.cells #[.string kb, .pointer (some ⟨wr.heap.size, 0, none⟩)] 132) = w2 at *; at_builtin; refine wpApAt w2 rfl (.tmp 21) (.tmp 30) 121 132 Tryz.underlying121 _ 2 24 info_part rfl (by decide) (by decide) rfl w1.heap.size u3 pl.length (pcells pl) rfl (row_below HO.out HB2.out (Nat.le_refl _)) ⟨wr.heap.size + 1, 0, none⟩ 1 1 [.string kb, .pointer (some ⟨wr.heap.size, 0, none⟩)] rfl rfl (fun j u hj => by rw [off_add]; unfold World.cell?; simp only [HX2.out, Nat.zero_add]; simpa using hj) (by intro u hu; simp at hu; rcases hu with rfl | rfl <;> rfl) (by omega) (Nat.le_trans hw1 HB2.out.size) ?_; intro v2 w3 ho3 hg3 hb3)
      have m3 : Mod (fun k => u3.ownBlock = some k) wr w3 := (Mod.of_below (F := fun _ => False) HB2.out).trans (Mod.of_grown hg3) (fun _ _ q => q.elim) (fun _ _ q => q)
      have HF : Hid (OwnsP w1.heap.size w3 v2 (pl ++ [(kb, wr.heap.size)]) ∧ ShP w0.heap.size w3 (.slice (some ⟨gs, 0, none⟩) vs.length sc) vs ls ∧ BrM w3 w1.heap.size (pl ++ [(kb, wr.heap.size)]) vs ls (fun _ => .slice none 0 0) ∧ Below w0.heap.size w0 w3 ∧ w1.heap.size ≤ w3.heap.size) := by
        refine ⟨?_, ⟨m3.row HS.out.row (fun g hg hg' => rowsE_apart HS.out.row HO.out (by decide) g hg hg'), HS.out.many.keep m3 (fun u hu k hk hk' => ?_)⟩, ?_, ?_, Nat.le_trans hw1 m3.size⟩
        · unfold OwnsP
          rw [List.length_append, pcells_append]
          exact ho3
        · have h1 := (HQ.out.many.lt hu k hk).2
          have h2 := (World.ownsRow.lt HO.out k hk').1
          omega
        · have hL3 := HL.out.keep m3 (fun x hx q => by
            obtain ⟨i, hi, rfl⟩ := List.getElem_of_mem hx
            exact nod_row (HL.out.nod i hi (by have := HL.out.n; omega)) HO.out (by decide) q)
          subst hjl
          refine hL3.snoc (kb, wr.heap.size) hlt ((Mod.of_grown hg3).nod HN2.out (fun q => ?_)) HKY.out (fun y hy => ?_) hw1
          · have := (World.ownsRow.lt HO.out _ q).2; omega
          · obtain ⟨i, hi, rfl⟩ := List.getElem_of_mem hy
            exact (HL.out.nod i hi (by have := HL.out.n; omega)).lt
        · exact (HB.out.trans (HB2.out.mono hbs)).grown hg3 (Nat.le_trans hbs HB2.out.size) (fun k hk => Nat.le_trans hz01 (World.ownsRow.lt HO.out k hk).1)
      exact ⟨⟨j + 1, pl ++ [(kb, wr.heap.size)], by go_num, by simp [hjl], by omega, HF.out⟩, by simp [intOf]; omega⟩
    · have hjv : j = vs.length := by omega
      subst hjl
      have HPV := hid hjv
      have hpl5 : pl.length ≤ 100000 ∧ 0 < pl.length := by omega
      clear hjv
      obtain ⟨pa, pc, hps⟩ := rowShape HO.out
      subst hps
      have HB2 := hid ((Below.refl wr.heap.size wr).alloc (Nat.le_refl _) (.cells #[.slice none 0 0, .slice pa pl.length pc, .slice none 0 0] 123))
      have HAB : Hid (NodT (wr.alloc (.cells #[.slice none 0 0, .slice pa pl.length pc, .slice none 0 0] 123)) wr.heap.size (.slice none 0 0) (.slice pa pl.length pc) (.slice none 0 0)) := heap_alloc_new _ _
      have HBW := hid (HB.out.trans (HB2.out.mono hbs))
      have hbx : PtB (wr.alloc (.cells #[.slice none 0 0, .slice pa pl.length pc, .slice none 0 0] 123)) w.heap.size fb pb := (HBW.out.block w.heap.size HSZ.out).trans HX0.out
      obtain ⟨-, bx1⟩ := hbx.cells
      have hnb : NodT (wr.alloc (.cells #[.slice none 0 0, .slice pa pl.length pc, .slice none 0 0] 123)) pb (.slice none 0 0) (.slice (some ⟨g, 0, none⟩) pl0.length cap) (.slice ca ml.length cc) := (HBW.out.block pb HN0.out.lt).trans HN0.out
      obtain ⟨-, -, nb2, -⟩ := hnb.cells
      clear hbx hnb
      have HW2 : Hid (OwnsP w1.heap.size (wr.alloc (.cells #[.slice none 0 0, .slice pa pl.length pc, .slice none 0 0] 123)) (.slice pa pl.length pc) pl ∧ ManyP w0.heap.size (wr.alloc (.cells #[.slice none 0 0, .slice pa pl.length pc, .slice none 0 0] 123)) vs ls ∧ BrM (wr.alloc (.cells #[.slice none 0 0, .slice pa pl.length pc, .slice none 0 0] 123)) w1.heap.size pl vs ls (fun _ => .slice none 0 0)) := by
        have m := Mod.of_below (F := fun _ => False) HB2.out
        exact ⟨m.row HO.out (fun _ _ q => q), HS.out.many.keep m (fun _ _ _ _ q => q), HL.out.keep m (fun _ _ q => q)⟩
      have hwz : wr.heap.size < (wr.alloc (.cells #[.slice none 0 0, .slice pa pl.length pc, .slice none 0 0] 123)).heap.size := HAB.out.lt
      have HPAB : Hid (∀ x ∈ pl, x.2 < wr.heap.size) := fun x hx => by
        obtain ⟨i, hi, rfl⟩ := List.getElem_of_mem hx
        exact (HL.out.nod i hi (by have := HL.out.n; omega)).lt
      clear HO HS HL HB HB2
      go_upto_region 9 with fail
      generalize wr.alloc (.cells #[.slice none 0 0, .slice pa pl.length pc, .slice none 0 0] 123) = w2 at *
      have hw1' : w1.heap.size ≤ wr.heap.size := hw1
      generalize hab : wr.heap.size = ab at *
      have HABS := hid hab
      clear hab hbs hw1
      go_loopw [41] (fun i wx => ∃ (k : Nat) (vcs : Nat → Value), i = .int .i64 (k : Nat) ∧ k ≤ ml.length ∧ OwnsP w1.heap.size wx (.slice pa pl.length pc) pl ∧ ManyP w0.heap.size wx vs ls ∧ BrM wx w1.heap.size pl vs ls vcs ∧ BrC wx w1.heap.size pl vcs (ml.take k) ∧ NodT wx ab (.slice none 0 0) (.slice pa pl.length pc) (.slice none 0 0) ∧ Below w0.heap.size w0 wx ∧ ab < wx.heap.size) (fun i _ => ml.length - (intOf i).toNat)
      case atStart => exact ⟨0, fun _ => .slice none 0 0, rfl, Nat.zero_le _, HW2.out.1, HW2.out.2.1, HW2.out.2.2, ⟨fun i _ => by rw [List.take_zero]; exact World.ownsRow_nil _ _ _ _, fun i j _ _ _ g hg => by simp [Value.ownBlock] at hg⟩, HAB.out, HBW.out, hwz⟩
      case round =>
        obtain ⟨k, vcs, rfl, hk, hop, hmany, hbrm, hbrc, habn, hbel, habl⟩ := hrel
        have HO := hid hop
        have HM := hid hmany
        have HR := hid hbrm
        have HC := hid hbrc
        have HA := hid habn
        have HB := hid hbel
        have hbs := hbel.size
        clear hop hmany hbrm hbrc habn hbel
        by_cases hlt2 : k < ml.length
        · obtain ⟨gc, cap2, e, hc1, -, hgc, d0, d1, d2⟩ := HCS.out.at k hlt2
          simp only [Value.slice.injEq] at e
          obtain ⟨rfl, -, rfl⟩ := e
          have hs1 := fun o => HB.out.cell (p := ⟨gc, o, none⟩) hgc
          have d0' := (hs1 _).trans d0
          have d1' := (hs1 _).trans d1
          have d2' := (hs1 _).trans d2
          clear hs1 d0 d1 d2
          have HTK : Hid (ml.take (k + 1) = ml.take k ++ [ml[k]'hlt2]) := by show _ = _; rw [List.take_add_one, List.getElem?_eq_getElem hlt2]; rfl
          generalize ml[k]'hlt2 = c at *
          obtain ⟨ck, ckey, cx⟩ := c
          have HB3 := hid ((Below.refl wr.heap.size wr).alloc (Nat.le_refl _) (.cells #[.int .i64 ck, .string ckey, .string cx] 34))
          have HX3 : Hid (ChB (wr.alloc (.cells #[.int .i64 ck, .string ckey, .string cx] 34)) wr.heap.size ck ckey cx) := heap_alloc_new _ _
          have HA3 : Hid (NodT (wr.alloc (.cells #[.int .i64 ck, .string ckey, .string cx] 34)) ab (.slice none 0 0) (.slice pa pl.length pc) (.slice none 0 0)) := (HB3.out.block ab habl).trans HA.out
          have HO3 : Hid (OwnsP w1.heap.size (wr.alloc (.cells #[.int .i64 ck, .string ckey, .string cx] 34)) (.slice pa pl.length pc) pl) := row_below HO.out HB3.out (Nat.le_refl _)
          have HF := hid (tFind_any ab w1.heap.size _ _ _ pl ckey _ HA3.out HO3.out (by omega))
          have hixl : Tr.ix (pkeys pl) ckey.data.toList < pl.length := by
            have := ix_lt (pkeys pl) ckey.data.toList (by intro q; unfold pkeys at q; rw [List.map_eq_nil_iff] at q; rw [q] at hpl5; simp at hpl5)
            simpa [pkeys] using this
          go_wp2_with fail
          refine HF.out.mono ?_
          rintro r w3 ⟨rfl, hw3⟩
          have hbs3 := HB3.out.size
          rw [← hw3] at HB3 HX3 HA3 HO3 hbs3
          clear hw3 HF d0' d1' d2'
          have HR3 := hid (HR.out.keep (Mod.of_below (F := fun _ => False) HB3.out) (fun _ _ q => q))
          have HM3 := hid (HM.out.keep (Mod.of_below (F := fun _ => False) HB3.out) (fun _ _ _ _ q => q))
          have HC3 : Hid (∀ i, i < pl.length → OwnsC w1.heap.size w3 (vcs i) ((ml.take k).filter (atP pl i))) := fun i hi => row_below (HC.out.o i hi) HB3.out (Nat.le_refl _)
          generalize hixe : Tr.ix (pkeys pl) ckey.data.toList = ix at *
          have HIX := hid hixe
          clear hixe
          obtain ⟨gp, pc', ep, hpc, -, hgp, -, y1⟩ := HO3.out.at ix hixl
          simp only [Value.slice.injEq] at ep
          obtain ⟨rfl, -, rfl⟩ := ep
          have hnod := HR3.out.nod ix hixl (by have := HPV.out; omega)
          obtain ⟨-, -, m2, -, -, f2⟩ := hnod.cells
          have HND := hid hnod
          have hpw := hnod.lt
          clear hnod
          have HPI : Hid (∀ i (h : i < pl.length), i ≠ ix → (pl[i]'h).2 ≠ (pl[ix]'hixl).2) := fun i h hne q => by
            have hp := List.pairwise_iff_getElem.1 HR3.out.inc
            rcases Nat.lt_or_gt_of_ne hne with q' | q'
            · have := hp i ix (by simpa using h) (by simpa using hixl) q'
              simp only [List.getElem_map] at this; omega
            · have := hp ix i (by simpa using hixl) (by simpa using h) q'
              simp only [List.getElem_map] at this; omega
          have HLOW := hid (HR3.out.low _ (List.getElem_mem hixl))
          generalize hpe : (pl[ix]'hixl).2 = pi at *
          have HPE := hid hpe
          clear hpe
          obtain ⟨va, vn, vcc, hvs⟩ := shape3 (HC3.out ix hixl)
          have hll : ((ml.take k).filter (atP pl ix)).length ≤ 100000 := by have := List.length_filter_le (atP pl ix) (ml.take k); rw [List.length_take] at this; omega
          have HB4 := hid ((Below.refl w3.heap.size w3).drew.alloc (Nat.le_refl _) (.cells #[.int .i64 ck, .string ckey, .string cx] 34))
          obtain ⟨inf, hinf, hz0, hz1, hz2⟩ := info_parts info_change
          obtain ⟨v5, w5, hrun, ho5, hg5, -, hb5⟩ := run_append_own_at (P := Tryz.prog) (w3.drew.alloc (.cells #[.int .i64 ck, .string ckey, .string cx] 34)) w1.heap.size 77 77 34 inf _ 3 40 Tryz.underlying77 hinf hz0 hz1 hz2 rfl (by decide) (vcs ix) _ _ (row_below (HC3.out ix hixl) HB4.out (Nat.le_refl _)) ⟨w3.heap.size, 0, none⟩ 1 1 [.int .i64 ck, .string ckey, .string cx] rfl (fun j u hj => by
            rw [off_add]
            have h := heap_alloc_new w3.drew (.cells #[.int .i64 ck, .string ckey, .string cx] 34)
            unfold World.cell?
            simp only [Nat.zero_add]
            rw [show (w3.drew.alloc (.cells #[.int .i64 ck, .string ckey, .string cx] 34)).heap[w3.heap.size]? = _ from h]
            simpa using hj) (by intro u hu; simp at hu; rcases hu with rfl | rfl | rfl <;> rfl) (by unfold maxLen; omega) (by omega) (by have := HB4.out.size; have := HB.out.size; omega)
          have HRUN := hid hrun
          have m5 : Mod (fun q => (vcs ix).ownBlock = some q) w3 w5 := (Mod.of_below (F := fun _ => False) HB4.out).trans (Mod.of_grown hg5) (fun _ _ q => q.elim) (fun _ _ q => q)
          have hnp : (vcs ix).ownBlock ≠ some pi := nod_row HND.out (HC3.out ix hixl) (by decide)
          have hn5 := m5.nod HND.out hnp
          obtain ⟨-, -, m2', -, -, f2'⟩ := hn5.cells
          obtain ⟨x5, y5, z5, hv5⟩ := shape3 ho5
          have HFIN : Hid (∃ vcs', OwnsP w1.heap.size (w5.setCell ⟨pi, 2, none⟩ v5) (.slice (some ⟨gp, 0, none⟩) pl.length pc) pl ∧ ManyP w0.heap.size (w5.setCell ⟨pi, 2, none⟩ v5) vs ls ∧ BrM (w5.setCell ⟨pi, 2, none⟩ v5) w1.heap.size pl vs ls vcs' ∧ BrC (w5.setCell ⟨pi, 2, none⟩ v5) w1.heap.size pl vcs' (ml.take (k + 1)) ∧ NodT (w5.setCell ⟨pi, 2, none⟩ v5) ab (.slice none 0 0) (.slice (some ⟨gp, 0, none⟩) pl.length pc) (.slice none 0 0) ∧ Below w0.heap.size w0 (w5.setCell ⟨pi, 2, none⟩ v5) ∧ ab < (w5.setCell ⟨pi, 2, none⟩ v5).heap.size) := by
            have ms := Mod.setCell w5 pi 2 v5
            have m6 : Mod (fun q => q = pi ∨ (vcs ix).ownBlock = some q) w3 (w5.setCell ⟨pi, 2, none⟩ v5) := m5.trans ms (fun _ _ q => .inr q) (fun _ _ q => .inl q)
            have hpab : pi < ab := by have := HPAB.out _ (List.getElem_mem hixl); rw [HPE.out] at this; exact this
            have hab3 : ab < w3.heap.size := Nat.lt_of_lt_of_le habl hbs3
            refine ⟨fun i => if i = ix then v5 else vcs i, m6.row HO3.out ?_, HM3.out.keep m6 ?_, ⟨HR3.out.n, HR3.out.m, fun i hi hi' => ?_, HR3.out.key, HR3.out.inc, HR3.out.low⟩, ?_, m6.nod HA3.out ?_, ?_, Nat.lt_of_lt_of_le hab3 m6.size⟩
            · rintro q hq (rfl | q')
              · exact nod_row HND.out HO3.out (by decide) hq
              · exact rowsE_apart HO3.out (HC3.out ix hixl) (by decide) q hq q'
            · rintro u hu q hq (rfl | q')
              · obtain ⟨i, hi, rfl⟩ := List.getElem_of_mem hu
                exact nod_row HND.out (HM3.out.o i hi (by have := HM3.out.n; omega)) (by decide) hq
              · obtain ⟨i, hi, rfl⟩ := List.getElem_of_mem hu
                exact rowsE_apart (HM3.out.o i hi (by have := HM3.out.n; omega)) (HC3.out ix hixl) (by decide) q hq q'
            · by_cases e : i = ix
              · subst e
                simp only [if_true]
                have := hn5.setc v5
                rw [HPE.out]; exact this
              · simp only [e, if_false]
                refine m6.nod (HR3.out.nod i hi hi') ?_
                rintro (q | q)
                · exact HPI.out i hi e q
                · exact nod_row (HR3.out.nod i hi hi') (HC3.out ix hixl) (by decide) q
            · rw [HTK.out]
              refine BrC.next (w := w3) ⟨HC3.out, HC.out.a⟩ ix (ck, ckey, cx) HIX.out v5 ?_ ?_ (fun i hi hne => m6.row (HC3.out i hi) ?_) hixl
              · unfold OwnsC
                rw [List.length_append, ccells_one]
                exact ms.row ho5 (fun q hq e => nod_row hn5 ho5 (by decide) (by rw [← e]; exact hq))
              · rcases hb5 with q | q
                · exact .inl q
                · exact .inr ⟨_, HB4.out.size, q⟩
              · rintro q hq (rfl | q')
                · exact nod_row HND.out (HC3.out i hi) (by decide) hq
                · exact HC.out.a i ix hi hixl hne q hq q'
            · rintro (q | q)
              · omega
              · have := (World.ownsRow.lt (HC3.out ix hixl) ab q)
                exact nod_row HA3.out (HC3.out ix hixl) (by decide) q
            · have hb3 := HB.out.trans (HB3.out.mono hbs)
              have hz3 : w0.heap.size ≤ w3.heap.size := hb3.size
              have hb5' : Below w0.heap.size w0 w5 := (hb3.trans (HB4.out.mono hz3)).grown hg5 (Nat.le_trans hz3 HB4.out.size) (fun q hq => Nat.le_trans hz01 (World.ownsRow.lt (HC3.out ix hixl) q hq).1)
              exact hb5'.setCell (p := ⟨pi, 2, none⟩) (Nat.le_trans hz01 HLOW.out) v5
          rw [hvs] at m2 HRUN
          obtain ⟨x0, x1, x2⟩ := HX3.out.cells
          have hbx : wr.heap.size < w3.heap.size := HX3.out.lt
          clear hvs ho5 hg5 hb5 hn5 m5 hnp HO HM HR HC HA HB HB3 HA3 HO3 HR3 HM3 HC3 HND HPI HB4 hrun hinf hz0 hz1 hz2
          subst hv5
          go_upto_region 12 with fail
          go_region_law (refine stepAp _ (by rfl) (.tmp 56) (.tmp 58) _ _ (by rfl) _ _ (by simp [Act.eval]) (by simp [Act.eval]) _ _ HRUN.out ?_)
          all_goals
            go_wp2_with fail
            obtain ⟨vcs', hF⟩ := HFIN.out
            exact ⟨⟨k + 1, vcs', by go_num, by omega, hF⟩, by simp [intOf]; omega⟩
        · have hkl : k = ml.length := by omega
          subst hkl
          rw [List.take_length] at HC
          have HFIN : Hid (CbQ w pl vs ls vcs ml (.slice pa pl.length pc) w1.heap.size wr) := ⟨HPV.out, row_shrink HO.out (Nat.le_trans (Nat.le_of_lt HSZ.out) hz01), ⟨HM.out.n, fun i hi hi' => row_shrink (HM.out.o i hi hi') (Nat.le_of_lt HSZ.out), HM.out.a⟩, HR.out, HC.out, fun u hu g hg => (HQ.out.many.lt hu g hg).2, fun g hg => (World.ownsRow.lt HO.out g hg).1, Nat.le_trans (Nat.le_of_lt HSZ.out) hz01, HB0.out.trans (HB.out.mono (Nat.le_of_lt HSZ.out))⟩
          clear HO HM HR HC HA HB
          go_wp2_with fail
          go_ret
          exact ⟨_, pl, vs, vcs, w1.heap.size, rfl, by rw [HLS.out]; exact HFIN.out⟩
end Go.Proofs.YtolgpnaoaodepaaGreat
/- slices.Delete of a part. -/
namespace Go.Proofs.YtolgpnaoaodepaaGreat
open Go.RowKit

/-- A row's items, from a place on, lie there. -/
theorem parts_src {w : World} {g cap : Nat} {il : List (ByteArray × Nat)} (h : OwnsP 0 w (.slice (some ⟨g, 0, none⟩) il.length cap) il) (i : Nat) (hi : i ≤ il.length) : ∀ j u, (pcells (il.drop i))[j]? = some u → w.cell? ⟨g, i * 2 + j, none⟩ = some u := by
  intro j u hj
  rw [pcells_drop _ _ hi, List.getElem?_drop] at hj
  have := World.ownsRow.cells h (g := g) rfl _ _ hj
  rwa [add_at] at this
theorem zeroP : ∀ w, (Go.zeroValue 132).run Tryz.prog w = .ok (.agg #[.string ⟨#[]⟩, .pointer none]) w := by
  intro w
  obtain ⟨i, hi, hz0, hz1, hz2⟩ := info_parts info_part
  simp [Go.zeroValue, typeInfo, hi, hz0]
theorem zeroP_cells (n : Nat) : (Builtin.zeroCells (Value.agg #[.string ⟨#[]⟩, .pointer none]).cells n).size = n * 2 ∧ ∀ v ∈ (Builtin.zeroCells (Value.agg #[.string ⟨#[]⟩, .pointer none]).cells n).toList, v.oneCell' = true := by
  constructor
  · rw [size_zeroCells]; rfl
  · intro v hv
    simp only [Builtin.zeroCells, Array.toList_map, List.mem_map] at hv
    obtain ⟨i, _, rfl⟩ := hv
    show ((#[Value.string ⟨#[]⟩, Value.pointer none] : Array Value)[i % 2]!).oneCell' = true
    rcases (show i % 2 = 0 ∨ i % 2 = 1 by omega) with q | q <;> rw [q] <;> rfl

set_option maxHeartbeats 1000000 in
set_option maxRecDepth 20000 in
theorem deleteP_any (v : Value) (il : List (ByteArray × Nat)) (i : Nat) (w : World) (hi : i < il.length) (h : OwnsP 0 w v il) (hl : il.length ≤ 1000000) :
    Calls Tryz.prog 225 #[v, .int .i64 (i : Nat), .int .i64 ((i : Nat) + 1)] w fun r w' => ∃ v', r = .returned v' ∧ OwnsP 0 w' v' (il.take i ++ il.drop (i + 1)) ∧ w.grownBy w' v.ownBlock ∧ v'.ownBlock = v.ownBlock := by
  rcases h.2 with ⟨_, hn⟩ | ⟨g, cap, cur, rfl, hb, hg, hc, hm, hcs, htk⟩
  · omega
  have hcap : cap ≤ 9223372036854775807 := by unfold maxLen at hm; omega
  obtain ⟨inf, hinf, hz0, hz1, hz2⟩ := info_parts info_part
  obtain ⟨ad, had, hnews⟩ : ∃ ad : Addr, (if cap = i + 1 then some ⟨g, 0, none⟩ else some ⟨g, (i + 1) * 2, none⟩) = some ad ∧ ∀ j u, (pcells (il.drop (i + 1)))[j]? = some u → w.drew.cell? (ad.add j) = some u := by
    by_cases hce : cap = i + 1
    · refine ⟨⟨g, 0, none⟩, if_pos hce, fun j u hj => ?_⟩
      rw [List.drop_of_length_le (by omega)] at hj
      simp [pcells] at hj
    · refine ⟨⟨g, (i + 1) * 2, none⟩, if_neg hce, fun j u hj => ?_⟩
      rw [off_add]
      exact parts_src h (i + 1) (by omega) j u hj
  have hnl : (pcells (il.drop (i + 1))).length = (il.length - (i + 1)) * inf.size := by rw [pcells_len, List.length_drop, hz1]
  have hclen : cur.toList.length = cap * 2 := by simpa using hcs
  have e1 := run_append_room (P := Tryz.prog) w.drew 121 121 132 inf Tryz.underlying121 hinf g i cap cur hg ad (il.length - (i + 1)) (cap - (i + 1)) (pcells (il.drop (i + 1))) hnl hnews (one_pcells _) (by omega) (by rw [hz1, pcells_len, List.length_drop, hcs]; omega)
  rw [hz1] at e1
  have hil' : i + (il.length - (i + 1)) = il.length - 1 := by omega
  have hln : (pcells (il.drop (i + 1))).length = (il.length - 1 - i) * 2 := by rw [pcells_len, List.length_drop]; omega
  -- the row behind the append
  have hR1 : (cur.toList.take (i * 2) ++ pcells (il.drop (i + 1)) ++ cur.toList.drop (i * 2 + (pcells (il.drop (i + 1))).length)).length = cap * 2 := by
    simp only [List.length_append, List.length_take, List.length_drop, hln, hclen]; omega
  have hT1 : (cur.toList.take (i * 2) ++ pcells (il.drop (i + 1)) ++ cur.toList.drop (i * 2 + (pcells (il.drop (i + 1))).length)).take ((il.length - 1) * 2) = pcells (il.take i ++ il.drop (i + 1)) := by
    rw [List.take_append_of_le_length (by simp only [List.length_append, List.length_take, hln, hclen]; omega), List.take_of_length_le (by simp only [List.length_append, List.length_take, hln, hclen]; omega), pcells_append, pcells_take _ _ (by omega)]
    rw [← htk, List.take_take]
    congr 2
    omega
  generalize hc1 : cur.toList.take (i * 2) ++ pcells (il.drop (i + 1)) ++ cur.toList.drop (i * 2 + (pcells (il.drop (i + 1))).length) = cur1 at *
  have HG1 := hid (setRow_at (w := w.drew) hg cur1)
  have HGR1 := hid (setRow_grown w.drew g cur1.toArray)
  have HM := hid hm
  have HR1 := hid hR1
  have HT1 := hid hT1
  have HE1 := hid e1
  have HFIN : Hid (∀ Z : List Value, Z.length = 2 → OwnsP 0 ((w.drew.setRow g cur1.toArray).setRow g (cur1.take ((il.length - 1) * 2) ++ (Z ++ cur1.drop ((il.length - 1) * 2 + 2))).toArray) (.slice (some ⟨g, 0, none⟩) (il.length - 1) cap) (il.take i ++ il.drop (i + 1)) ∧ w.grownBy ((w.drew.setRow g cur1.toArray).setRow g (cur1.take ((il.length - 1) * 2) ++ (Z ++ cur1.drop ((il.length - 1) * 2 + 2))).toArray) (some g)) := by
    intro Z hZ
    have hll : (il.take i ++ il.drop (i + 1)).length = il.length - 1 := by simp; omega
    constructor
    · unfold OwnsP
      rw [hll]
      refine row_of (setRow_at HG1.out _) (by omega) hm ?_ ?_ (by rw [pcells_len, hll])
      · simp only [List.length_append, List.length_take, List.length_drop, hR1, hZ]; omega
      · rw [List.take_append_of_le_length (by rw [List.length_take, hR1]; omega), List.take_take, Nat.min_self, hT1]
    · have h1 := setRow_grown w.drew g cur1.toArray
      have h2 := setRow_grown (w.drew.setRow g cur1.toArray) g (cur1.take ((il.length - 1) * 2) ++ (Z ++ cur1.drop ((il.length - 1) * 2 + 2))).toArray
      exact ⟨h2.os.trans h1.os, h2.tape.trans h1.tape, h2.output.trans h1.output, Nat.le_trans h1.size h2.size, fun k hk hne => (h2.block k (Nat.lt_of_lt_of_le hk h1.size) hne).trans (h1.block k hk hne)⟩
  clear e1 hc1 hg hcs htk h hm hb hR1 hT1 hnews hnl hclen hln
  have hic : i ≤ cap := by omega
  have hic2 : (i : Int) ≤ (cap : Int) := by omega
  have hil : i + 1 ≤ il.length := by omega
  have hil2 : (i : Int) + 1 ≤ (il.length : Int) := by omega
  have hil3 : (0 : Int) ≤ (i : Int) + 1 := by omega
  have hic4 : i + 1 ≤ cap := by omega
  have hne : ((i : Int) == (i : Int) + 1) = false := by simp; omega
  go_enter Tryz.func225, Tryz.ntmps225
  go_upto_region 5 with fail
  go_region_law (refine stepAp _ (by rfl) (.tmp 22) (.tmp 25) _ _ (by rfl) _ _ (by rfl) (by simp [Act.eval]; rfl) _ _ HE1.out ?_)
  all_goals
    have hcn : ¬ cap = il.length - 1 := by omega
    have h11 : il.length - (il.length - 1) = 1 := by omega
    have hb1 : il.length - 1 ≤ il.length := by omega
    have hb2 : il.length ≤ cap := hc
    go_wp2_with (refine wpCl _ (by rfl) (.tmp 31) 121 (by rfl) _ (by rfl) _ _ (run_clear_at _ _ _ 132 (.agg #[.string ⟨#[]⟩, .pointer none]) 2 g ((il.length - 1) * 2) 1 (cap - (il.length - 1)) cur1.toArray 132 Tryz.underlying121 zeroP (zeroP_cells 1).1 (zeroP_cells 1).2 HG1.out (by have := HR1.out; simp; omega)) ?_)
    go_ret
    have hF := HFIN.out (Builtin.zeroCells #[Value.string ⟨#[]⟩, Value.pointer none] 1).toList (by rw [Array.length_toList, size_zeroCells]; rfl)
    exact ⟨_, rfl, hF.1, hF.2, rfl⟩
end Go.Proofs.YtolgpnaoaodepaaGreat
