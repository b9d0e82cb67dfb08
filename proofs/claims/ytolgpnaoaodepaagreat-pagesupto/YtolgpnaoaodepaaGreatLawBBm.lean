/- A script that came in: its steps' texts and nodes. -/
import Derived.Test.YtolgpnaoaodepaaGreatLawYm
import Derived.Test.YtolgpnaoaodepaaGreatLawBm
import Derived.Test.YtolgpnaoaodepaaGreatRefXm
import Derived.Deep.DrawnRows
namespace Go.Proofs.YtolgpnaoaodepaaGreat
open Go.ChangeShapes Go.WideShapes Go.ChangeAt Go.RowKit Go.Deep

theorem cellsItem : Tryz.prog.cellsOf 51 = 2 := by kernel_rfl
theorem cellsChg : Tryz.prog.cellsOf 34 = 3 := by kernel_rfl
theorem cellsNode : Tryz.prog.cellsOf 79 = 5 := by kernel_rfl
theorem list_of {α : Type} (P : Nat → α → Prop) : ∀ (n : Nat), (∀ i, i < n → ∃ x, P i x) → ∃ l : List α, l.length = n ∧ ∀ i (h : i < l.length), P i (l[i]'h)
  | 0, _ => ⟨[], rfl, fun i h => absurd h (by simp)⟩
  | n + 1, h => by
    obtain ⟨l, hl, hp⟩ := list_of P n fun i hi => h i (by omega)
    obtain ⟨x, hx⟩ := h n (by omega)
    refine ⟨l ++ [x], by simp [hl], fun i hi => ?_⟩
    by_cases hin : i < l.length
    · rw [List.getElem_append_left hin]; exact hp i hin
    · have : i = n := by simp at hi; omega
      subst this
      rw [List.getElem_append_right (by omega)]
      simpa [hl] using hx
theorem add_plain (b off j : Nat) : (⟨b, off, none⟩ : Addr).add j = ⟨b, off + j, none⟩ := by
  unfold Addr.add; split
  · rename_i h0; rw [h0]; rfl
  · rfl
/-- A list that came in: its elements, one by one. -/
theorem slice_rows {H : Type} {enc : TypeId × Value → H} {W : World} {fuel : Nat} {v : Value} {d : DataW H} {pl : List MemPlace} {t e : TypeId} (sz : Nat) (hz : 0 < sz) (ht : Tryz.prog.underlying t = some (.slice e)) (he : Tryz.prog.cellsOf e = sz)
    (hd : DataW.trod enc Tryz.prog W 0 (fun _ => true) true fuel t [v] = some (d, pl)) (hb : Rows.uptoBulk d ≤ 1048576) :
    ∃ a n cap, v = .slice a n cap ∧ n ≤ 1048576 ∧ (n = 0 ∨ ∃ b off, a = some ⟨b, off, none⟩ ∧ n ≤ cap ∧ cap ≤ maxLen ∧ b < W.heap.size ∧ ∀ i, i < n → ∃ cs fuel' d' pl', W.cells? 0 ⟨b, off + i * sz, none⟩ sz = some cs ∧ DataW.trod enc Tryz.prog W 0 (fun _ => true) true fuel' e cs = some (d', pl') ∧ Rows.uptoBulk d' ≤ 1048576) := by
  rcases open_slice ht hd with ⟨hcs, _⟩ | ⟨ad, len, cp, m, q, D, Pl, hcs, _, hl, hm, hmm, hx, hel⟩
  · simp at hcs; exact ⟨none, 0, 0, hcs, by omega, .inl rfl⟩
  · simp only [List.cons.injEq, and_true] at hcs
    subst hcs
    have hd' : d = .slice ((List.range len).map D) ((List.range (m - len)).map fun j => D (len + j)) := congrArg Prod.fst hx
    rw [hd'] at hb
    simp only [Rows.uptoBulk] at hb
    have hbe : ∀ i, i < len → Rows.uptoBulk (D i) ≤ 1048576 := fun i hi => by
      have := bulk_part (d := D i) (l := (List.range len).map D) (List.mem_map.2 ⟨i, List.mem_range.2 hi, rfl⟩)
      omega
    have hle := bulk_len ((List.range len).map D)
    rw [List.length_map, List.length_range] at hle
    refine ⟨some ad, len, cp, rfl, by omega, ?_⟩
    by_cases hn : len = 0
    · exact .inl hn
    · right
      have hmn : len ≤ m := by rw [hmm]; split <;> omega
      obtain ⟨blk, off, spot⟩ := ad
      rw [he] at hel
      obtain ⟨cs0, hc0, _⟩ := hel 0 (by omega)
      obtain ⟨_, _, hcell0⟩ := World.cells?_some hc0
      have hlen0 : cs0.length = sz := (World.cells?_some hc0).2.1
      have h00 := hcell0 0 (by omega)
      rw [List.getElem?_eq_getElem (by omega)] at h00
      have hspot : spot = none := by simpa [Addr.add] using World.cell?_spot h00
      subst hspot
      have hblk : blk < W.heap.size := by
        have h01 : W.cell? ⟨blk, off, none⟩ = some cs0[0] := by simpa [Addr.add] using h00
        exact block_lt h01
      refine ⟨blk, off, rfl, hl, hm, hblk, fun i hi => ?_⟩
      obtain ⟨cs', h1, h2⟩ := hel i (by omega)
      rw [add_plain] at h1
      exact ⟨cs', q, D i, Pl i, h1, h2, hbe i hi⟩
theorem cells_at {W : World} {b o n : Nat} {cs : List Value} (h : W.cells? 0 ⟨b, o, none⟩ n = some cs) : cs.length = n ∧ ∀ j, j < n → W.cell? ⟨b, o + j, none⟩ = cs[j]? := by
  obtain ⟨_, hl, hc⟩ := World.cells?_some h
  refine ⟨hl, fun j hj => ?_⟩
  have := hc j hj
  rwa [add_plain] at this
theorem slice_at (a : Option Addr) (b off n cap : Nat) (h : a = some ⟨b, off, none⟩) (hn : n ≠ 0) : atBlock (.slice a n cap) = some b := by
  subst h
  match n, hn with
  | n + 1, _ => rfl
theorem at_lt {W : World} {a : Option Addr} {n cap : Nat} {P : Nat → Nat → Prop} (h : n = 0 ∨ ∃ b off, a = some ⟨b, off, none⟩ ∧ n ≤ cap ∧ cap ≤ maxLen ∧ b < W.heap.size ∧ P b off) (g : Nat) (hg : atBlock (.slice a n cap) = some g) : g < W.heap.size := by
  rcases h with rfl | ⟨b, off, rfl, _, _, hb, _⟩
  · rcases a with _ | ⟨x, y, z⟩ <;> simp [atBlock] at hg
  · match n, hg with
    | 0, hg => simp [atBlock] at hg
    | n + 1, hg => simp [atBlock] at hg; omega
theorem ints_row {H : Type} {enc : TypeId × Value → H} {W : World} {fuel : Nat} {v : Value} {d : DataW H} {pl : List MemPlace}
    (hd : DataW.trod enc Tryz.prog W 0 (fun _ => true) true fuel 25 [v] = some (d, pl)) (hb : Rows.uptoBulk d ≤ 1048576) : (∃ cl : List Int, cl.length ≤ 1048576 ∧ IsRow W v cl.length (cl.map (.int .i64))) ∧ ∀ g, atBlock v = some g → g < W.heap.size := by
  obtain ⟨a, n, cap, rfl, hn, h⟩ := slice_rows 1 (by decide) Tryz.underlying25 cellsInt hd hb
  refine ⟨?_, at_lt h⟩
  rcases h with rfl | ⟨b, off, rfl, h1, h2, h3, hel⟩
  · exact ⟨[], by simp, a, cap, rfl, by simp, .inl rfl⟩
  · obtain ⟨cl, hl, hc⟩ := list_of (fun i (x : Int) => W.cell? ⟨b, off + i, none⟩ = some (.int .i64 x)) n fun i hi => by
      obtain ⟨cs, f, d', pl', c1, c2, _⟩ := hel i hi
      obtain ⟨z, rfl, _⟩ := DataW.trod_int Tryz.underlying3 c2
      have := (cells_at c1).2 0 (by omega)
      exact ⟨z, by simpa using this⟩
    subst hl
    exact ⟨cl, hn, _, cap, rfl, by omega, .inr ⟨b, off, rfl, h3, fun i hi => by rw [hc i (by simpa using hi)]; simp⟩⟩
theorem strs_row {H : Type} {enc : TypeId × Value → H} {W : World} {fuel : Nat} {v : Value} {d : DataW H} {pl : List MemPlace}
    (hd : DataW.trod enc Tryz.prog W 0 (fun _ => true) true fuel 40 [v] = some (d, pl)) (hb : Rows.uptoBulk d ≤ 1048576) : (∃ cl : List ByteArray, cl.length ≤ 1048576 ∧ IsRow W v cl.length (cl.map .string)) ∧ ∀ g, atBlock v = some g → g < W.heap.size := by
  obtain ⟨a, n, cap, rfl, hn, h⟩ := slice_rows 1 (by decide) Tryz.underlying40 cellsStr hd hb
  refine ⟨?_, at_lt h⟩
  rcases h with rfl | ⟨b, off, rfl, h1, h2, h3, hel⟩
  · exact ⟨[], by simp, a, cap, rfl, by simp, .inl rfl⟩
  · obtain ⟨cl, hl, hc⟩ := list_of (fun i (x : ByteArray) => W.cell? ⟨b, off + i, none⟩ = some (.string x)) n fun i hi => by
      obtain ⟨cs, f, d', pl', c1, c2, _⟩ := hel i hi
      obtain ⟨z, rfl, _⟩ := DataW.trod_string Tryz.underlying9 c2
      have := (cells_at c1).2 0 (by omega)
      exact ⟨z, by simpa using this⟩
    subst hl
    exact ⟨cl, hn, _, cap, rfl, by omega, .inr ⟨b, off, rfl, h3, fun i hi => by rw [hc i (by simpa using hi)]; simp⟩⟩
set_option maxRecDepth 100000 in
theorem items_row {H : Type} {enc : TypeId × Value → H} {W : World} {fuel : Nat} {v : Value} {d : DataW H} {pl : List MemPlace}
    (hd : DataW.trod enc Tryz.prog W 0 (fun _ => true) true fuel 30 [v] = some (d, pl)) (hb : Rows.uptoBulk d ≤ 1048576) : (∃ il : List (ByteArray × ByteArray), il.length ≤ 1048576 ∧ IsItems W v il) ∧ ∀ g, atBlock v = some g → g < W.heap.size := by
  obtain ⟨a, n, cap, rfl, hn, h⟩ := slice_rows 2 (by decide) Tryz.underlying30 cellsItem hd hb
  refine ⟨?_, at_lt h⟩
  rcases h with rfl | ⟨b, off, rfl, h1, h2, h3, hel⟩
  · exact ⟨[], by simp, .inl ⟨a, cap, rfl, rfl⟩⟩
  · obtain ⟨cl, hl, hc⟩ := list_of (fun i (x : ByteArray × ByteArray) => W.cell? ⟨b, off + i * 2, none⟩ = some (.string x.1) ∧ W.cell? ⟨b, off + i * 2 + 1, none⟩ = some (.string x.2)) n fun i hi => by
      obtain ⟨cs, f, d', pl', c1, c2, _⟩ := hel i hi
      obtain ⟨xs, m, _, _, _, hxl, hf⟩ := DataW.trod_struct Tryz.underlying51 c2
      obtain ⟨hlen, hcell⟩ := cells_at c1
      have f0 : DataW.trod enc Tryz.prog W 0 (fun _ => true) true m 9 ((cs.drop 0).take (Tryz.prog.cellsOf 9)) = xs[0]? := hf 0 _ rfl
      have f1 : DataW.trod enc Tryz.prog W 0 (fun _ => true) true m 9 ((cs.drop 1).take (Tryz.prog.cellsOf 9)) = xs[1]? := hf 1 _ rfl
      rw [cellsStr] at f0 f1
      match cs, hlen with
      | [u0, u1], _ =>
        simp only [List.drop_zero, List.drop_succ_cons, List.take_succ_cons, List.take_zero] at f0 f1
        rw [List.getElem?_eq_getElem (by rw [hxl]; decide)] at f0 f1
        obtain ⟨s0, e0, _⟩ := DataW.trod_string Tryz.underlying9 f0
        obtain ⟨s1, e1, _⟩ := DataW.trod_string Tryz.underlying9 f1
        simp only [List.cons.injEq, and_true] at e0 e1
        subst e0 e1
        exact ⟨(s0, s1), by simpa using hcell 0 (by omega), by simpa using hcell 1 (by omega)⟩
    subst hl
    exact ⟨cl, hn, .inr ⟨b, off, cap, rfl, h1, by unfold maxLen at h2; omega, h3, fun i hi => hc i hi⟩⟩
set_option maxRecDepth 100000 in
theorem chs_row {H : Type} {enc : TypeId × Value → H} {W : World} {fuel : Nat} {v : Value} {d : DataW H} {pl : List MemPlace}
    (hd : DataW.trod enc Tryz.prog W 0 (fun _ => true) true fuel 77 [v] = some (d, pl)) (hb : Rows.uptoBulk d ≤ 1048576) : (∃ il : List (Int × ByteArray × ByteArray), il.length ≤ 1048576 ∧ IsChs W v il) ∧ ∀ g, atBlock v = some g → g < W.heap.size := by
  obtain ⟨a, n, cap, rfl, hn, h⟩ := slice_rows 3 (by decide) Tryz.underlying77 cellsChg hd hb
  refine ⟨?_, at_lt h⟩
  rcases h with rfl | ⟨b, off, rfl, h1, h2, h3, hel⟩
  · exact ⟨[], by simp, a, cap, rfl, by simp, .inl rfl⟩
  · obtain ⟨cl, hl, hc⟩ := list_of (fun i (x : Int × ByteArray × ByteArray) => W.cell? ⟨b, off + i * 3, none⟩ = some (.int .i64 x.1) ∧ W.cell? ⟨b, off + i * 3 + 1, none⟩ = some (.string x.2.1) ∧ W.cell? ⟨b, off + i * 3 + 2, none⟩ = some (.string x.2.2)) n fun i hi => by
      obtain ⟨cs, f, d', pl', c1, c2, _⟩ := hel i hi
      obtain ⟨xs, m, _, _, _, hxl, hf⟩ := DataW.trod_struct Tryz.underlying34 c2
      obtain ⟨hlen, hcell⟩ := cells_at c1
      have f0 : DataW.trod enc Tryz.prog W 0 (fun _ => true) true m 3 ((cs.drop 0).take (Tryz.prog.cellsOf 3)) = xs[0]? := hf 0 _ rfl
      have f1 : DataW.trod enc Tryz.prog W 0 (fun _ => true) true m 9 ((cs.drop 1).take (Tryz.prog.cellsOf 9)) = xs[1]? := hf 1 _ rfl
      have f2 : DataW.trod enc Tryz.prog W 0 (fun _ => true) true m 9 ((cs.drop 2).take (Tryz.prog.cellsOf 9)) = xs[2]? := hf 2 _ rfl
      rw [cellsStr] at f1 f2
      rw [cellsInt] at f0
      match cs, hlen with
      | [u0, u1, u2], _ =>
        simp only [List.drop_zero, List.drop_succ_cons, List.take_succ_cons, List.take_zero] at f0 f1 f2
        rw [List.getElem?_eq_getElem (by rw [hxl]; decide)] at f0 f1 f2
        obtain ⟨s0, e0, _⟩ := DataW.trod_int Tryz.underlying3 f0
        obtain ⟨s1, e1, _⟩ := DataW.trod_string Tryz.underlying9 f1
        obtain ⟨s2, e2, _⟩ := DataW.trod_string Tryz.underlying9 f2
        simp only [List.cons.injEq, and_true] at e0 e1 e2
        subst e0 e1 e2
        exact ⟨(s0, s1, s2), by simpa using hcell 0 (by omega), by simpa using hcell 1 (by omega), by simpa using hcell 2 (by omega)⟩
    subst hl
    exact ⟨cl, hn, _, cap, rfl, by omega, .inr ⟨b, off, rfl, h3, fun i hi => hc i hi⟩⟩

set_option maxRecDepth 100000 in
/-- A step of the script that came in. -/
theorem opQ_of {H : Type} {enc : TypeId × Value → H} {W : World} {fuel b o : Nat} {cs : List Value} {d : DataW H} {pl : List MemPlace}
    (hc : W.cells? 0 ⟨b, o, none⟩ 13 = some cs) (hd : DataW.trod enc Tryz.prog W 0 (fun _ => true) true fuel 81 cs = some (d, pl)) (hb : Rows.uptoBulk d ≤ 1048576) (hlt : b < W.heap.size) : OpQ (· < W.heap.size) W b o := by
  obtain ⟨hlen, hcell⟩ := cells_at hc
  obtain ⟨xs, n, _, hx, _, hxl, hf⟩ := DataW.trod_struct Tryz.underlying81 hd
  have hd' : d = .agg (xs.map (·.1)) := congrArg Prod.fst hx
  rw [hd'] at hb
  simp only [Rows.uptoBulk] at hb
  have hxb : ∀ i (h : i < xs.length), Rows.uptoBulk (xs[i]'h).1 ≤ 1048576 := fun i h => by
    have := bulk_part (d := (xs[i]'h).1) (l := xs.map (·.1)) (List.mem_map.2 ⟨xs[i], List.getElem_mem h, rfl⟩)
    omega
  have f0 : DataW.trod enc Tryz.prog W 0 (fun _ => true) true n 3 ((cs.drop 0).take (Tryz.prog.cellsOf 3)) = xs[0]? := hf 0 _ rfl
  have f2 : DataW.trod enc Tryz.prog W 0 (fun _ => true) true n 9 ((cs.drop 2).take (Tryz.prog.cellsOf 9)) = xs[2]? := hf 2 _ rfl
  have f3 : DataW.trod enc Tryz.prog W 0 (fun _ => true) true n 9 ((cs.drop 3).take (Tryz.prog.cellsOf 9)) = xs[3]? := hf 3 _ rfl
  have f4 : DataW.trod enc Tryz.prog W 0 (fun _ => true) true n 79 ((cs.drop 4).take (Tryz.prog.cellsOf 79)) = xs[4]? := hf 4 _ rfl
  rw [cellsInt] at f0
  rw [cellsStr] at f2 f3
  rw [cellsNode] at f4
  match cs, hlen with
  | [v0, v1, v2, v3, v4, v5, v6, v7, v8, v9, v10, v11, v12], _ =>
    simp only [List.drop_zero, List.drop_succ_cons, List.take_succ_cons, List.take_zero] at f0 f2 f3 f4
    have hx0 : 0 < xs.length := by rw [hxl]; decide
    have hx2 : 2 < xs.length := by rw [hxl]; decide
    have hx3 : 3 < xs.length := by rw [hxl]; decide
    have hx4 : 4 < xs.length := by rw [hxl]; decide
    rw [List.getElem?_eq_getElem hx0] at f0
    rw [List.getElem?_eq_getElem hx2] at f2
    rw [List.getElem?_eq_getElem hx3] at f3
    rw [List.getElem?_eq_getElem hx4] at f4
    obtain ⟨k, e0, _, _⟩ := DataW.trod_int Tryz.underlying3 f0
    obtain ⟨s, e2, hy2, _⟩ := DataW.trod_string Tryz.underlying9 f2
    obtain ⟨t, e3, _, _⟩ := DataW.trod_string Tryz.underlying9 f3
    simp only [List.cons.injEq, and_true] at e0 e2 e3
    subst e0 e2 e3
    have hs : s.size ≤ 1048576 := by
      have := hxb 2 hx2
      rw [hy2] at this
      simp only [Rows.uptoBulk] at this
      rw [len_size] at this
      omega
    obtain ⟨ys, m, _, hy, _, hyl, hg⟩ := DataW.trod_struct Tryz.underlying79 f4
    have hb4 := hxb 4 hx4
    rw [hy] at hb4
    simp only [Rows.uptoBulk] at hb4
    have hyb : ∀ i (h : i < ys.length), Rows.uptoBulk (ys[i]'h).1 ≤ 1048576 := fun i h => by
      have := bulk_part (d := (ys[i]'h).1) (l := ys.map (·.1)) (List.mem_map.2 ⟨ys[i], List.getElem_mem h, rfl⟩)
      omega
    have g0 : DataW.trod enc Tryz.prog W 0 (fun _ => true) true m 3 (([v4, v5, v6, v7, v8].drop 0).take (Tryz.prog.cellsOf 3)) = ys[0]? := hg 0 _ rfl
    have g1 : DataW.trod enc Tryz.prog W 0 (fun _ => true) true m 30 (([v4, v5, v6, v7, v8].drop 1).take 1) = ys[1]? := hg 1 _ rfl
    have g2 : DataW.trod enc Tryz.prog W 0 (fun _ => true) true m 25 (([v4, v5, v6, v7, v8].drop 2).take 1) = ys[2]? := hg 2 _ rfl
    have g3 : DataW.trod enc Tryz.prog W 0 (fun _ => true) true m 40 (([v4, v5, v6, v7, v8].drop 3).take 1) = ys[3]? := hg 3 _ rfl
    have g4 : DataW.trod enc Tryz.prog W 0 (fun _ => true) true m 77 (([v4, v5, v6, v7, v8].drop 4).take 1) = ys[4]? := hg 4 _ rfl
    rw [cellsInt] at g0
    simp only [List.drop_zero, List.drop_succ_cons, List.take_succ_cons, List.take_zero] at g0 g1 g2 g3 g4
    have hy0 : 0 < ys.length := by rw [hyl]; decide
    have hy1 : 1 < ys.length := by rw [hyl]; decide
    have hy2' : 2 < ys.length := by rw [hyl]; decide
    have hy3 : 3 < ys.length := by rw [hyl]; decide
    have hy4 : 4 < ys.length := by rw [hyl]; decide
    rw [List.getElem?_eq_getElem hy0] at g0
    rw [List.getElem?_eq_getElem hy1] at g1
    rw [List.getElem?_eq_getElem hy2'] at g2
    rw [List.getElem?_eq_getElem hy3] at g3
    rw [List.getElem?_eq_getElem hy4] at g4
    obtain ⟨kd, e4, _, _⟩ := DataW.trod_int Tryz.underlying3 g0
    simp only [List.cons.injEq, and_true] at e4
    subst e4
    obtain ⟨⟨il, hil, i1⟩, l1⟩ := items_row g1 (hyb 1 hy1)
    obtain ⟨⟨cl, hcl, i2⟩, l2⟩ := ints_row g2 (hyb 2 hy2')
    obtain ⟨⟨ql, hql, i3⟩, l3⟩ := strs_row g3 (hyb 3 hy3)
    obtain ⟨⟨ml, hml, i4⟩, l4⟩ := chs_row g4 (hyb 4 hy4)
    refine ⟨hlt, k, s, t, kd, v5, v6, v7, v8, v1, v9, v10, v11, v12, il, cl, ql, ml, hs, ⟨hcell 0 (by decide), hcell 1 (by decide), hcell 2 (by decide), hcell 3 (by decide), hcell 4 (by decide), hcell 5 (by decide), hcell 6 (by decide), hcell 7 (by decide), hcell 8 (by decide), hcell 9 (by decide), hcell 10 (by decide), hcell 11 (by decide), hcell 12 (by decide)⟩, ⟨i1, i2, i3, i4, by omega, by omega, by omega, by omega⟩, ?_⟩
    rintro g (h | h | h | h)
    · exact l1 g h
    · exact l2 g h
    · exact l3 g h
    · exact l4 g h
/-- A script: nothing, or steps that lie in a row. -/
def IsScriptQ (w : World) (a : Option Addr) (n cap : Nat) : Prop := n = 0 ∨ ∃ b off, a = some ⟨b, off, none⟩ ∧ n ≤ cap ∧ n ≤ 1048576 ∧ ∀ i, i < n → OpQ (· < w.heap.size) w b (off + i * 13)
theorem scriptQ_of {H : Type} {enc : TypeId × Value → H} {W : World} {a : Option Addr} {n cap fuel : Nat} {d : DataW H} {pl : List MemPlace}
    (hd : DataW.trod enc Tryz.prog W 0 (fun _ => true) true fuel 22 [.slice a n cap] = some (d, pl)) (hb : Rows.uptoBulk d ≤ 1048576) : IsScriptQ W a n cap := by
  obtain ⟨a', n', cap', e, hn, h⟩ := slice_rows 13 (by decide) Tryz.underlying22 cellsOp hd hb
  simp only [Value.slice.injEq] at e
  obtain ⟨rfl, rfl, rfl⟩ := e
  refine h.imp_right fun ⟨b, off, e, h1, h2, h3, hel⟩ => ⟨b, off, e, h1, hn, fun i hi => ?_⟩
  obtain ⟨cs, f, d', pl', c1, c2, c3⟩ := hel i hi
  exact opQ_of c1 c2 c3 h3
end Go.Proofs.YtolgpnaoaodepaaGreat
/- The walks of given and plays, of the kinds 3 to 6, and of Pages. -/
namespace Go.Proofs.YtolgpnaoaodepaaGreat
open Go.RowKit

theorem gPage_size : gPage.size ≤ 1048576 := by decide +kernel
theorem gOld_size : gOld.size ≤ 1048576 := by decide +kernel
theorem cell_of_alloc {w W : World} {A : Array Value} {t : TypeId} {fr : Nat × Nat} (hW : w.alloc (.cells A t fr) = W) {g : Nat} (hg : w.heap.size = g) (o : Nat) (v : Value) (h : A[o]? = some v) : W.cell? ⟨g, o, none⟩ = some v := by
  rw [← hW, ← hg]
  have : (w.alloc (.cells A t fr)).heap[w.heap.size]? = some (.cells A t fr) := heap_alloc_new _ _
  simp only [World.cell?, this]
  exact h
/-- A node of nothing. -/
theorem nodeP_nil (w : World) : NodeP w (.slice none 0 0) (.slice none 0 0) (.slice none 0 0) (.slice none 0 0) [] [] [] [] :=
  ⟨.inl ⟨none, 0, rfl, rfl⟩, ⟨none, 0, rfl, by simp, .inl rfl⟩, ⟨none, 0, rfl, by simp, .inl rfl⟩, ⟨none, 0, rfl, by simp, .inl rfl⟩, by simp, by simp, by simp, by simp⟩
theorem nodeP_gl {w : World} {v : Value} (h : IsItems w v gl) : NodeP w v (.slice none 0 0) (.slice none 0 0) (.slice none 0 0) gl [] [] [] :=
  ⟨h, ⟨none, 0, rfl, by simp, .inl rfl⟩, ⟨none, 0, rfl, by simp, .inl rfl⟩, ⟨none, 0, rfl, by simp, .inl rfl⟩, by simp [gl], by simp, by simp, by simp⟩
/-- A new World's book. -/
theorem bk_new {w : World} {b : Nat} {vl : Value} (h : Wb w b vl (.slice none 0 0) (.slice none 0 0) (.slice none 0 0) (.slice none 0 0) (.slice none 0 0) (.slice none 0 0) (.slice none 0 0) (.slice none 0 0) 0) : Bk w b vl 0 (fun _ => False) := by
  refine ⟨fun _ => .slice none 0 0, 0, fun _ => 0, h, fun p hp => ⟨Nat.le_refl _, [], [], ⟨rfl, .inl ⟨rfl, rfl⟩⟩, ⟨rfl, .inl ⟨rfl, rfl⟩⟩, fun i u m hu => by simp at hu⟩, fun i _ _ g hg => by simp [Value.ownBlock] at hg, fun i j _ _ _ _ _ g hg => by simp [Value.ownBlock] at hg⟩

/-- The twelve steps that are given. -/
structure Giv12 (W : World) (g gi : Nat) : Prop where
  q : ∀ k, k < 12 → OpQ (fun x => x = g ∨ x = gi) W g (k * 13)

attribute [local go_sem ↓] Go.wp_at_zero Go.wp_at_succ
set_option maxHeartbeats 2500000 in
set_option maxRecDepth 100000 in
theorem given36_any (b : Nat) (vl : Value) (w : World) (hB : Bk w b vl 0 (fun _ => False)) :
    Calls Tryz.prog 27 #[.pointer (some ⟨b, 0, none⟩), .int .i64 3, .int .i64 6] w fun r w' => r = .returned (.bool true) ∧ Bk w' b vl 192 (fun _ => False) ∧ Below b w w' := by
  have HB := hid hB
  have hbw : b < w.heap.size := hB.lt
  clear hB
  have G0 : Giv w ((w.alloc (.cells #[.string ⟨#[97]⟩, .string ⟨#[120]⟩] 51)).alloc (.cells #[.int .i64 1, .slice (some ⟨w.heap.size, 0, none⟩) 1 1, .slice none 0 0, .slice none 0 0, .slice none 0 0] 79)) := by
    refine ⟨((Below.refl _ w).alloc (Nat.le_refl _) _).alloc (by simp) _, by simp, ?_, ?_⟩
    · rw [Below.heap_alloc _ _ _ (by simp)]; exact heap_alloc_new _ _
    · have := heap_alloc_new (w.alloc (.cells #[.string ⟨#[97]⟩, .string ⟨#[120]⟩] 51)) (.cells #[.int .i64 1, .slice (some ⟨w.heap.size, 0, none⟩) 1 1, .slice none 0 0, .slice none 0 0, .slice none 0 0] 79)
      simpa using this
  go_enter Tryz.func27, Tryz.ntmps27
  go_wp2_with fail
  generalize (w.alloc (.cells #[.string ⟨#[97]⟩, .string ⟨#[120]⟩] 51)).alloc (.cells #[.int .i64 1, .slice (some ⟨w.heap.size, 0, none⟩) 1 1, .slice none 0 0, .slice none 0 0, .slice none 0 0] 79) = w0 at *
  obtain ⟨a0, a1, a2, a3, a4⟩ := G0.cells
  have hz0 := G0.sz
  go_region_held3 (fun w' => w'.cell? ⟨w.heap.size + 1, 0, none⟩ = some (.int .i64 1) ∧ w'.cell? ⟨w.heap.size + 1, 1, none⟩ = some (.slice (some ⟨w.heap.size, 0, none⟩) 1 1) ∧ w'.cell? ⟨w.heap.size + 1, 2, none⟩ = some (.slice none 0 0) ∧ w'.cell? ⟨w.heap.size + 1, 3, none⟩ = some (.slice none 0 0) ∧ w'.cell? ⟨w.heap.size + 1, 4, none⟩ = some (.slice none 0 0)) (go_keep)
    (first
      | (go_at_call 48; refine (gPage_any _ (by first | exact G0.drew | assumption)).mono ?_; rintro r w3 ⟨rfl, G3⟩; obtain ⟨b0, b1, b2, b3, b4⟩ := G3.cells; have hz3 := G3.sz)
      | (go_at_call 49; refine (gOld_any _ (by assumption)).mono ?_; rintro r w3 ⟨rfl, G3⟩; obtain ⟨b0, b1, b2, b3, b4⟩ := G3.cells; have hz3 := G3.sz))
  all_goals go_wp2_with fail
  generalize hW : World.alloc (World.alloc w3 _) (Obj.cells _ 81 _) = W at *
  have hsW : w3.heap.size + 2 = W.heap.size := by rw [← hW]; simp
  have HBW : Hid (Below w.heap.size w W) := by
    rw [← hW]; exact (G3.bel.alloc (by omega) _).alloc (by simp; omega) _
  have hIt : IsItems W (.slice (some ⟨w.heap.size, 0, none⟩) 1 1) gl := by
    refine G3.items.below ?_
    rw [← hW]; exact ((Below.refl _ w3).alloc (Nat.le_refl _) _).alloc (by simp) _
  have F : ∀ k, k < 12 → OpQ (fun x => x = w3.heap.size + 1 ∨ x = w.heap.size) W (w3.heap.size + 1) (k * 13) := by
    intro k hk
    have hc := fun (o : Nat) (v : Value) => cell_of_alloc hW (show _ = w3.heap.size + 1 by simp) o v
    have nn := nodeP_nil W
    have ng := nodeP_gl hIt
    have no : ∀ g, (atBlock (.slice none 0 0) = some g ∨ atBlock (.slice none 0 0) = some g ∨ atBlock (.slice none 0 0) = some g ∨ atBlock (.slice none 0 0) = some g) → (g = w3.heap.size + 1 ∨ g = w.heap.size) := by
      intro g h; simp [atBlock] at h
    have yes : ∀ g, (atBlock (.slice (some ⟨w.heap.size, 0, none⟩) 1 1) = some g ∨ atBlock (.slice none 0 0) = some g ∨ atBlock (.slice none 0 0) = some g ∨ atBlock (.slice none 0 0) = some g) → (g = w3.heap.size + 1 ∨ g = w.heap.size) := by
      intro g h; simp [atBlock] at h; exact .inr h.symm
    match k, hk with
    | 0, _ => exact ⟨.inl rfl, 1, ⟨#[97, 98, 99, 97, 98, 99, 97, 98, 99]⟩, ⟨#[]⟩, 0, _, _, _, _, _, _, _, _, _, [], [], [], [], by decide, ⟨hc _ _ rfl, hc _ _ rfl, hc _ _ rfl, hc _ _ rfl, hc _ _ rfl, hc _ _ rfl, hc _ _ rfl, hc _ _ rfl, hc _ _ rfl, hc _ _ rfl, hc _ _ rfl, hc _ _ rfl, hc _ _ rfl⟩, nn, no⟩
    | 1, _ => exact ⟨.inl rfl, 2, ⟨#[2, 97, 98, 99, 131, 3]⟩, ⟨#[]⟩, 0, _, _, _, _, _, _, _, _, _, [], [], [], [], by decide, ⟨hc _ _ rfl, hc _ _ rfl, hc _ _ rfl, hc _ _ rfl, hc _ _ rfl, hc _ _ rfl, hc _ _ rfl, hc _ _ rfl, hc _ _ rfl, hc _ _ rfl, hc _ _ rfl, hc _ _ rfl, hc _ _ rfl⟩, nn, no⟩
    | 2, _ => exact ⟨.inl rfl, 3, ⟨#[]⟩, ⟨#[]⟩, 1, _, _, _, _, _, _, _, _, _, gl, [], [], [], by decide, ⟨hc _ _ rfl, hc _ _ rfl, hc _ _ rfl, hc _ _ rfl, hc _ _ rfl, hc _ _ rfl, hc _ _ rfl, hc _ _ rfl, hc _ _ rfl, hc _ _ rfl, hc _ _ rfl, hc _ _ rfl, hc _ _ rfl⟩, ng, yes⟩
    | 3, _ => exact ⟨.inl rfl, 4, gPage, ⟨#[]⟩, 0, _, _, _, _, _, _, _, _, _, [], [], [], [], gPage_size, ⟨hc _ _ rfl, hc _ _ rfl, hc _ _ rfl, hc _ _ rfl, hc _ _ rfl, hc _ _ rfl, hc _ _ rfl, hc _ _ rfl, hc _ _ rfl, hc _ _ rfl, hc _ _ rfl, hc _ _ rfl, hc _ _ rfl⟩, nn, no⟩
    | 4, _ => exact ⟨.inl rfl, 5, gPage, ⟨#[97]⟩, 0, _, _, _, _, _, _, _, _, _, [], [], [], [], gPage_size, ⟨hc _ _ rfl, hc _ _ rfl, hc _ _ rfl, hc _ _ rfl, hc _ _ rfl, hc _ _ rfl, hc _ _ rfl, hc _ _ rfl, hc _ _ rfl, hc _ _ rfl, hc _ _ rfl, hc _ _ rfl, hc _ _ rfl⟩, nn, no⟩
    | 5, _ => exact ⟨.inl rfl, 6, gOld, ⟨#[]⟩, 0, _, _, _, _, _, _, _, _, _, [], [], [], [], gOld_size, ⟨hc _ _ rfl, hc _ _ rfl, hc _ _ rfl, hc _ _ rfl, hc _ _ rfl, hc _ _ rfl, hc _ _ rfl, hc _ _ rfl, hc _ _ rfl, hc _ _ rfl, hc _ _ rfl, hc _ _ rfl, hc _ _ rfl⟩, nn, no⟩
    | 6, _ => exact ⟨.inl rfl, 7, ⟨#[]⟩, ⟨#[]⟩, 0, _, _, _, _, _, _, _, _, _, [], [], [], [], by decide, ⟨hc _ _ rfl, hc _ _ rfl, hc _ _ rfl, hc _ _ rfl, hc _ _ rfl, hc _ _ rfl, hc _ _ rfl, hc _ _ rfl, hc _ _ rfl, hc _ _ rfl, hc _ _ rfl, hc _ _ rfl, hc _ _ rfl⟩, nn, no⟩
    | 7, _ => exact ⟨.inl rfl, 8, ⟨#[]⟩, ⟨#[]⟩, 0, _, _, _, _, _, _, _, _, _, [], [], [], [], by decide, ⟨hc _ _ rfl, hc _ _ rfl, hc _ _ rfl, hc _ _ rfl, hc _ _ rfl, hc _ _ rfl, hc _ _ rfl, hc _ _ rfl, hc _ _ rfl, hc _ _ rfl, hc _ _ rfl, hc _ _ rfl, hc _ _ rfl⟩, nn, no⟩
    | 8, _ => exact ⟨.inl rfl, 9, ⟨#[97]⟩, ⟨#[]⟩, 0, _, _, _, _, _, _, _, _, _, [], [], [], [], by decide, ⟨hc _ _ rfl, hc _ _ rfl, hc _ _ rfl, hc _ _ rfl, hc _ _ rfl, hc _ _ rfl, hc _ _ rfl, hc _ _ rfl, hc _ _ rfl, hc _ _ rfl, hc _ _ rfl, hc _ _ rfl, hc _ _ rfl⟩, nn, no⟩
    | 9, _ => exact ⟨.inl rfl, 10, ⟨#[]⟩, ⟨#[]⟩, 0, _, _, _, _, _, _, _, _, _, [], [], [], [], by decide, ⟨hc _ _ rfl, hc _ _ rfl, hc _ _ rfl, hc _ _ rfl, hc _ _ rfl, hc _ _ rfl, hc _ _ rfl, hc _ _ rfl, hc _ _ rfl, hc _ _ rfl, hc _ _ rfl, hc _ _ rfl, hc _ _ rfl⟩, nn, no⟩
    | 10, _ => exact ⟨.inl rfl, 11, ⟨#[]⟩, ⟨#[]⟩, 0, _, _, _, _, _, _, _, _, _, [], [], [], [], by decide, ⟨hc _ _ rfl, hc _ _ rfl, hc _ _ rfl, hc _ _ rfl, hc _ _ rfl, hc _ _ rfl, hc _ _ rfl, hc _ _ rfl, hc _ _ rfl, hc _ _ rfl, hc _ _ rfl, hc _ _ rfl, hc _ _ rfl⟩, nn, no⟩
    | 11, _ => exact ⟨.inl rfl, 9, ⟨#[97]⟩, ⟨#[]⟩, 0, _, _, _, _, _, _, _, _, _, [], [], [], [], by decide, ⟨hc _ _ rfl, hc _ _ rfl, hc _ _ rfl, hc _ _ rfl, hc _ _ rfl, hc _ _ rfl, hc _ _ rfl, hc _ _ rfl, hc _ _ rfl, hc _ _ rfl, hc _ _ rfl, hc _ _ rfl, hc _ _ rfl⟩, nn, no⟩
  have HF := hid F
  clear hW F hIt
  go_loopw [9] (fun i wr => ∃ k : Nat, k ≤ 12 ∧ i = .int .i64 k ∧ Bk wr b vl (k * 16) (fun x => x = w3.heap.size + 1 ∨ x = w.heap.size) ∧ Below b W wr ∧ (∀ g, (g = w3.heap.size + 1 ∨ g = w.heap.size) → wr.heap[g]? = W.heap[g]?)) (fun i _ => 12 - (intOf i).toNat)
  case atStart => exact ⟨0, by omega, rfl, HB.out.below2 HBW.out (fun g hg => .inr (by omega)), Below.refl _ _, fun _ _ => rfl⟩
  case round =>
    obtain ⟨k, hk, rfl, hbk, hbl, hsame⟩ := hrel
    have hszk := hbl.size
    by_cases hk12 : k < 12
    · obtain ⟨-, kk, s, t, kd, v1, v2, v3, v4, c1, c9, c10, c11, c12, il, cl, pl, ml, hs, hoc, hnp, hat⟩ := (HF.out k hk12).stay hszk hsame
      obtain ⟨e0, e1, e2, e3, e4, e5, e6, e7, e8, e9, e10, e11, e12⟩ := hoc
      have HBK := hid hbk
      have HBL := hid hbl
      have HSM := hid hsame
      have HNP := hid hnp
      clear hbk hbl hsame hnp hat
      by_cases hkk : kk = 3 ∨ kk = 4 ∨ kk = 5 ∨ kk = 6
      · have hk1 : 3 ≤ kk ∧ kk ≤ 6 := by omega
        have HK := hid (step36_any b vl (k * 16) _ kk s t kd v1 v2 v3 v4 il cl pl ml c1 c9 c10 c11 c12 wr HNP.out HBK.out (fun g hg => by omega) (by omega) hs hkk)
        clear hkk
        go_wp2_with fail
        refine HK.out.mono ?_
        rintro r w5 ⟨rfl, q1, q2, q3⟩
        have Q1 := hid q1
        have Q2 := hid (HBL.out.trans q2)
        have Q3 : Hid (∀ g, (g = w3.heap.size + 1 ∨ g = w.heap.size) → w5.heap[g]? = W.heap[g]?) := fun g hg => (q3 g hg).trans (HSM.out g hg)
        clear q1 q2 q3 HK e0 e1 e2 e3 e4 e5 e6 e7 e8 e9 e10 e11 e12
        go_wp2_with fail
        go_roundw
        case rel => exact ⟨k + 1, by omega, by go_num, by rw [show (k + 1) * 16 = k * 16 + 16 by omega]; exact Q1.out, Q2.out, Q3.out⟩
        case measure => simp [intOf]; omega
      · by_cases hk1 : 3 ≤ kk
        · have hk2 : 6 < kk := by omega
          have hd : decide (kk ≤ 6) = false := by simp; omega
          clear hkk
          go_wp2_with fail
          go_roundw
          case rel => exact ⟨k + 1, by omega, by go_num, HBK.out.mono (by omega), HBL.out, HSM.out⟩
          case measure => simp [intOf]; omega
        · have hd : decide (3 ≤ kk) = false := by simp; omega
          clear hkk
          go_wp2_with fail
          go_roundw
          case rel => exact ⟨k + 1, by omega, by go_num, HBK.out.mono (by omega), HBL.out, HSM.out⟩
          case measure => simp [intOf]; omega
    · have HBK := hid hbk
      have HBL := hid hbl
      clear hbk hbl hsame
      go_wp2_with fail
      go_ret
      exact ⟨rfl, (HBK.out.below2 (Below.refl _ _) (fun g hg => hg.elim)).mono (by omega), (HBW.out.mono (by omega)).trans HBL.out⟩

set_option maxHeartbeats 2500000 in
set_option maxRecDepth 100000 in
theorem plays36_any (a : Option Addr) (n cap : Nat) (w : World) (hsc : IsScriptQ w a n cap) :
    Calls Tryz.prog 10 #[.slice a n cap, .int .i64 3, .int .i64 6] w fun r w' => r = .returned (.bool true) ∧ Below w.heap.size w w' := by
  have hn : n ≤ 1048576 := by
    rcases hsc with h | ⟨b, off, _, _, h, _⟩ <;> omega
  have HSC := hid hsc
  clear hsc
  have HB0 := hid ((Below.refl w.heap.size w).alloc (Nat.le_refl _) (.cells #[.slice none 0 0, .slice none 0 0, .slice none 0 0, .slice none 0 0, .slice none 0 0, .slice none 0 0, .slice none 0 0, .slice none 0 0, .slice none 0 0, .int .i64 0] 75))
  have HK0 := hid (bk_new (vl := .slice none 0 0) (heap_alloc_new w (.cells #[.slice none 0 0, .slice none 0 0, .slice none 0 0, .slice none 0 0, .slice none 0 0, .slice none 0 0, .slice none 0 0, .slice none 0 0, .slice none 0 0, .int .i64 0] 75)))
  go_enter Tryz.func10, Tryz.ntmps10
  go_wp2_with fail
  refine (given36_any w.heap.size (.slice none 0 0) _ HK0.out).mono ?_
  rintro r w1 ⟨rfl, hk1, hb1⟩
  have HK1 := hid hk1
  have HB1 := hid (HB0.out.trans hb1)
  clear hb1 hk1 HK0 HB0
  go_wp2_with fail
  go_loopw [9] (fun i wr => ∃ k : Nat, k ≤ n ∧ i = .int .i64 k ∧ Bk wr w.heap.size (.slice none 0 0) (192 + k * 16) (fun _ => False) ∧ Below w.heap.size w wr) (fun i _ => n - (intOf i).toNat)
  case atStart => exact ⟨0, by omega, rfl, HK1.out, HB1.out⟩
  case round =>
    obtain ⟨i, hi, rfl, hbk, hbl⟩ := hrel
    have hW0 : wr.cell? ⟨w.heap.size, 0, none⟩ = some (.slice none 0 0) := by
      obtain ⟨v, nx, m, hW, -⟩ := hbk
      exact hW.cells.1
    by_cases hin : i < n
    · obtain ⟨b, off, rfl, hcap, _, hops⟩ : ∃ b off, a = some ⟨b, off, none⟩ ∧ n ≤ cap ∧ n ≤ 1048576 ∧ ∀ i, i < n → OpQ (· < w.heap.size) w b (off + i * 13) := by
        rcases HSC.out with h | h
        · omega
        · exact h
      obtain ⟨-, kk, s, t, kd, v1, v2, v3, v4, c1, c9, c10, c11, c12, il, cl, pl, ml, hs, hoc, hnp, hat⟩ := (hops i hin).stay hbl.size (fun g hg => hbl.block g hg)
      obtain ⟨e0, e1, e2, e3, e4, e5, e6, e7, e8, e9, e10, e11, e12⟩ := hoc
      have HBK := hid hbk
      have HBL := hid hbl
      have HNP := hid hnp
      clear hbk hbl hnp hat hops
      by_cases hkk : kk = 3 ∨ kk = 4 ∨ kk = 5 ∨ kk = 6
      · have hk1 : 3 ≤ kk ∧ kk ≤ 6 := by omega
        have hk11 : kk < 11 := by omega
        have HK := hid (step36_any w.heap.size (.slice none 0 0) (192 + i * 16) _ kk s t kd v1 v2 v3 v4 il cl pl ml c1 c9 c10 c11 c12 wr HNP.out HBK.out (fun g hg => hg.elim) (by omega) hs hkk)
        clear hkk
        go_wp2_with fail
        refine HK.out.mono ?_
        rintro r w5 ⟨rfl, q1, q2, q3⟩
        have Q1 := hid q1
        have Q2 := hid (HBL.out.trans q2)
        clear q1 q2 q3 HK e0 e1 e2 e3 e4 e5 e6 e7 e8 e9 e10 e11 e12
        go_wp2_with fail
        go_roundw
        case rel => exact ⟨i + 1, by omega, by go_num, by rw [show 192 + (i + 1) * 16 = 192 + i * 16 + 16 by omega]; exact Q1.out, Q2.out⟩
        case measure => simp [intOf]; omega
      · by_cases hk1 : 3 ≤ kk
        · have hk2 : 6 < kk := by omega
          have hd : decide (kk ≤ 6) = false := by simp; omega
          clear hkk
          go_wp2_with fail
          go_roundw
          case rel => exact ⟨i + 1, by omega, by go_num, HBK.out.mono (by omega), HBL.out⟩
          case measure => simp [intOf]; omega
        · have hd : decide (3 ≤ kk) = false := by simp; omega
          clear hkk
          go_wp2_with fail
          go_roundw
          case rel => exact ⟨i + 1, by omega, by go_num, HBK.out.mono (by omega), HBL.out⟩
          case measure => simp [intOf]; omega
    · have HBL := hid hbl
      have HBK := hid hbk
      clear hbk hbl
      go_wp2_with fail
      go_loop [10] (fun i => i = .int .i64 0) (fun _ => 0)
      case atStart => rfl
      case round =>
        subst hrel
        go_wp2_with fail
        refine (looks_bk w.heap.size _ _ _ _ HBK.out (by omega)).mono ?_
        rintro r w5 ⟨rfl, hb5⟩
        have HB5 := hid (HBL.out.trans (hb5.mono HBL.out.size))
        clear hb5
        go_wp2_with fail
        go_ret
        exact ⟨rfl, HB5.out⟩

set_option maxHeartbeats 1000000 in
theorem pages_any (a : Option Addr) (n cap : Nat) (w : World) (hsc : IsScriptQ w a n cap) :
    Calls Tryz.prog 4 #[.slice a n cap] w fun r w' => r = .returned (.bool true) ∧ Below w.heap.size w w' := by
  have HSC := hid hsc
  clear hsc
  go_enter Tryz.func4, Tryz.ntmps4
  go_wp2_with fail
  refine (plays36_any a n cap _ HSC.out).mono ?_
  rintro r w1 ⟨rfl, hb1⟩
  go_wp2_with fail
  go_ret
  exact ⟨rfl, hb1⟩
end Go.Proofs.YtolgpnaoaodepaaGreat
/- THE STATEMENT: whatever script comes in (of bulk at most 1048576), siltlaw's Pages answers true, and the script reads behind the call as it read before. No condition of ours stands in it. -/
namespace Go.Proofs.YtolgpnaoaodepaaGreat
open Go.ChangeShapes Go.WideShapes Go.ChangeAt Go.RowKit Go.Deep

set_option maxRecDepth 100000 in
theorem pagesContract (H : Type) (enc : TypeId × Value → H) (W : World) (base : Nat) (args : Array Value) (ds gs : List (DataW H)) (before : List MemPlace)
    (hval : ∀ (j : Nat) t v, Tryz.f4.params[j]? = some t → args[j]? = some v → Value.okWide Tryz.prog W .any base t v)
    (hW : DataW.Whole enc Tryz.prog Tryz.f4.params.toList Rows.pagesSpec.vars false W args.toList ds gs before) (hk : Rows.uptoSmall H (ds ++ gs) = true) :
    Calls Tryz.prog 4 args W fun e W' => ∃ v, e = .returned v ∧ Rows.pagesSpec.post enc Tryz.prog Tryz.f4 false true false false W args v W' := by
  have hW' := hW
  obtain ⟨p, q, hA0, hV, rfl, hfz, hnd⟩ := hW
  have hA : DataW.TrodAll enc Tryz.prog W 0 (fun _ => true) true Tryz.f4.params.toList args.toList ds p := hA0
  rw [Tryz.params4] at hA hval
  obtain ⟨v0, vs0, d0, ds0, p0, q0, hargs, rfl, rfl, h0, r0⟩ := trodAll_cons hA
  obtain ⟨rfl, rfl, rfl⟩ := trodAll_nil r0
  obtain rfl : args = #[v0] := by cases args; simp_all
  obtain ⟨rfl, rfl⟩ := trodVars_none hV
  obtain ⟨a0, len0, cap0, rfl⟩ := okWide_slice Tryz.underlying22 (hval 0 22 v0 rfl rfl)
  have k0 := h0
  have lt0 : ∀ x ∈ p0, x.block < W.heap.size := by obtain ⟨m, hm⟩ := k0; exact DataW.trod_lt m _ _ _ hm
  clear hA0
  simp only [List.append_nil] at hk
  have hbulk : Rows.uptoBulkAll [d0] ≤ 1048576 := of_decide_eq_true hk
  simp only [Rows.uptoBulkAll] at hbulk
  obtain ⟨fuel, hf⟩ := h0
  have hsc : IsScriptQ W a0 len0 cap0 := scriptQ_of (by simpa [Value.cells] using hf) (by omega)
  refine (pages_any a0 len0 cap0 W hsc).mono fun e W' ⟨he, bel⟩ => ?_
  subst he
  exact ⟨_, rfl, _, _, _, [], _, [], hW', trodAll_mk1 (shut_bool Tryz.underlying4 _), (trodAll_cons_mk (Below.trod laidOut (by kernel_rfl) (of_decide_eq_true (by kernel_rfl)) k0 bel lt0) trodAll_mk0), rfl, bel.frame _, fun h => by cases h⟩

set_option maxRecDepth 100000 in
theorem pagesLifted (os : Os) (started : os.Started) (H : Type) (enc : TypeId × Value → H) (F : Stop.Interp) :
    ReturnsInHanded {} Tryz.checked os 4 .any ((Rows.OpenSpec.upto Rows.pagesSpec).pre6 enc Tryz.prog Tryz.f4 Rows.pagesUptoRow.domain false) (((Rows.OpenSpec.upto Rows.pagesSpec).at F).post enc Tryz.prog Tryz.f4 false true false false) := by
  refine returnsInHanded_of_cond (C := Tryz.checked) (s := Rows.OpenSpec.upto Rows.pagesSpec) (k := Rows.uptoSmall) rfl own started (by kernel_rfl) Tryz.func4
    (OpenSpec.witness (enc := enc) (C := Tryz.checked) (s := Rows.OpenSpec.upto Rows.pagesSpec) (k := Rows.uptoSmall) rfl false ⟨#[], #[.slice none 0 0], []⟩ 8 (by kernel_rfl) (by kernel_rfl) (by kernel_rfl)
      (x := ([.nil], [], [])) (by kernel_rfl) rfl (by kernel_rfl)) ?_
  intro W base args ds gs before hval hW _ hk _
  exact pagesContract H enc W base args ds gs before hval hW hk

/-- ████ THE STATEMENT ████ -/
theorem pages_upto : Rows.PagesUptoSaid :=
  OpenClaim.holds_of_cond 4 Tryz.f4 rfl rfl rfl rfl rfl rfl rfl ⟨rfl, rfl, rfl, rfl, rfl⟩ rfl rfl rfl rfl rfl (by kernel_rfl) Tryz.func4 (by kernel_rfl)
    (of_decide_eq_true (by kernel_rfl)) (by unfold Func.isWrapper; first | (rw [if_pos (by decide +kernel)]; kernel_rfl) | (rw [if_neg (by decide +kernel)]; exact ⟨rfl, rfl⟩))
    (fun os started H enc _ F => pagesLifted os started H enc F)
#print axioms pages_upto
end Go.Proofs.YtolgpnaoaodepaaGreat
