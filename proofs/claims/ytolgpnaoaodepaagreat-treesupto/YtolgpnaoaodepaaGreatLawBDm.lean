/- What comes in: openers of lists and structs; their bulk. -/
import Derived.Test.YtolgpnaoaodepaaGreatGenm
import Derived.ProofKit
import Derived.OpenShut
import Derived.ShutString
import Derived.ChangeOld
import Derived.JoinedCond
import Derived.Deep.Slices
import Derived.Test.YtolgpnaoaodepaaGreatRefCm
import Derived.Deep.DrawnRows
import Derived.Test.YtolgpnaoaodepaaGreatLawTGm
namespace Go.Proofs.YtolgpnaoaodepaaGreat
open Go.ChangeShapes Go.WideShapes Go.ChangeAt Go.RowKit Go.Deep

theorem own : ownKnob Tryz.prog.godebug = none := by kernel_rfl
theorem laidOut : laidOutB Tryz.prog = true := by kernel_rfl
theorem cellsOp : Tryz.prog.cellsOf 81 = 13 := by kernel_rfl
theorem cellsInt : Tryz.prog.cellsOf 3 = 1 := by kernel_rfl
theorem cellsStr : Tryz.prog.cellsOf 9 = 1 := by kernel_rfl

theorem bulk_part {H : Type} {d : DataW H} {l : List (DataW H)} (h : d ∈ l) : Rows.uptoBulk d ≤ Rows.uptoBulkAll l := by
  induction l with
  | nil => cases h
  | cons x r ih =>
    simp only [Rows.uptoBulkAll]
    cases List.mem_cons.1 h with
    | inl e => subst e; omega
    | inr e => have := ih e; omega
theorem bulk_one {H : Type} (d : DataW H) : 1 ≤ Rows.uptoBulk d := by
  cases d with
  | lit l => cases l <;> simp [Rows.uptoBulk]
  | nil => simp [Rows.uptoBulk]
  | ptr d => simp [Rows.uptoBulk]
  | slice elems spare => simp [Rows.uptoBulk]
  | agg parts => simp [Rows.uptoBulk]
  | iface t d => simp [Rows.uptoBulk]
  | map entries => simp [Rows.uptoBulk]
  | held h => simp [Rows.uptoBulk]
theorem bulk_len {H : Type} (l : List (DataW H)) : l.length ≤ Rows.uptoBulkAll l := by
  induction l with
  | nil => simp [Rows.uptoBulkAll]
  | cons x r ih => have := bulk_one x; simp only [Rows.uptoBulkAll, List.length_cons]; omega

theorem block_lt {W : World} {b o : Nat} {v : Value} (h : W.cell? ⟨b, o, none⟩ = some v) : b < W.heap.size := by
  rcases Nat.lt_or_ge b W.heap.size with h' | h'
  · exact h'
  · simp [World.cell?, Array.getElem?_eq_none h'] at h

theorem add_plain (b off j : Nat) : (⟨b, off, none⟩ : Addr).add j = ⟨b, off + j, none⟩ := by
  unfold Addr.add; split
  · rename_i h0; rw [h0]; rfl
  · rfl
/-- A list that came in: its elements, one by one. -/
theorem slice_rows {H : Type} {enc : TypeId × Value → H} {W : World} {fuel : Nat} {v : Value} {d : DataW H} {pl : List MemPlace} {t e : TypeId} (sz : Nat) (hz : 0 < sz) (ht : Tryz.prog.underlying t = some (.slice e)) (he : Tryz.prog.cellsOf e = sz)
    (hd : DataW.trod enc Tryz.prog W 0 (fun _ => true) true fuel t [v] = some (d, pl)) (hb : Rows.uptoBulk d ≤ 1048576) :
    ∃ a n cap, v = .slice a n cap ∧ n ≤ 1048576 ∧ (n = 0 ∨ ∃ b off, a = some ⟨b, off, none⟩ ∧ n ≤ cap ∧ cap ≤ maxLen ∧ b < W.heap.size ∧ ∀ i, i < n → ∃ cs fuel' d' pl', W.cells? 0 ⟨b, off + i * sz, none⟩ sz = some cs ∧ DataW.trod enc Tryz.prog W 0 (fun _ => true) true fuel' e cs = some (d', pl') ∧ Rows.uptoBulk d' ≤ 1048576) := by
  rcases open_slice ht hd with ⟨hcs, _⟩ | ⟨ad, len, cp, m, q, D, Pl, hcs, _, hl, hm, hmm, hx, hel⟩
  · simp at hcs; exact ⟨none, 0, 0, hcs, by omega, .inl rfl⟩
  · simp only [List.cons.injEq, and_true] at hcs
    subst hcs
    have hd' : d = .slice ((List.range len).map D) ((List.range (m - len)).map fun j => D (len + j)) := congrArg Prod.fst hx
    rw [hd'] at hb
    simp only [Rows.uptoBulk] at hb
    have hbe : ∀ i, i < len → Rows.uptoBulk (D i) ≤ 1048576 := fun i hi => by
      have := bulk_part (d := D i) (l := (List.range len).map D) (List.mem_map.2 ⟨i, List.mem_range.2 hi, rfl⟩)
      omega
    have hle := bulk_len ((List.range len).map D)
    rw [List.length_map, List.length_range] at hle
    refine ⟨some ad, len, cp, rfl, by omega, ?_⟩
    by_cases hn : len = 0
    · exact .inl hn
    · right
      have hmn : len ≤ m := by rw [hmm]; split <;> omega
      obtain ⟨blk, off, spot⟩ := ad
      rw [he] at hel
      obtain ⟨cs0, hc0, _⟩ := hel 0 (by omega)
      obtain ⟨_, _, hcell0⟩ := World.cells?_some hc0
      have hlen0 : cs0.length = sz := (World.cells?_some hc0).2.1
      have h00 := hcell0 0 (by omega)
      rw [List.getElem?_eq_getElem (by omega)] at h00
      have hspot : spot = none := by simpa [Addr.add] using World.cell?_spot h00
      subst hspot
      have hblk : blk < W.heap.size := by
        have h01 : W.cell? ⟨blk, off, none⟩ = some cs0[0] := by simpa [Addr.add] using h00
        exact block_lt h01
      refine ⟨blk, off, rfl, hl, hm, hblk, fun i hi => ?_⟩
      obtain ⟨cs', h1, h2⟩ := hel i (by omega)
      rw [add_plain] at h1
      exact ⟨cs', q, D i, Pl i, h1, h2, hbe i hi⟩
theorem cells_at {W : World} {b o n : Nat} {cs : List Value} (h : W.cells? 0 ⟨b, o, none⟩ n = some cs) : cs.length = n ∧ ∀ j, j < n → W.cell? ⟨b, o + j, none⟩ = cs[j]? := by
  obtain ⟨_, hl, hc⟩ := World.cells?_some h
  refine ⟨hl, fun j hj => ?_⟩
  have := hc j hj
  rwa [add_plain] at this
end Go.Proofs.YtolgpnaoaodepaaGreat
/- A script that came in, for trees: its steps' numbers, texts, changes. -/
namespace Go.Proofs.YtolgpnaoaodepaaGreat
open Go.ChangeShapes Go.WideShapes Go.ChangeAt Go.RowKit Go.Deep

/-- A step's thirteen cells. -/
def OpT (w : World) (b o : Nat) : Prop := ∃ (kk ix : Int) (s t : ByteArray) (c4 c5 c6 c7 c8 : Value) (ck : Int) (key x : ByteArray) (c12 : Value),
  w.cell? ⟨b, o, none⟩ = some (.int .i64 kk) ∧ w.cell? ⟨b, o + 1, none⟩ = some (.int .i64 ix) ∧ w.cell? ⟨b, o + 2, none⟩ = some (.string s) ∧ w.cell? ⟨b, o + 3, none⟩ = some (.string t) ∧ w.cell? ⟨b, o + 4, none⟩ = some c4 ∧ w.cell? ⟨b, o + 5, none⟩ = some c5 ∧ w.cell? ⟨b, o + 6, none⟩ = some c6 ∧ w.cell? ⟨b, o + 7, none⟩ = some c7 ∧ w.cell? ⟨b, o + 8, none⟩ = some c8 ∧ w.cell? ⟨b, o + 9, none⟩ = some (.int .i64 ck) ∧ w.cell? ⟨b, o + 10, none⟩ = some (.string key) ∧ w.cell? ⟨b, o + 11, none⟩ = some (.string x) ∧ w.cell? ⟨b, o + 12, none⟩ = some c12
theorem OpT.keep {w w' : World} {b o : Nat} (h : OpT w b o) (hk : w'.heap[b]? = w.heap[b]?) : OpT w' b o := by
  have e : ∀ i, w'.cell? ⟨b, i, none⟩ = w.cell? ⟨b, i, none⟩ := fun i => by simp only [World.cell?, hk]
  unfold OpT at *
  simp only [e]
  exact h
theorem cellsNodT : Tryz.prog.cellsOf 79 = 5 := by kernel_rfl
theorem cellsChgT : Tryz.prog.cellsOf 34 = 3 := by kernel_rfl
theorem bulk_many {H : Type} {m : Nat} : ∀ {l : List (DataW H)}, (∀ d ∈ l, m ≤ Rows.uptoBulk d) → l.length * m ≤ Rows.uptoBulkAll l
  | [], _ => by simp [Rows.uptoBulkAll]
  | x :: r, h => by
    have h1 := h x (List.mem_cons_self ..)
    have h2 := bulk_many fun d hd => h d (List.mem_cons_of_mem _ hd)
    simp only [Rows.uptoBulkAll, List.length_cons, Nat.add_mul, Nat.one_mul]
    omega
theorem len7 {α : Type} {l : List α} (h : l.length = 7) : ∃ a b c d e f g, l = [a, b, c, d, e, f, g] := by
  match l, h with
  | [a, b, c, d, e, f, g], _ => exact ⟨a, b, c, d, e, f, g, rfl⟩
set_option maxRecDepth 100000 in
theorem opT_of {H : Type} {enc : TypeId × Value → H} {W : World} {fuel b o : Nat} {cs : List Value} {d : DataW H} {pl : List MemPlace}
    (hc : W.cells? 0 ⟨b, o, none⟩ 13 = some cs) (hd : DataW.trod enc Tryz.prog W 0 (fun _ => true) true fuel 81 cs = some (d, pl)) : OpT W b o ∧ 16 ≤ Rows.uptoBulk d := by
  obtain ⟨hlen, hcell⟩ := cells_at hc
  obtain ⟨xs, n, _, hx, _, hxl, hf⟩ := DataW.trod_struct Tryz.underlying81 hd
  have hd' : d = .agg (xs.map (·.1)) := congrArg Prod.fst hx
  have f0 : DataW.trod enc Tryz.prog W 0 (fun _ => true) true n 3 ((cs.drop 0).take (Tryz.prog.cellsOf 3)) = xs[0]? := hf 0 _ rfl
  have f1 : DataW.trod enc Tryz.prog W 0 (fun _ => true) true n 3 ((cs.drop 1).take (Tryz.prog.cellsOf 3)) = xs[1]? := hf 1 _ rfl
  have f2 : DataW.trod enc Tryz.prog W 0 (fun _ => true) true n 9 ((cs.drop 2).take (Tryz.prog.cellsOf 9)) = xs[2]? := hf 2 _ rfl
  have f3 : DataW.trod enc Tryz.prog W 0 (fun _ => true) true n 9 ((cs.drop 3).take (Tryz.prog.cellsOf 9)) = xs[3]? := hf 3 _ rfl
  have f4 : DataW.trod enc Tryz.prog W 0 (fun _ => true) true n 79 ((cs.drop 4).take (Tryz.prog.cellsOf 79)) = xs[4]? := hf 4 _ rfl
  have f5 : DataW.trod enc Tryz.prog W 0 (fun _ => true) true n 34 ((cs.drop 9).take (Tryz.prog.cellsOf 34)) = xs[5]? := hf 5 _ rfl
  rw [cellsInt] at f0 f1
  rw [cellsStr] at f2 f3
  rw [cellsNodT] at f4
  rw [cellsChgT] at f5
  obtain ⟨x0, x1, x2, x3, x4, x5, x6, rfl⟩ := len7 (show xs.length = 7 from hxl)
  match cs, hlen with
  | [v0, v1, v2, v3, v4, v5, v6, v7, v8, v9, v10, v11, v12], _ =>
    simp only [List.drop_zero, List.drop_succ_cons, List.take_succ_cons, List.take_zero, List.getElem?_cons_zero, List.getElem?_cons_succ] at f0 f1 f2 f3 f4 f5
    obtain ⟨kk, e0, _, _⟩ := DataW.trod_int Tryz.underlying3 f0
    obtain ⟨ix, e1, _, _⟩ := DataW.trod_int Tryz.underlying3 f1
    obtain ⟨s, e2, _, _⟩ := DataW.trod_string Tryz.underlying9 f2
    obtain ⟨t, e3, _, _⟩ := DataW.trod_string Tryz.underlying9 f3
    simp only [List.cons.injEq, and_true] at e0 e1 e2 e3
    subst e0 e1 e2 e3
    obtain ⟨ys, m, _, hy, _, hyl, -⟩ := DataW.trod_struct Tryz.underlying79 f4
    obtain ⟨zs, m', _, hz, _, hzl, hg⟩ := DataW.trod_struct Tryz.underlying34 f5
    have g0 : DataW.trod enc Tryz.prog W 0 (fun _ => true) true m' 3 (([v9, v10, v11].drop 0).take (Tryz.prog.cellsOf 3)) = zs[0]? := hg 0 _ rfl
    have g1 : DataW.trod enc Tryz.prog W 0 (fun _ => true) true m' 9 (([v9, v10, v11].drop 1).take (Tryz.prog.cellsOf 9)) = zs[1]? := hg 1 _ rfl
    have g2 : DataW.trod enc Tryz.prog W 0 (fun _ => true) true m' 9 (([v9, v10, v11].drop 2).take (Tryz.prog.cellsOf 9)) = zs[2]? := hg 2 _ rfl
    rw [cellsInt] at g0
    rw [cellsStr] at g1 g2
    have hz3 : zs.length = 3 := hzl
    have hy5 : ys.length = 5 := hyl
    simp only [List.drop_zero, List.drop_succ_cons, List.take_succ_cons, List.take_zero] at g0 g1 g2
    rw [List.getElem?_eq_getElem (by omega)] at g0 g1 g2
    obtain ⟨ck, e9, _, _⟩ := DataW.trod_int Tryz.underlying3 g0
    obtain ⟨key, e10, _, _⟩ := DataW.trod_string Tryz.underlying9 g1
    obtain ⟨x, e11, _, _⟩ := DataW.trod_string Tryz.underlying9 g2
    simp only [List.cons.injEq, and_true] at e9 e10 e11
    subst e9 e10 e11
    refine ⟨⟨kk, ix, s, t, v4, v5, v6, v7, v8, ck, key, x, v12, hcell 0 (by decide), hcell 1 (by decide), hcell 2 (by decide), hcell 3 (by decide), hcell 4 (by decide), hcell 5 (by decide), hcell 6 (by decide), hcell 7 (by decide), hcell 8 (by decide), hcell 9 (by decide), hcell 10 (by decide), hcell 11 (by decide), hcell 12 (by decide)⟩, ?_⟩
    have b4 : x4.1 = .agg (ys.map (·.1)) := congrArg Prod.fst hy
    have b5 : x5.1 = .agg (zs.map (·.1)) := congrArg Prod.fst hz
    have l4 := bulk_len (ys.map (·.1))
    have l5 := bulk_len (zs.map (·.1))
    rw [List.length_map] at l4 l5
    have q0 := bulk_one x0.1
    have q1 := bulk_one x1.1
    have q2 := bulk_one x2.1
    have q3 := bulk_one x3.1
    have q6 := bulk_one x6.1
    rw [hd']
    simp only [Rows.uptoBulk, Rows.uptoBulkAll, List.map_cons, List.map_nil, b4, b5]
    omega
/-- A script: nothing, or steps that lie in a row. -/
def IsScriptT (w : World) (a : Option Addr) (n cap : Nat) : Prop := n = 0 ∨ ∃ b off, a = some ⟨b, off, none⟩ ∧ n ≤ cap ∧ n ≤ 65536 ∧ b < w.heap.size ∧ ∀ i, i < n → OpT w b (off + i * 13)
theorem scriptT_of {H : Type} {enc : TypeId × Value → H} {W : World} {a : Option Addr} {n cap fuel : Nat} {d : DataW H} {pl : List MemPlace}
    (hd : DataW.trod enc Tryz.prog W 0 (fun _ => true) true fuel 22 [.slice a n cap] = some (d, pl)) (hb : Rows.uptoBulk d ≤ 1048576) : IsScriptT W a n cap := by
  obtain ⟨a', n', cap', e, hn, h⟩ := slice_rows 13 (by decide) Tryz.underlying22 cellsOp hd hb
  simp only [Value.slice.injEq] at e
  obtain ⟨rfl, rfl, rfl⟩ := e
  have hlen : n ≤ 65536 := by
    rcases open_slice Tryz.underlying22 hd with ⟨hcs, _⟩ | ⟨ad, len, cp, m, q, D, Pl, hcs, _, hl, hm, hmm, hx, hel⟩
    · simp at hcs; omega
    · simp only [List.cons.injEq, Value.slice.injEq, and_true] at hcs
      obtain ⟨-, rfl, -⟩ := hcs
      have hmn : n ≤ m := by rw [hmm]; split <;> omega
      have hd' : d = .slice ((List.range n).map D) ((List.range (m - n)).map fun j => D (n + j)) := congrArg Prod.fst hx
      rw [hd'] at hb
      simp only [Rows.uptoBulk] at hb
      rw [cellsOp] at hel
      obtain ⟨blk, off, spot⟩ := ad
      have h16 : ∀ x ∈ (List.range n).map D, 16 ≤ Rows.uptoBulk x := fun x hx => by
        obtain ⟨i, hi, rfl⟩ := List.mem_map.1 hx
        have hi' := List.mem_range.1 hi
        obtain ⟨cs0, hc0, _⟩ := hel 0 (by omega)
        obtain ⟨_, hlen0, hcell0⟩ := World.cells?_some hc0
        have h00 := hcell0 0 (by omega)
        rw [List.getElem?_eq_getElem (by omega)] at h00
        have hspot : spot = none := by simpa [Addr.add] using World.cell?_spot h00
        subst hspot
        obtain ⟨cs', h1, h2⟩ := hel i (by omega)
        rw [add_plain] at h1
        exact (opT_of h1 h2).2
      have := bulk_many h16
      rw [List.length_map, List.length_range] at this
      omega
  refine h.imp_right fun ⟨b, off, e, h1, h2, h3, hel⟩ => ⟨b, off, e, h1, hlen, h3, fun i hi => ?_⟩
  obtain ⟨cs, f, d', pl', c1, c2, c3⟩ := hel i hi
  exact (opT_of c1 c2).1
end Go.Proofs.YtolgpnaoaodepaaGreat
/- The walk of given, of the kinds 1 and 2. -/
namespace Go.Proofs.YtolgpnaoaodepaaGreat
open Go.RowKit

/-- The leaf that is given. -/
def gl : List (ByteArray × ByteArray) := [(⟨#[97]⟩, ⟨#[120]⟩)]
def gPage : ByteArray := ⟨(Pg.leaf (plain gl)).toArray⟩
def gOld : ByteArray := ⟨(Pg.oldLeaf (plain gl)).toArray⟩
/-- What given lays first stands as it was laid; nothing elder has turned. -/
structure Giv (w w' : World) : Prop where
  bel : Below w.heap.size w w'
  sz : w.heap.size + 2 ≤ w'.heap.size
  it : w'.heap[w.heap.size]? = some (.cells #[.string ⟨#[97]⟩, .string ⟨#[120]⟩] 51 (0, 0))
  nd : w'.heap[w.heap.size + 1]? = some (.cells #[.int .i64 1, .slice (some ⟨w.heap.size, 0, none⟩) 1 1, .slice none 0 0, .slice none 0 0, .slice none 0 0] 79 (0, 0))
theorem Giv.next {w w' w'' : World} (h : Giv w w') (hb : Below w'.heap.size w' w'') : Giv w w'' :=
  ⟨h.bel.trans (hb.mono h.bel.size), Nat.le_trans h.sz hb.size, (hb.block _ (by have := h.sz; omega)).trans h.it, (hb.block _ (by have := h.sz; omega)).trans h.nd⟩
theorem Giv.cells {w w' : World} (h : Giv w w') : w'.cell? ⟨w.heap.size + 1, 0, none⟩ = some (.int .i64 1) ∧ w'.cell? ⟨w.heap.size + 1, 1, none⟩ = some (.slice (some ⟨w.heap.size, 0, none⟩) 1 1) ∧ w'.cell? ⟨w.heap.size + 1, 2, none⟩ = some (.slice none 0 0) ∧ w'.cell? ⟨w.heap.size + 1, 3, none⟩ = some (.slice none 0 0) ∧ w'.cell? ⟨w.heap.size + 1, 4, none⟩ = some (.slice none 0 0) := by
  have := h.nd
  refine ⟨?_, ?_, ?_, ?_, ?_⟩ <;> simp [World.cell?, this]
theorem Giv.items {w w' : World} (h : Giv w w') : IsItems w' (.slice (some ⟨w.heap.size, 0, none⟩) 1 1) gl := by
  refine .inr ⟨w.heap.size, 0, 1, rfl, Nat.le_refl _, by decide, by have := h.sz; omega, ?_⟩
  intro i hi
  have hi0 : i = 0 := by simp [gl] at hi; exact hi
  subst hi0
  have := h.it
  constructor <;> simp [World.cell?, this, gl]
theorem gl_sz : ∀ x ∈ gl, x.1.size ≤ 12 ∧ x.2.size ≤ 16 := by
  intro x hx; simp [gl] at hx; subst hx; decide
theorem gPage_any {w0 : World} (w : World) (h : Giv w0 w) :
    Calls Tryz.prog 48 #[.agg #[.int .i64 1, .slice (some ⟨w0.heap.size, 0, none⟩) 1 1, .slice none 0 0, .slice none 0 0, .slice none 0 0]] w fun r w' => r = .returned (.string gPage) ∧ Giv w0 w' :=
  (pageLeaf_any 1 _ _ _ _ gl w (by decide) h.items (by decide) gl_sz).mono fun _ _ hx => ⟨hx.1, h.next hx.2⟩
theorem gOld_any {w0 : World} (w : World) (h : Giv w0 w) :
    Calls Tryz.prog 49 #[.agg #[.int .i64 1, .slice (some ⟨w0.heap.size, 0, none⟩) 1 1, .slice none 0 0, .slice none 0 0, .slice none 0 0]] w fun r w' => r = .returned (.string gOld) ∧ Giv w0 w' :=
  (oldLeaf_any _ _ _ _ gl w h.items (by decide) gl_sz).mono fun _ _ hx => ⟨hx.1, h.next hx.2⟩
theorem Giv.drew {w w' : World} (h : Giv w w') : Giv w w'.drew := ⟨h.bel.drew, h.sz, h.it, h.nd⟩

attribute [local go_sem ↓] Go.wp_at_zero Go.wp_at_succ
end Go.Proofs.YtolgpnaoaodepaaGreat
/- The walks of given and plays, of the kinds 7 to 10, and of Trees. -/
namespace Go.Proofs.YtolgpnaoaodepaaGreat
open Go.RowKit

theorem step710_any {b k N : Nat} {X : Nat → Prop} {vl : Value} {qs : List (Nat × List Nat)} {w : World} (h : LW b k N X vl qs w) (hk : k ≤ 90000000) (hN1 : 1 ≤ N) (hN : N + 1 ≤ 90000) (kk : Int) (hkk : 7 ≤ kk ∧ kk ≤ 10) (ix : Int) (s t : ByteArray) (c4 c5 c6 c7 c8 : Value) (ck : Int) (key xv : ByteArray) (c12 : Value) :
    Calls Tryz.prog 28 #[.pointer (some ⟨b, 0, none⟩), .agg #[.int .i64 kk, .int .i64 ix, .string s, .string t, c4, c5, c6, c7, c8, .int .i64 ck, .string key, .string xv, c12]] w (StQ b k N X w) := by
  by_cases h7 : kk = 7
  · subst h7
    exact stepNew_any h hN1 (by omega) ix s t c4 c5 c6 c7 c8 ck key xv c12
  · exact stepGrown_any h hk hN kk (by omega) ix s t c4 c5 c6 c7 c8 ck key xv c12

attribute [local go_sem ↓] Go.wp_at_zero Go.wp_at_succ
set_option maxHeartbeats 2500000 in
set_option maxRecDepth 100000 in
theorem given710_any (b : Nat) (vl : Value) (w : World) (hB : LW b 0 1 (fun _ => False) vl [] w) :
    Calls Tryz.prog 27 #[.pointer (some ⟨b, 0, none⟩), .int .i64 7, .int .i64 10] w fun r w' => r = .returned (.bool true) ∧ (∃ vl' qs', LW b 48 13 (fun _ => False) vl' qs' w') ∧ Below b w w' := by
  have HB := hid hB
  have hbw : b < w.heap.size := hB.lt
  clear hB
  have G0 : Giv w ((w.alloc (.cells #[.string ⟨#[97]⟩, .string ⟨#[120]⟩] 51)).alloc (.cells #[.int .i64 1, .slice (some ⟨w.heap.size, 0, none⟩) 1 1, .slice none 0 0, .slice none 0 0, .slice none 0 0] 79)) := by
    refine ⟨((Below.refl _ w).alloc (Nat.le_refl _) _).alloc (by simp) _, by simp, ?_, ?_⟩
    · rw [Below.heap_alloc _ _ _ (by simp)]; exact heap_alloc_new _ _
    · have := heap_alloc_new (w.alloc (.cells #[.string ⟨#[97]⟩, .string ⟨#[120]⟩] 51)) (.cells #[.int .i64 1, .slice (some ⟨w.heap.size, 0, none⟩) 1 1, .slice none 0 0, .slice none 0 0, .slice none 0 0] 79)
      simpa using this
  go_enter Tryz.func27, Tryz.ntmps27
  go_wp2_with fail
  generalize (w.alloc (.cells #[.string ⟨#[97]⟩, .string ⟨#[120]⟩] 51)).alloc (.cells #[.int .i64 1, .slice (some ⟨w.heap.size, 0, none⟩) 1 1, .slice none 0 0, .slice none 0 0, .slice none 0 0] 79) = w0 at *
  obtain ⟨a0, a1, a2, a3, a4⟩ := G0.cells
  have hz0 := G0.sz
  go_region_held3 (fun w' => w'.cell? ⟨w.heap.size + 1, 0, none⟩ = some (.int .i64 1) ∧ w'.cell? ⟨w.heap.size + 1, 1, none⟩ = some (.slice (some ⟨w.heap.size, 0, none⟩) 1 1) ∧ w'.cell? ⟨w.heap.size + 1, 2, none⟩ = some (.slice none 0 0) ∧ w'.cell? ⟨w.heap.size + 1, 3, none⟩ = some (.slice none 0 0) ∧ w'.cell? ⟨w.heap.size + 1, 4, none⟩ = some (.slice none 0 0)) (go_keep)
    (first
      | (go_at_call 48; refine (gPage_any _ (by first | exact G0.drew | assumption)).mono ?_; rintro r w3 ⟨rfl, G3⟩; obtain ⟨b0, b1, b2, b3, b4⟩ := G3.cells; have hz3 := G3.sz)
      | (go_at_call 49; refine (gOld_any _ (by assumption)).mono ?_; rintro r w3 ⟨rfl, G3⟩; obtain ⟨b0, b1, b2, b3, b4⟩ := G3.cells; have hz3 := G3.sz))
  all_goals go_wp2_with fail
  generalize hW : World.alloc (World.alloc w3 _) (Obj.cells _ 81 _) = W at *
  have hsW : w3.heap.size + 2 = W.heap.size := by rw [← hW]; simp
  have HBW : Hid (Below w.heap.size w W) := by
    rw [← hW]; exact (G3.bel.alloc (by omega) _).alloc (by simp; omega) _
  have F : ∀ k, k < 12 → OpT W (w3.heap.size + 1) (k * 13) := by
    intro k hk
    have hc := fun (o : Nat) (v : Value) => cell_of_alloc hW (show _ = w3.heap.size + 1 by simp) o v
    match k, hk with
    | 0, _ => exact ⟨_, _, _, _, _, _, _, _, _, _, _, _, _, hc _ _ rfl, hc _ _ rfl, hc _ _ rfl, hc _ _ rfl, hc _ _ rfl, hc _ _ rfl, hc _ _ rfl, hc _ _ rfl, hc _ _ rfl, hc _ _ rfl, hc _ _ rfl, hc _ _ rfl, hc _ _ rfl⟩
    | 1, _ => exact ⟨_, _, _, _, _, _, _, _, _, _, _, _, _, hc _ _ rfl, hc _ _ rfl, hc _ _ rfl, hc _ _ rfl, hc _ _ rfl, hc _ _ rfl, hc _ _ rfl, hc _ _ rfl, hc _ _ rfl, hc _ _ rfl, hc _ _ rfl, hc _ _ rfl, hc _ _ rfl⟩
    | 2, _ => exact ⟨_, _, _, _, _, _, _, _, _, _, _, _, _, hc _ _ rfl, hc _ _ rfl, hc _ _ rfl, hc _ _ rfl, hc _ _ rfl, hc _ _ rfl, hc _ _ rfl, hc _ _ rfl, hc _ _ rfl, hc _ _ rfl, hc _ _ rfl, hc _ _ rfl, hc _ _ rfl⟩
    | 3, _ => exact ⟨_, _, _, _, _, _, _, _, _, _, _, _, _, hc _ _ rfl, hc _ _ rfl, hc _ _ rfl, hc _ _ rfl, hc _ _ rfl, hc _ _ rfl, hc _ _ rfl, hc _ _ rfl, hc _ _ rfl, hc _ _ rfl, hc _ _ rfl, hc _ _ rfl, hc _ _ rfl⟩
    | 4, _ => exact ⟨_, _, _, _, _, _, _, _, _, _, _, _, _, hc _ _ rfl, hc _ _ rfl, hc _ _ rfl, hc _ _ rfl, hc _ _ rfl, hc _ _ rfl, hc _ _ rfl, hc _ _ rfl, hc _ _ rfl, hc _ _ rfl, hc _ _ rfl, hc _ _ rfl, hc _ _ rfl⟩
    | 5, _ => exact ⟨_, _, _, _, _, _, _, _, _, _, _, _, _, hc _ _ rfl, hc _ _ rfl, hc _ _ rfl, hc _ _ rfl, hc _ _ rfl, hc _ _ rfl, hc _ _ rfl, hc _ _ rfl, hc _ _ rfl, hc _ _ rfl, hc _ _ rfl, hc _ _ rfl, hc _ _ rfl⟩
    | 6, _ => exact ⟨_, _, _, _, _, _, _, _, _, _, _, _, _, hc _ _ rfl, hc _ _ rfl, hc _ _ rfl, hc _ _ rfl, hc _ _ rfl, hc _ _ rfl, hc _ _ rfl, hc _ _ rfl, hc _ _ rfl, hc _ _ rfl, hc _ _ rfl, hc _ _ rfl, hc _ _ rfl⟩
    | 7, _ => exact ⟨_, _, _, _, _, _, _, _, _, _, _, _, _, hc _ _ rfl, hc _ _ rfl, hc _ _ rfl, hc _ _ rfl, hc _ _ rfl, hc _ _ rfl, hc _ _ rfl, hc _ _ rfl, hc _ _ rfl, hc _ _ rfl, hc _ _ rfl, hc _ _ rfl, hc _ _ rfl⟩
    | 8, _ => exact ⟨_, _, _, _, _, _, _, _, _, _, _, _, _, hc _ _ rfl, hc _ _ rfl, hc _ _ rfl, hc _ _ rfl, hc _ _ rfl, hc _ _ rfl, hc _ _ rfl, hc _ _ rfl, hc _ _ rfl, hc _ _ rfl, hc _ _ rfl, hc _ _ rfl, hc _ _ rfl⟩
    | 9, _ => exact ⟨_, _, _, _, _, _, _, _, _, _, _, _, _, hc _ _ rfl, hc _ _ rfl, hc _ _ rfl, hc _ _ rfl, hc _ _ rfl, hc _ _ rfl, hc _ _ rfl, hc _ _ rfl, hc _ _ rfl, hc _ _ rfl, hc _ _ rfl, hc _ _ rfl, hc _ _ rfl⟩
    | 10, _ => exact ⟨_, _, _, _, _, _, _, _, _, _, _, _, _, hc _ _ rfl, hc _ _ rfl, hc _ _ rfl, hc _ _ rfl, hc _ _ rfl, hc _ _ rfl, hc _ _ rfl, hc _ _ rfl, hc _ _ rfl, hc _ _ rfl, hc _ _ rfl, hc _ _ rfl, hc _ _ rfl⟩
    | 11, _ => exact ⟨_, _, _, _, _, _, _, _, _, _, _, _, _, hc _ _ rfl, hc _ _ rfl, hc _ _ rfl, hc _ _ rfl, hc _ _ rfl, hc _ _ rfl, hc _ _ rfl, hc _ _ rfl, hc _ _ rfl, hc _ _ rfl, hc _ _ rfl, hc _ _ rfl, hc _ _ rfl⟩
  have HF := hid F
  clear hW F
  go_loopw [9] (fun i wr => ∃ k : Nat, k ≤ 12 ∧ i = .int .i64 k ∧ (∃ vl' qs', LW b (k * 4) (1 + k) (fun x => x = w3.heap.size + 1) vl' qs' wr) ∧ Below b W wr ∧ (∀ g, g = w3.heap.size + 1 → wr.heap[g]? = W.heap[g]?)) (fun i _ => 12 - (intOf i).toNat)
  case atStart => exact ⟨0, by omega, rfl, ⟨vl, [], HB.out.aside HBW.out (fun g hg => .inr (by omega))⟩, Below.refl _ _, fun _ _ => rfl⟩
  case round =>
    obtain ⟨k, hk, rfl, ⟨vl', qs', hlw⟩, hbl, hsame⟩ := hrel
    by_cases hk12 : k < 12
    · obtain ⟨kk, ix, s, t, c4, c5, c6, c7, c8, ck, key, xv, c12, e0, e1, e2, e3, e4, e5, e6, e7, e8, e9, e10, e11, e12⟩ := (HF.out k hk12).keep (hsame _ rfl)
      have HLW := hid hlw
      have HBL := hid hbl
      have HSM := hid hsame
      clear hlw hbl hsame
      by_cases hkk : 7 ≤ kk ∧ kk ≤ 10
      · have HK := hid (step710_any HLW.out (by omega) (by omega) (by omega) kk hkk ix s t c4 c5 c6 c7 c8 ck key xv c12)
        obtain ⟨hk1, hk2⟩ := hkk
        go_wp2_with fail
        refine HK.out.mono ?_
        intro r w5 hs
        have Q1 : Hid (∃ vl' qs', LW b ((k + 1) * 4) (1 + (k + 1)) (fun x => x = w3.heap.size + 1) vl' qs' w5) := by
          obtain ⟨a, b, q⟩ := hs.lw
          exact ⟨a, b, q.mono (by omega) (by omega)⟩
        have Q2 := hid (HBL.out.trans hs.bel)
        have Q3 : Hid (∀ g, g = w3.heap.size + 1 → w5.heap[g]? = W.heap[g]?) := fun g hg => (hs.same g hg).trans (HSM.out g hg)
        obtain rfl := hs.ret
        clear hs HK e0 e1 e2 e3 e4 e5 e6 e7 e8 e9 e10 e11 e12
        go_wp2_with fail
        go_roundw
        case rel => exact ⟨k + 1, by omega, by go_num, Q1.out, Q2.out, Q3.out⟩
        case measure => simp [intOf]; omega
      · by_cases hk1 : 7 ≤ kk
        · have hk2 : 10 < kk := by omega
          have hd : decide (kk ≤ 10) = false := by simp; omega
          clear hkk
          go_wp2_with fail
          go_roundw
          case rel => exact ⟨k + 1, by omega, by go_num, ⟨_, _, HLW.out.mono (by omega) (by omega)⟩, HBL.out, HSM.out⟩
          case measure => simp [intOf]; omega
        · have hd : decide (7 ≤ kk) = false := by simp; omega
          clear hkk
          go_wp2_with fail
          go_roundw
          case rel => exact ⟨k + 1, by omega, by go_num, ⟨_, _, HLW.out.mono (by omega) (by omega)⟩, HBL.out, HSM.out⟩
          case measure => simp [intOf]; omega
    · have HLW : Hid (LW b 48 13 (fun _ => False) vl' qs' wr) := (hlw.mono (by omega) (by omega)).less fun g hg => hg.elim
      have HBL := hid hbl
      clear hlw hbl hsame
      go_wp2_with fail
      go_ret
      exact ⟨rfl, ⟨_, _, HLW.out⟩, (HBW.out.mono (by omega)).trans HBL.out⟩
end Go.Proofs.YtolgpnaoaodepaaGreat
