/- slices.Replace of a part by some. -/
import Derived.Test.YtolgpnaoaodepaaGreatTreTm
namespace Go.Proofs.YtolgpnaoaodepaaGreat
open Go.RowKit

/-- A part is replaced by some. -/
def repP (pl : List (ByteArray × Nat)) (i : Nat) (xl : List (ByteArray × Nat)) : List (ByteArray × Nat) := pl.take i ++ xl ++ pl.drop (i + 1)
theorem repP_len (pl : List (ByteArray × Nat)) (i : Nat) (xl : List (ByteArray × Nat)) (hi : i < pl.length) : (repP pl i xl).length = pl.length - 1 + xl.length := by simp [repP]; omega
theorem repP_cells (pl : List (ByteArray × Nat)) (i : Nat) (xl : List (ByteArray × Nat)) : pcells (repP pl i xl) = pcells (pl.take i) ++ pcells xl ++ pcells (pl.drop (i + 1)) := by
  unfold repP; rw [pcells_append, pcells_append]
structure RepQ (v : Value) (l : List (ByteArray × Nat)) (w : World) (v' : Value) (w' : World) : Prop where
  o : OwnsP 0 w' v' l
  g : w.grownBy w' v.ownBlock
  b : v'.ownBlock = v.ownBlock ∨ ∃ k, w.heap.size ≤ k ∧ v'.ownBlock = some k
theorem row_prefix {w : World} {g cap : Nat} {pl : List (ByteArray × Nat)} (h : OwnsP 0 w (.slice (some ⟨g, 0, none⟩) pl.length cap) pl) (i : Nat) (hi : i ≤ pl.length) : w.ownsRow 0 132 2 (.slice (some ⟨g, 0, none⟩) i cap) i (pcells (pl.take i)) := by
  rcases h.2 with ⟨q, _⟩ | ⟨g', cap', cur, e, hb, hg, hc, hm, hcs, htk⟩
  · simp at q
  · simp only [Value.slice.injEq, Option.some.injEq, Addr.mk.injEq, and_true, true_and] at e
    obtain ⟨rfl, rfl⟩ := e
    refine ⟨by rw [pcells_len, List.length_take]; omega, .inr ⟨g, cap, cur, rfl, hb, hg, by omega, hm, hcs, ?_⟩⟩
    rw [pcells_take _ _ hi, ← htk, List.take_take]
    congr 1; omega
/-- A row's parts lie there. -/
theorem parts_all {w : World} {g cap : Nat} {pl : List (ByteArray × Nat)} (h : OwnsP 0 w (.slice (some ⟨g, 0, none⟩) pl.length cap) pl) : ∀ j u, (pcells pl)[j]? = some u → w.cell? ⟨g, j, none⟩ = some u := by
  intro j u hj
  have := parts_src h 0 (Nat.zero_le _) j u (by simpa using hj)
  simpa using this

set_option maxHeartbeats 600000 in
set_option maxRecDepth 20000 in
theorem replaceEnd_any (g cap gv cv : Nat) (pl xl : List (ByteArray × Nat)) (i : Nat) (w : World) (hi : i + 1 = pl.length) (h : OwnsP 0 w (.slice (some ⟨g, 0, none⟩) pl.length cap) pl) (hx : OwnsP 0 w (.slice (some ⟨gv, 0, none⟩) xl.length cv) xl) (hx1 : 0 < xl.length) (hl : pl.length ≤ 1000000) (hl2 : xl.length ≤ 1000000) :
    Calls Tryz.prog 175 #[.slice (some ⟨g, 0, none⟩) pl.length cap, .int .i64 (i : Nat), .int .i64 ((i : Nat) + 1), .slice (some ⟨gv, 0, none⟩) xl.length cv] w fun r w' => ∃ v', r = .returned v' ∧ RepQ (.slice (some ⟨g, 0, none⟩) pl.length cap) (repP pl i xl) w v' w' := by
  obtain ⟨g', cap', e, hc, -, -, -, -⟩ := h.at 0 (by omega)
  simp only [Value.slice.injEq, Option.some.injEq, Addr.mk.injEq, and_true, true_and] at e
  obtain ⟨rfl, rfl⟩ := e
  have HPF := hid (row_prefix h i (by omega))
  have HXC : Hid (∀ j u, (pcells xl)[j]? = some u → w.cell? ((⟨gv, 0, none⟩ : Addr).add j) = some u) := fun j u hj => by rw [off_add, Nat.zero_add]; exact parts_all hx j u hj
  have HRP : Hid (repP pl i xl = pl.take i ++ xl) := by show _ = _; unfold repP; rw [List.drop_of_length_le (by omega), List.append_nil]
  have HLX : Hid ((pcells xl).length = xl.length * 2) := pcells_len xl
  clear h hx
  have b0 : i ≤ 1000000 := by omega
  have b1 : i ≤ cap := by omega
  have b2 : (i : Int) + 1 ≤ (cap : Int) := by omega
  have b3 : i + 1 ≤ cap := by omega
  have b4 : ((i : Int) == (i : Int) + 1) = false := by simp; omega
  have b5 : ((i : Int) + 1 == (pl.length : Int)) = true := by simp; omega
  have HLT : Hid (¬ ((i : Int) + (xl.length : Int)) < (pl.length : Int)) := by show ¬ _; omega
  have HIL := hid hi
  clear hi
  go_enter Tryz.func175, Tryz.ntmps175
  go_upto_region 6 with (at_builtin; refine wpApAt w rfl (.tmp 32) (.tmp 33) 121 132 Tryz.underlying121 _ 2 24 info_part rfl (by decide) (by decide) rfl 0 (.slice (some ⟨g, 0, none⟩) i cap) i (pcells (pl.take i)) rfl HPF.out ⟨gv, 0, none⟩ xl.length cv (pcells xl) rfl HLX.out HXC.out (one_pcells xl) (by omega) (Nat.zero_le _) ?_; intro v1 w1 ho1 hg1 hb1)
  obtain ⟨a1, c1, rfl⟩ := rowShape ho1
  have HF : Hid (RepQ (.slice (some ⟨g, 0, none⟩) pl.length cap) (repP pl i xl) w (.slice a1 (i + xl.length) c1) w1) := by
    refine ⟨?_, hg1, hb1.imp_right fun q => ⟨_, Nat.le_refl _, q⟩⟩
    rw [HRP.out]
    unfold OwnsP
    rw [List.length_append, pcells_append, List.length_take, show min i pl.length = i by have := HIL.out; omega]
    exact ho1
  have b6 : decide ((i : Int) + (xl.length : Int) < (pl.length : Int)) = false := decide_eq_false HLT.out
  clear ho1 hg1 hb1
  go_wp2_with fail
  go_ret
  exact ⟨_, rfl, HF.out⟩
end Go.Proofs.YtolgpnaoaodepaaGreat
/- slices.Replace of a part by some, within its room. -/
namespace Go.Proofs.YtolgpnaoaodepaaGreat
open Go.RowKit

set_option maxHeartbeats 1500000 in
set_option maxRecDepth 20000 in
theorem replaceIn_any (g cap gv cv : Nat) (pl xl : List (ByteArray × Nat)) (i : Nat) (w : World) (hi : i + 1 < pl.length) (hroom : pl.length - 1 + xl.length ≤ cap) (h : OwnsP 0 w (.slice (some ⟨g, 0, none⟩) pl.length cap) pl) (hx : OwnsP 0 w (.slice (some ⟨gv, 0, none⟩) xl.length cv) xl) (hx1 : 2 ≤ xl.length) (hl : pl.length ≤ 1000000) (hl2 : xl.length ≤ 1000000) (hne : g ≠ gv) :
    Calls Tryz.prog 175 #[.slice (some ⟨g, 0, none⟩) pl.length cap, .int .i64 (i : Nat), .int .i64 ((i : Nat) + 1), .slice (some ⟨gv, 0, none⟩) xl.length cv] w fun r w' => ∃ v', r = .returned v' ∧ RepQ (.slice (some ⟨g, 0, none⟩) pl.length cap) (repP pl i xl) w v' w' := by
  rcases h.2 with ⟨_, hn⟩ | ⟨g', cap', cur, e, hb, hg, hc, hm, hcs, htk⟩
  · omega
  simp only [Value.slice.injEq, Option.some.injEq, Addr.mk.injEq, and_true, true_and] at e
  obtain ⟨rfl, rfl⟩ := e
  have hcap : cap ≤ 9223372036854775807 := by unfold maxLen at hm; omega
  obtain ⟨T, hT⟩ : ∃ T, T = pl.length - 1 + xl.length := ⟨_, rfl⟩
  have hT1 : (i : Int) + (xl.length : Int) + ((pl.length - (i + 1) : Nat) : Int) = (T : Int) := by omega
  have b0 : i ≤ 1000000 := by omega
  have b1 : i ≤ cap := by omega
  have b2 : (i : Int) + 1 ≤ (cap : Int) := by omega
  have b3 : i + 1 ≤ cap := by omega
  have b4 : ((i : Int) == (i : Int) + 1) = false := by simp; omega
  have b5 : ((i : Int) + 1 == (pl.length : Int)) = false := by simp; omega
  have b6 : (i : Int) + 1 ≤ (pl.length : Int) := by omega
  have b7 : i + 1 ≤ pl.length := by omega
  have b8 : ¬ cap = i + 1 := by omega
  have b9 : (0 : Int) ≤ (i : Int) + 1 := by omega
  have bT : T ≤ cap := by omega
  have bT2 : decide ((cap : Int) < (T : Int)) = false := by simp; omega
  have b10 : decide ((i : Int) + (xl.length : Int) ≤ (i : Int) + 1) = false := by simp; omega
  have b11 : i + xl.length ≤ T := by omega
  have w1 : IntKind.i64.wrap ((i : Int) + (xl.length : Int)) = (i : Int) + (xl.length : Int) := by rw [IntKind.wrap_i64]; omega
  have w4 : ((i : Int) + (xl.length : Int)).toNat = i + xl.length := by omega
  have w5 : (0 : Int) ≤ (i : Int) + (xl.length : Int) := by omega
  have w6 : (i : Int) + (xl.length : Int) ≤ (T : Int) := by omega
  have w7 : ¬ cap = i + xl.length := by omega
  have w2 : IntKind.i64.wrap (T : Int) = (T : Int) := by rw [IntKind.wrap_i64]; omega
  have hclen : cur.toList.length = cap * 2 := by simpa using hcs
  have hD : (pcells (pl.drop (i + 1))).length = (pl.length - (i + 1)) * 2 := by rw [pcells_len, List.length_drop]
  have hXl : (pcells xl).length = xl.length * 2 := pcells_len xl
  have hA : cur.toList.take (i * 2) = pcells (pl.take i) := by
    rw [pcells_take _ _ (by omega), ← htk, List.take_take]; congr 1; omega
  obtain ⟨gv', cv', ev, -, -, hgvl, -, -⟩ := hx.at 0 (by omega)
  simp only [Value.slice.injEq, Option.some.injEq, Addr.mk.injEq, and_true, true_and] at ev
  obtain ⟨rfl, rfl⟩ := ev
  obtain ⟨curv, hgv, hcvs⟩ : ∃ curv : Array Value, w.heap[gv]? = some (.cells curv 132 (0, 0)) ∧ 0 < curv.size := by
    rcases hx.2 with ⟨_, q⟩ | ⟨g', cap', curv, e, _, hg', q1, _, q3, _⟩
    · omega
    · simp only [Value.slice.injEq, Option.some.injEq, Addr.mk.injEq, and_true, true_and] at e
      obtain ⟨rfl, rfl⟩ := e
      exact ⟨curv, hg', by omega⟩
  have e1 := run_copy_min (P := Tryz.prog) w.drew.drew 121 121 3 132 2 g ((i + xl.length) * 2) (T - (i + xl.length)) (cap - (i + xl.length)) g ((i + 1) * 2) (pl.length - (i + 1)) (cap - (i + 1)) (pl.length - (i + 1)) cur 132 (pcells (pl.drop (i + 1))) Tryz.underlying121 (by kernel_rfl) hg (by rw [show T - (i + xl.length) = pl.length - (i + 1) by omega]; exact Nat.min_self _) hD (fun j u hj => parts_src h (i + 1) (by omega) j u hj) (by rw [hD, hcs]; omega) (one_pcells _)
  rw [hD, show (i + xl.length) * 2 + (pl.length - (i + 1)) * 2 = T * 2 by omega] at e1
  have hR1 : (cur.toList.take ((i + xl.length) * 2) ++ pcells (pl.drop (i + 1)) ++ cur.toList.drop (T * 2)).length = cap * 2 := by
    simp only [List.length_append, List.length_take, List.length_drop, hD, hclen]; omega
  have hT2 : (cur.toList.take ((i + xl.length) * 2) ++ pcells (pl.drop (i + 1)) ++ cur.toList.drop (T * 2)).take (i * 2) = pcells (pl.take i) := by
    rw [List.append_assoc, List.take_append_of_le_length (by rw [List.length_take, hclen]; omega), List.take_take, ← hA]; congr 1; omega
  have hD1 : (cur.toList.take ((i + xl.length) * 2) ++ pcells (pl.drop (i + 1)) ++ cur.toList.drop (T * 2)).drop (i * 2 + xl.length * 2) = pcells (pl.drop (i + 1)) ++ cur.toList.drop (T * 2) := by
    rw [List.append_assoc, show i * 2 + xl.length * 2 = (cur.toList.take ((i + xl.length) * 2)).length by rw [List.length_take, hclen]; omega, List.drop_left]
  generalize hc1 : cur.toList.take ((i + xl.length) * 2) ++ pcells (pl.drop (i + 1)) ++ cur.toList.drop (T * 2) = cur1 at *
  have hg1 := setRow_at (w := w.drew.drew) hg cur1
  have hgr1 := setRow_grown w.drew.drew g cur1.toArray
  have hx1c : ∀ j u, (pcells xl)[j]? = some u → (w.drew.drew.setRow g cur1.toArray).cell? ⟨gv, 0 + j, none⟩ = some u := fun j u hj => by
    rw [Nat.zero_add]
    exact (World.cell?_of_block (hgr1.block gv hgvl (fun e => hne (Option.some.inj e).symm))).trans (parts_all hx j u hj)
  have e2 := run_copy_min (P := Tryz.prog) (w.drew.drew.setRow g cur1.toArray) 121 121 3 132 2 g (i * 2) (T - i) (cap - i) gv 0 xl.length cv xl.length cur1.toArray 132 (pcells xl) Tryz.underlying121 (by kernel_rfl) hg1 (Nat.min_eq_left (by omega)) hXl hx1c (by rw [hXl]; simp; omega) (one_pcells _)
  rw [hXl] at e2
  simp only [hT2, hD1] at e2
  have HQ : Hid (RepQ (.slice (some ⟨g, 0, none⟩) pl.length cap) (repP pl i xl) w (.slice (some ⟨g, 0, none⟩) T cap) ((w.drew.drew.setRow g cur1.toArray).setRow g (pcells (pl.take i) ++ pcells xl ++ (pcells (pl.drop (i + 1)) ++ cur.toList.drop (T * 2))).toArray)) := by
    have hA2 : (pcells (pl.take i)).length = i * 2 := by rw [pcells_len, List.length_take]; omega
    refine ⟨?_, ?_, .inl rfl⟩
    · unfold OwnsP
      rw [repP_len _ _ _ (by omega), ← hT]
      refine row_of (setRow_at hg1 _) (by omega) hm ?_ ?_ (by rw [pcells_len, repP_len _ _ _ (by omega), ← hT])
      · simp only [List.length_append, List.length_drop, hA2, hXl, hD, hclen]; omega
      · rw [repP_cells, ← List.append_assoc, List.take_append_of_le_length (by simp only [List.length_append, hA2, hXl, hD]; omega), List.take_of_length_le (by simp only [List.length_append, hA2, hXl, hD]; omega)]
    · have h2 := setRow_grown (w.drew.drew.setRow g cur1.toArray) g (pcells (pl.take i) ++ pcells xl ++ (pcells (pl.drop (i + 1)) ++ cur.toList.drop (T * 2))).toArray
      exact grownT (⟨hgr1.os, hgr1.tape, hgr1.output, hgr1.size, hgr1.block⟩ : w.grownBy _ (some g)) h2
  have hgd : w.drew.heap[g]? = some (.cells cur 132 (0, 0)) := hg
  have hgvd : w.drew.heap[gv]? = some (.cells curv 132 (0, 0)) := hgv
  have eo : (callFunc 227 #[.slice (some ⟨g, (i + xl.length) * 2, none⟩) (T - (i + xl.length)) (cap - (i + xl.length)), .slice (some ⟨gv, 0, none⟩) xl.length cv]).run Tryz.prog w.drew = .ok (.value (.bool false)) w.drew := by
    rw [run_callFunc_extern Tryz.func227 (by kernel_rfl) (by kernel_rfl) (by kernel_rfl) (e := Extern.SlicesOverlaps.overlaps #[121, 121] #[4]) (by kernel_rfl), Lib.run_overlaps_apart w.drew 121 4 132 Tryz.underlying121 2 (by
      intro w
      obtain ⟨inf, hinf, hz0, hz1, hz2⟩ := info_parts info_part
      simp [Go.sizeOf, typeInfo, hinf, hz1]) ⟨g, (i + xl.length) * 2, none⟩ ⟨gv, 0, none⟩ _ _ _ _ hne 132 132 (cap * 2) curv.size (by simp [World.shape?, hgd, hcs]) (by simp [World.shape?, hgvd]) (by omega) (by simp [World.frozen?, hgd]) (by simp [World.frozen?, hgd])]
    rfl
  have HEO := hid eo
  have HE1 := hid e1
  have HE2 := hid e2
  have HT := hid hT
  clear eo hgd hgvd e1 e2 hg1 hgr1 hx1c hT2 hD1 hR1 hc1 hA hD hXl hclen hgv hcvs hT h hx hg hcs htk hm hb
  go_enter Tryz.func175, Tryz.ntmps175
  go_upto_region 9 with fail
  go_region_law (fail)
  all_goals
    go_wp2_with fail
    rw [HEO.out]
    rw [Oper.upon_value]
    go_upto_region 22 with fail
    go_region_law (refine stepCp _ rfl (.tmp 126) (.tmp 129) 121 121 rfl _ _ (by simp [Act.eval, Act.put]) (by simp [Act.eval, Act.put]) _ _ HE1.out ?_)
    all_goals
      have b12 : ¬ cap = i := by omega
      have b13 : i ≤ T := by omega
      go_wp2_with (refine wpCp _ rfl (.tmp 133) (.tmp 134) 121 121 rfl _ _ rfl rfl _ _ HE2.out ?_)
      go_ret
      have hF := HQ.out
      simp only [List.append_assoc] at hF
      exact ⟨_, rfl, hF⟩
end Go.Proofs.YtolgpnaoaodepaaGreat
/- slices.Replace of a part by one. -/
namespace Go.Proofs.YtolgpnaoaodepaaGreat
open Go.RowKit

theorem run_clear_none {P : Program} (w : World) (t ty e : TypeId) (a : Option Addr) (c : Nat) (hu : P.underlying t = some (.slice e)) : (Builtin.clear_ #[t] ty #[.slice a 0 c]).run P w = .ok (.tuple #[]) w := by
  cases a <;> simp [Builtin.clear_, run_underlying hu]
set_option maxHeartbeats 1200000 in
set_option maxRecDepth 20000 in
theorem replaceOne_any (g cap gv cv : Nat) (pl : List (ByteArray × Nat)) (x : ByteArray × Nat) (i : Nat) (w : World) (hi : i + 1 < pl.length) (h : OwnsP 0 w (.slice (some ⟨g, 0, none⟩) pl.length cap) pl) (hx : OwnsP 0 w (.slice (some ⟨gv, 0, none⟩) 1 cv) [x]) (hl : pl.length ≤ 1000000) :
    Calls Tryz.prog 175 #[.slice (some ⟨g, 0, none⟩) pl.length cap, .int .i64 (i : Nat), .int .i64 ((i : Nat) + 1), .slice (some ⟨gv, 0, none⟩) 1 cv] w fun r w' => ∃ v', r = .returned v' ∧ RepQ (.slice (some ⟨g, 0, none⟩) pl.length cap) (repP pl i [x]) w v' w' := by
  rcases h.2 with ⟨_, hn⟩ | ⟨g', cap', cur, e, hb, hg, hc, hm, hcs, htk⟩
  · omega
  simp only [Value.slice.injEq, Option.some.injEq, Addr.mk.injEq, and_true, true_and] at e
  obtain ⟨rfl, rfl⟩ := e
  have hcap : cap ≤ 9223372036854775807 := by unfold maxLen at hm; omega
  have hT1 : (i : Int) + 1 + ((pl.length - (i + 1) : Nat) : Int) = (pl.length : Int) := by omega
  have b0 : i ≤ 1000000 := by omega
  have b1 : i ≤ cap := by omega
  have b2 : (i : Int) + 1 ≤ (cap : Int) := by omega
  have b3 : i + 1 ≤ cap := by omega
  have b4 : ((i : Int) == (i : Int) + 1) = false := by simp; omega
  have b5 : ((i : Int) + 1 == (pl.length : Int)) = false := by simp; omega
  have b6 : (i : Int) + 1 ≤ (pl.length : Int) := by omega
  have b7 : i + 1 ≤ pl.length := by omega
  have b8 : ¬ cap = i + 1 := by omega
  have b8' : ¬ cap = i := by omega
  have b9 : (0 : Int) ≤ (i : Int) + 1 := by omega
  have b12 : i ≤ pl.length := by omega
  have bT2 : decide ((cap : Int) < (pl.length : Int)) = false := by simp; omega
  have w1 : IntKind.i64.wrap ((i : Int) + 1) = (i : Int) + 1 := by rw [IntKind.wrap_i64]; omega
  have w2 : IntKind.i64.wrap (pl.length : Int) = (pl.length : Int) := by rw [IntKind.wrap_i64]; omega
  have w4 : ((i : Int) + 1).toNat = i + 1 := by omega
  have hclen : cur.toList.length = cap * 2 := by simpa using hcs
  have hD : (pcells (pl.drop (i + 1))).length = (pl.length - (i + 1)) * 2 := by rw [pcells_len, List.length_drop]
  have hA : cur.toList.take (i * 2) = pcells (pl.take i) := by
    rw [pcells_take _ _ (by omega), ← htk, List.take_take]; congr 1; omega
  have hgvl := (World.ownsRow.lt hx gv rfl).2
  have e1 := run_copy_min (P := Tryz.prog) w.drew 121 121 3 132 2 g (i * 2) (pl.length - i) (cap - i) gv 0 1 cv 1 cur 132 (pcells [x]) Tryz.underlying121 (by kernel_rfl) hg (Nat.min_eq_left (by omega)) (pcells_len [x]) (fun j u hj => by rw [Nat.zero_add]; exact parts_all hx j u hj) (by rw [pcells_len, hcs]; simp; omega) (one_pcells _)
  rw [pcells_len, hA] at e1
  simp only [List.length_cons, List.length_nil] at e1
  rw [show i * 2 + (0 + 1) * 2 = (i + 1) * 2 by omega] at e1
  have hA2 : (pcells (pl.take i)).length = i * 2 := by rw [pcells_len, List.length_take]; omega
  have hR1 : (pcells (pl.take i) ++ pcells [x] ++ cur.toList.drop ((i + 1) * 2)).length = cap * 2 := by
    simp only [List.length_append, List.length_drop, hA2, pcells_len, hclen, List.length_cons, List.length_nil]; omega
  have hT2 : (pcells (pl.take i) ++ pcells [x] ++ cur.toList.drop ((i + 1) * 2)).take ((i + 1) * 2) = pcells (pl.take i) ++ pcells [x] := by
    rw [show (i + 1) * 2 = (pcells (pl.take i) ++ pcells [x]).length by simp only [List.length_append, hA2, pcells_len, List.length_cons, List.length_nil]; omega, List.take_left]
  have hD1 : (pcells (pl.take i) ++ pcells [x] ++ cur.toList.drop ((i + 1) * 2)).drop ((i + 1) * 2) = cur.toList.drop ((i + 1) * 2) := by
    conv => lhs; rw [show (i + 1) * 2 = (pcells (pl.take i) ++ pcells [x]).length by simp only [List.length_append, hA2, pcells_len, List.length_cons, List.length_nil]; omega]
    rw [show (pcells (pl.take i) ++ pcells [x]).length = (i + 1) * 2 by simp only [List.length_append, hA2, pcells_len, List.length_cons, List.length_nil]; omega]
    rw [List.drop_append, List.drop_of_length_le (by simp only [List.length_append, hA2, pcells_len, List.length_cons, List.length_nil]; omega), show (i + 1) * 2 - (pcells (pl.take i) ++ pcells [x]).length = 0 by simp only [List.length_append, hA2, pcells_len, List.length_cons, List.length_nil]; omega]
    rfl
  generalize hc1 : pcells (pl.take i) ++ pcells [x] ++ cur.toList.drop ((i + 1) * 2) = cur1 at *
  have hg1 := setRow_at (w := w.drew) hg cur1
  have hgr1 := setRow_grown w.drew g cur1.toArray
  have hcell1 : ∀ j u, (pcells (pl.drop (i + 1)))[j]? = some u → (w.drew.setRow g cur1.toArray).drew.cell? ⟨g, (i + 1) * 2 + j, none⟩ = some u := fun j u hj => by
    have hj1 : j < (pl.length - (i + 1)) * 2 := by rw [← hD]; exact (List.getElem?_eq_some_iff.1 hj).1
    have hj2 : cur1[(i + 1) * 2 + j]? = some u := by
      rw [← List.getElem?_drop, hD1, List.getElem?_drop]
      rw [pcells_drop _ _ (by omega), List.getElem?_drop, ← htk, List.getElem?_take] at hj
      split at hj
      · exact hj
      · cases hj
    unfold World.cell?
    rw [show (w.drew.setRow g cur1.toArray).drew.heap[g]? = some (.cells cur1.toArray 132 (0, 0)) from hg1]
    simpa using hj2
  have e2 := run_copy_min (P := Tryz.prog) (w.drew.setRow g cur1.toArray).drew 121 121 3 132 2 g ((i + 1) * 2) (pl.length - (i + 1)) (cap - (i + 1)) g ((i + 1) * 2) (pl.length - (i + 1)) (cap - (i + 1)) (pl.length - (i + 1)) cur1.toArray 132 (pcells (pl.drop (i + 1))) Tryz.underlying121 (by kernel_rfl) hg1 (Nat.min_self _) hD hcell1 (by rw [hD]; simp; omega) (one_pcells _)
  rw [hD, show (i + 1) * 2 + (pl.length - (i + 1)) * 2 = pl.length * 2 by omega] at e2
  simp only [hT2] at e2
  have HQ : Hid (RepQ (.slice (some ⟨g, 0, none⟩) pl.length cap) (repP pl i [x]) w (.slice (some ⟨g, 0, none⟩) pl.length cap) ((w.drew.setRow g cur1.toArray).drew.setRow g (pcells (pl.take i) ++ pcells [x] ++ pcells (pl.drop (i + 1)) ++ cur1.drop (pl.length * 2)).toArray)) := by
    refine ⟨?_, ?_, .inl rfl⟩
    · unfold OwnsP
      rw [repP_len _ _ _ (by omega), show pl.length - 1 + [x].length = pl.length by simp; omega]
      refine row_of (setRow_at (w := (w.drew.setRow g cur1.toArray).drew) hg1 _) (by omega) hm ?_ ?_ (by rw [pcells_len, repP_len _ _ _ (by omega)]; simp; omega)
      · simp only [List.length_append, List.length_drop, hA2, pcells_len, hR1, List.length_cons, List.length_nil]; omega
      · rw [repP_cells, List.take_append_of_le_length (by simp only [List.length_append, hA2, pcells_len, List.length_drop, List.length_cons, List.length_nil]; omega), List.take_of_length_le (by simp only [List.length_append, hA2, pcells_len, List.length_drop, List.length_cons, List.length_nil]; omega)]
    · have h2 := setRow_grown (w.drew.setRow g cur1.toArray).drew g (pcells (pl.take i) ++ pcells [x] ++ pcells (pl.drop (i + 1)) ++ cur1.drop (pl.length * 2)).toArray
      exact grownT (⟨hgr1.os, hgr1.tape, hgr1.output, hgr1.size, hgr1.block⟩ : w.grownBy (w.drew.setRow g cur1.toArray).drew (some g)) h2
  have HE1 := hid e1
  have HE2 := hid e2
  clear e1 e2 hg1 hgr1 hcell1 hT2 hD1 hR1 hc1 hA hA2 hD hclen hgvl h hx hg hcs htk hm hb
  go_enter Tryz.func175, Tryz.ntmps175
  go_upto_region 9 with fail
  go_region_law (fail)
  all_goals
    go_upto_region 17 with fail
    go_upto_region 18 with (refine wpCp _ rfl (.tmp 95) (.tmp 96) 121 121 rfl _ _ rfl rfl _ _ HE1.out ?_)
    go_region_law (refine stepCp _ rfl (.tmp 103) (.tmp 106) 121 121 rfl _ _ (by simp [Act.eval, Act.put]) (by simp [Act.eval, Act.put]) _ _ HE2.out ?_)
    all_goals
      have hF := HQ.out
      simp only [List.append_assoc] at hF
      have HF := hid hF
      clear hF HQ HE1 HE2
      by_cases hcn : cap = pl.length
      case' pos => subst hcn
      all_goals
        go_wp2_with (refine wpCl _ rfl (.tmp 110) 121 rfl _ rfl _ _ (run_clear_none _ _ _ 132 _ _ Tryz.underlying121) ?_)
        go_ret
        exact ⟨_, rfl, HF.out⟩
end Go.Proofs.YtolgpnaoaodepaaGreat
/- slices.Replace of a part by some where there is no room. -/
namespace Go.Proofs.YtolgpnaoaodepaaGreat
open Go.RowKit

theorem zeroP_one (n : Nat) : (Builtin.zeroCells (Value.agg #[.string ⟨#[]⟩, .pointer none]).cells n).size = n * 2 := (zeroP_cells n).1

set_option maxHeartbeats 1500000 in
set_option maxRecDepth 20000 in
theorem replaceGrow_any (g cap gv cv : Nat) (pl xl : List (ByteArray × Nat)) (i : Nat) (w : World) (hi : i + 1 < pl.length) (hroom : cap < pl.length - 1 + xl.length) (h : OwnsP 0 w (.slice (some ⟨g, 0, none⟩) pl.length cap) pl) (hx : OwnsP 0 w (.slice (some ⟨gv, 0, none⟩) xl.length cv) xl) (hx1 : 0 < xl.length) (hl : pl.length ≤ 1000000) (hl2 : xl.length ≤ 1000000) :
    Calls Tryz.prog 175 #[.slice (some ⟨g, 0, none⟩) pl.length cap, .int .i64 (i : Nat), .int .i64 ((i : Nat) + 1), .slice (some ⟨gv, 0, none⟩) xl.length cv] w fun r w' => ∃ v', r = .returned v' ∧ RepQ (.slice (some ⟨g, 0, none⟩) pl.length cap) (repP pl i xl) w v' w' := by
  rcases h.2 with ⟨_, hn⟩ | ⟨g', cap', cur, e, hb, hg, hc, hm, hcs, htk⟩
  · omega
  simp only [Value.slice.injEq, Option.some.injEq, Addr.mk.injEq, and_true, true_and] at e
  obtain ⟨rfl, rfl⟩ := e
  have hcap : cap ≤ 9223372036854775807 := by unfold maxLen at hm; omega
  have hglt := (Array.getElem?_eq_some_iff.1 hg).1
  have hgvl := (World.ownsRow.lt hx gv rfl).2
  obtain ⟨T, hT⟩ : ∃ T, T = pl.length - 1 + xl.length := ⟨_, rfl⟩
  obtain ⟨inf, hinf, hz0, hz1, hz2⟩ := info_parts info_part
  have hD : (pcells (pl.drop (i + 1))).length = (pl.length - (i + 1)) * 2 := by rw [pcells_len, List.length_drop]
  have hXl : (pcells xl).length = xl.length * 2 := pcells_len xl
  have hA2 : (pcells (pl.take i)).length = i * 2 := by rw [pcells_len, List.length_take]; omega
  have hold : (Builtin.firstCells inf.size i (.slice (some ⟨g, 0, none⟩) i cap)).run Tryz.prog w.drew.drew = .ok (pcells (pl.take i)).toArray w.drew.drew := by
    have := run_loadCells_list (P := Tryz.prog) w.drew.drew ⟨g, 0, none⟩ (pcells (pl.take i)) (fun j u hj => by
      rw [pcells_take _ _ (by omega)] at hj
      have hj' : (pcells pl)[j]? = some u := by
        rw [List.getElem?_take] at hj
        split at hj
        · exact hj
        · cases hj
      exact World.ownsRow.cells h (g := g) rfl _ _ hj')
    rw [hA2] at this
    simpa [Builtin.firstCells, hz1] using this
  have hnc : Builtin.nextslicecap (i + (T - i)) cap * inf.bytes ≤ 281474976710656 := growslice_fits (by omega) (by rw [hz2]; omega)
  have e0 := Lib.run_append_grow_zeros (P := Tryz.prog) w.drew 121 3 121 132 inf (.agg #[.string ⟨#[]⟩, .pointer none]) .i64 .i64 Tryz.underlying121 Tryz.underlying3 hinf hz0 (some ⟨g, 0, none⟩) i cap (pcells (pl.take i)) hold (T - i) (by omega) (by rw [hz1]; omega) (by omega) (by omega) (by rw [hz2]; omega) hnc
  rw [show i + (T - i) = T by omega] at e0
  have hge := grownCap_ge w.drew T cap 132
  have hgm : grownCap w.drew T cap 132 ≤ maxLen := grownCap_le_maxLen w.drew T cap 132 (by unfold maxLen; omega)
  generalize grownCap w.drew T cap 132 = c' at *
  have hZ1 := zeroP_one (T - i)
  have hZ2 := zeroP_one (c' - T)
  have hl0 : ((pcells (pl.take i)).toArray ++ Builtin.zeroCells (Value.agg #[.string ⟨#[]⟩, .pointer none]).cells (T - i) ++ Builtin.zeroCells (Value.agg #[.string ⟨#[]⟩, .pointer none]).cells (c' - T)).toList.length = c' * 2 := by
    simp only [Array.length_toList, Array.size_append, List.size_toArray, hA2, hZ1, hZ2]; omega
  have ht0 : ((pcells (pl.take i)).toArray ++ Builtin.zeroCells (Value.agg #[.string ⟨#[]⟩, .pointer none]).cells (T - i) ++ Builtin.zeroCells (Value.agg #[.string ⟨#[]⟩, .pointer none]).cells (c' - T)).toList.take (i * 2) = pcells (pl.take i) := by
    rw [Array.append_assoc, Array.toList_append, ← hA2, List.take_left]
  generalize (pcells (pl.take i)).toArray ++ Builtin.zeroCells (Value.agg #[.string ⟨#[]⟩, .pointer none]).cells (T - i) ++ Builtin.zeroCells (Value.agg #[.string ⟨#[]⟩, .pointer none]).cells (c' - T) = cur0 at *
  have hB1 : Below w.heap.size w (w.drew.drew.alloc (.cells cur0 132)) := (Below.refl w.heap.size w).drew.drew.alloc (Nat.le_refl _) _
  have hG1 : (w.drew.drew.alloc (.cells cur0 132)).heap[w.heap.size]? = some (.cells cur0 132 (0, 0)) := heap_alloc_new w.drew.drew _
  generalize w.drew.drew.alloc (.cells cur0 132) = W1 at *
  have e1 := run_copy_min (P := Tryz.prog) W1 121 121 3 132 2 w.heap.size (i * 2) (T - i) (c' - i) gv 0 xl.length cv xl.length cur0 132 (pcells xl) Tryz.underlying121 (by kernel_rfl) hG1 (Nat.min_eq_left (by omega)) hXl (fun j u hj => by rw [Nat.zero_add]; exact (hB1.cell (p := ⟨gv, j, none⟩) hgvl).trans (parts_all hx j u hj)) (by rw [hXl]; rw [Array.length_toList] at hl0; omega) (one_pcells _)
  rw [hXl, ht0] at e1
  have hl1 : (pcells (pl.take i) ++ pcells xl ++ cur0.toList.drop (i * 2 + xl.length * 2)).length = c' * 2 := by
    simp only [List.length_append, hA2, hXl, List.length_drop, hl0]; omega
  have ht1 : (pcells (pl.take i) ++ pcells xl ++ cur0.toList.drop (i * 2 + xl.length * 2)).take ((i + xl.length) * 2) = pcells (pl.take i) ++ pcells xl := by
    rw [show (i + xl.length) * 2 = (pcells (pl.take i) ++ pcells xl).length by simp only [List.length_append, hA2, hXl]; omega, List.take_left]
  generalize pcells (pl.take i) ++ pcells xl ++ cur0.toList.drop (i * 2 + xl.length * 2) = cur1 at *
  have hG2 := setRow_at hG1 cur1
  have hgr2 := setRow_grown W1 w.heap.size cur1.toArray
  have hcells : ∀ (j : Nat) (u : Value), (pcells (pl.drop (i + 1)))[j]? = some u → (W1.setRow w.heap.size cur1.toArray).drew.cell? ⟨g, (i + 1) * 2 + j, none⟩ = some u := fun j u hj => by
    have q := parts_src h (i + 1) (by omega) j u hj
    rw [← q]
    exact World.cell?_of_block ((hgr2.block g (Nat.lt_of_lt_of_le hglt hB1.size) (fun e => by have := Option.some.inj e; omega)).trans (hB1.block g hglt))
  have e2 := run_copy_min (P := Tryz.prog) (W1.setRow w.heap.size cur1.toArray).drew 121 121 3 132 2 w.heap.size ((i + xl.length) * 2) (T - (i + xl.length)) (c' - (i + xl.length)) g ((i + 1) * 2) (pl.length - (i + 1)) (cap - (i + 1)) (pl.length - (i + 1)) cur1.toArray 132 (pcells (pl.drop (i + 1))) Tryz.underlying121 (by kernel_rfl) hG2 (by rw [show T - (i + xl.length) = pl.length - (i + 1) by omega]; exact Nat.min_self _) hD hcells (by rw [hD]; simp; omega) (one_pcells _)
  rw [hD, show (i + xl.length) * 2 + (pl.length - (i + 1)) * 2 = T * 2 by omega] at e2
  simp only [ht1] at e2
  have HQ : Hid (RepQ (.slice (some ⟨g, 0, none⟩) pl.length cap) (repP pl i xl) w (.slice (some ⟨w.heap.size, 0, none⟩) T c') ((W1.setRow w.heap.size cur1.toArray).drew.setRow w.heap.size (pcells (pl.take i) ++ pcells xl ++ pcells (pl.drop (i + 1)) ++ cur1.drop (T * 2)).toArray)) := by
    refine ⟨?_, ?_, .inr ⟨w.heap.size, Nat.le_refl _, rfl⟩⟩
    · unfold OwnsP
      rw [repP_len _ _ _ (by omega), ← hT]
      refine row_of (setRow_at (w := (W1.setRow w.heap.size cur1.toArray).drew) hG2 _) hge hgm ?_ ?_ (by rw [pcells_len, repP_len _ _ _ (by omega), ← hT])
      · simp only [List.length_append, List.length_drop, hA2, hXl, hD, hl1]; omega
      · rw [repP_cells, List.take_append_of_le_length (by simp only [List.length_append, hA2, hXl, hD]; omega), List.take_of_length_le (by simp only [List.length_append, hA2, hXl, hD]; omega)]
    · have h2 := setRow_grown (W1.setRow w.heap.size cur1.toArray).drew w.heap.size (pcells (pl.take i) ++ pcells xl ++ pcells (pl.drop (i + 1)) ++ cur1.drop (T * 2)).toArray
      have h0 : w.grownBy W1 (some g) := ⟨hB1.os, hB1.tape, hB1.output, hB1.size, fun k hk _ => hB1.block k hk⟩
      have h1 : w.grownBy (W1.setRow w.heap.size cur1.toArray).drew (some g) := grownN h0 ⟨hgr2.os, hgr2.tape, hgr2.output, hgr2.size, hgr2.block⟩ (Nat.le_refl _)
      exact grownN h1 h2 (Nat.le_refl _)
  have hT1 : (i : Int) + (xl.length : Int) + ((pl.length - (i + 1) : Nat) : Int) = (T : Int) := by omega
  have b0 : i ≤ 1000000 := by omega
  have b1 : i ≤ cap := by omega
  have b2 : (i : Int) + 1 ≤ (cap : Int) := by omega
  have b3 : i + 1 ≤ cap := by omega
  have b4 : ((i : Int) == (i : Int) + 1) = false := by simp; omega
  have b5 : ((i : Int) + 1 == (pl.length : Int)) = false := by simp; omega
  have b6 : (i : Int) + 1 ≤ (pl.length : Int) := by omega
  have b7 : i + 1 ≤ pl.length := by omega
  have b8 : ¬ cap = i + 1 := by omega
  have b9 : (0 : Int) ≤ (i : Int) + 1 := by omega
  have bT2 : decide ((cap : Int) < (T : Int)) = true := by simp; omega
  have bT3 : T ≤ 3000000 := by omega
  have b11 : i + xl.length ≤ T := by omega
  have b12 : i ≤ T := by omega
  have c1 : ¬ c' = i := by omega
  have c2 : ¬ c' = i + xl.length := by omega
  have w1 : IntKind.i64.wrap ((i : Int) + (xl.length : Int)) = (i : Int) + (xl.length : Int) := by rw [IntKind.wrap_i64]; omega
  have w2 : IntKind.i64.wrap (T : Int) = (T : Int) := by rw [IntKind.wrap_i64]; omega
  have w3 : (T : Int) - (i : Int) = ((T - i : Nat) : Int) := by omega
  have w4 : ((i : Int) + (xl.length : Int)).toNat = i + xl.length := by omega
  have w5 : (0 : Int) ≤ (i : Int) + (xl.length : Int) := by omega
  have w6 : (i : Int) + (xl.length : Int) ≤ (T : Int) := by omega
  have HE0 := hid e0
  have HE1 := hid e1
  have HE2 := hid e2
  have HT := hid hT
  clear e0 e1 e2 hG1 hG2 hgr2 hcells hl0 hl1 ht0 ht1 hZ1 hZ2 hold hnc hB1 hD hXl hA2 hT htk hcs hg hm hb h hx hgm hinf hz0 hz1 hz2
  go_enter Tryz.func175, Tryz.ntmps175
  go_upto_region 9 with fail
  go_region_law (fail)
  all_goals
    go_upto_region 11 with fail
    go_upto_region 12 with (at_builtin; refine Lib.wpList_append_run w.drew rfl (.tmp 63) (.tmp 66) 121 3 rfl (.slice (some ⟨g, 0, none⟩) i cap) (.int .i64 ((T - i : Nat) : Int)) rfl rfl _ _ HE0.out ?_)
    go_upto_region 13 with (refine wpCp W1 rfl (.tmp 70) (.tmp 71) 121 121 rfl _ _ rfl rfl _ _ HE1.out ?_)
    go_region_law (refine stepCp _ rfl (.tmp 78) (.tmp 81) 121 121 rfl _ _ (by simp [Act.eval, Act.put]) (by simp [Act.eval, Act.put]) _ _ HE2.out ?_)
    all_goals
      go_wp2_with fail
      go_ret
      have hF := HQ.out
      simp only [List.append_assoc] at hF
      exact ⟨_, rfl, hF⟩
end Go.Proofs.YtolgpnaoaodepaaGreat
