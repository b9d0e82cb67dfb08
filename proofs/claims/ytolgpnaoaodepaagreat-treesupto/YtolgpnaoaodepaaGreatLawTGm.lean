/- The walks of pick and grown. -/
import Derived.Test.YtolgpnaoaodepaaGreatLawTCm
import Derived.Test.YtolgpnaoaodepaaGreatGetAm
import Derived.Test.YtolgpnaoaodepaaGreatLawAm
import Derived.Deep.DeepCutAuto
import Derived.Deep.RegionHeld3
import Derived.Test.YtolgpnaoaodepaaGreatLawSm
namespace Go.Proofs.YtolgpnaoaodepaaGreat
open Go.RowKit

/-- What a step leaves. -/
structure StQ (b k N : Nat) (X : Nat → Prop) (w : World) (r : Ending) (w' : World) : Prop where
  ret : r = .returned (.bool true)
  lw : ∃ vl qs, LW b (k + 4) (N + 1) X vl qs w'
  bel : Below b w w'
  same : ∀ g, X g → w'.heap[g]? = w.heap[g]?
theorem StQ.of_below {b k N : Nat} {X : Nat → Prop} {vl : Value} {qs : List (Nat × List Nat)} {w w' : World} (h : LW b k N X vl qs w) (hb : Below w.heap.size w w') : StQ b k N X w (.returned (.bool true)) w' :=
  ⟨rfl, ⟨vl, qs, (h.below hb).mono (by omega) (by omega)⟩, hb.mono (Nat.le_of_lt h.lt), fun g hg => hb.block g (h.xs g hg).2⟩
/-- A step behind a box. -/
theorem StQ.box {b k N : Nat} {X : Nat → Prop} {vl : Value} {qs : List (Nat × List Nat)} {w w1 w' : World} {r : Ending} (h : LW b k N X vl qs w) (hb : Below w.heap.size w w1) (hq : StQ b k N X w1 r w') : StQ b k N X w r w' :=
  ⟨hq.ret, hq.lw, (hb.mono (Nat.le_of_lt h.lt)).trans hq.bel, fun g hg => (hq.same g hg).trans (hb.block g (h.xs g hg).2)⟩

theorem StQ.of_turn {b k N : Nat} {X : Nat → Prop} {vl : Value} {A C : List (Nat × List Nat)} {q : Nat} {G G' : List Nat} {w w' : World} (h : LW b k N X vl (A ++ (q, G) :: C) w) (hp : PrM (N + 1) q G' w') (hm : Mod (fun g => g ∈ q :: G) w w') (hs : ∀ g ∈ G', g ∈ q :: G ∨ w.heap.size ≤ g) : StQ b k N X w (.returned (.bool true)) w' := by
  have hin : ∀ g ∈ q :: G, g ∈ blk vl ++ prB (A ++ (q, G) :: C) := fun g hg => by
    rw [prB_mid]; exact List.mem_append_right _ (List.mem_append_right _ (List.mem_append_left _ hg))
  have hl := h.lt
  exact ⟨rfl, ⟨vl, _, (h.turn hp (Nat.le_succ N) hm hs).mono (by omega) (Nat.le_refl _)⟩, ⟨hm.os, hm.tape, hm.output, hm.size, fun g hg => hm.block g (by omega) fun z => by have := (h.far g (hin g z)).1; omega⟩, fun g hg => hm.block g (h.xs g hg).2 fun z => (h.far g (hin g z)).2 hg⟩
theorem LW.row_turn {b k N : Nat} {X : Nat → Prop} {vl : Value} {A C : List (Nat × List Nat)} {q : Nat} {G : List Nat} {w w' : World} (h : LW b k N X vl (A ++ (q, G) :: C) w) (hm : Mod (fun g => g ∈ q :: G) w w') : ∀ g ∈ blk vl, w'.heap[g]? = w.heap[g]? := fun g hg =>
  hm.block g (h.trs.lt g (List.mem_append_left _ hg)) fun z => (List.nodup_append.1 h.trs.nd).2.2 g hg g (by rw [prB_mid]; exact List.mem_append_right _ (List.mem_append_left _ z)) rfl
theorem StQ.of_scan {b k N : Nat} {X : Nat → Prop} {vl : Value} {qs : List (Nat × List Nat)} {w w' : World} {r : Ending} (h : ScQ b k N X vl qs w r w') : StQ b k N X w r w' :=
  ⟨h.ret, ⟨vl, qs, h.lw.mono (Nat.le_refl _) (Nat.le_succ N)⟩, h.bel, h.same⟩
/-- A step's box. -/
def OpB (w : World) (bx : Nat) (kk ix : Int) (s t : ByteArray) (c4 c5 c6 c7 c8 : Value) (ck : Int) (key xv : ByteArray) (c12 : Value) : Prop := w.heap[bx]? = some (.cells #[.int .i64 kk, .int .i64 ix, .string s, .string t, c4, c5, c6, c7, c8, .int .i64 ck, .string key, .string xv, c12] 81 (0, 0))
theorem OpB.cells {w : World} {bx : Nat} {kk ix : Int} {s t : ByteArray} {c4 c5 c6 c7 c8 : Value} {ck : Int} {key xv : ByteArray} {c12 : Value} (h : OpB w bx kk ix s t c4 c5 c6 c7 c8 ck key xv c12) : w.cell? ⟨bx, 0, none⟩ = some (.int .i64 kk) ∧ w.cell? ⟨bx, 1, none⟩ = some (.int .i64 ix) ∧ w.cell? ⟨bx, 2, none⟩ = some (.string s) ∧ w.cell? ⟨bx, 3, none⟩ = some (.string t) ∧ w.cell? ⟨bx, 4, none⟩ = some c4 ∧ w.cell? ⟨bx, 5, none⟩ = some c5 ∧ w.cell? ⟨bx, 6, none⟩ = some c6 ∧ w.cell? ⟨bx, 7, none⟩ = some c7 ∧ w.cell? ⟨bx, 8, none⟩ = some c8 ∧ w.cell? ⟨bx, 9, none⟩ = some (.int .i64 ck) ∧ w.cell? ⟨bx, 10, none⟩ = some (.string key) ∧ w.cell? ⟨bx, 11, none⟩ = some (.string xv) ∧ w.cell? ⟨bx, 12, none⟩ = some c12 := by
  unfold OpB at h
  refine ⟨?_, ?_, ?_, ?_, ?_, ?_, ?_, ?_, ?_, ?_, ?_, ?_, ?_⟩ <;> simp [World.cell?, h]
theorem SmQ.drew {V : Tr.Key → Option Tr.Key} {N x b : Nat} {F : List Nat} {k : Int} {key v : ByteArray} {w w' : World} {r : Ending} (h : SmQ V N x b F k key v w.drew r w') : SmQ V N x b F k key v w r w' := by
  obtain ⟨h1, h2, F', h3, h4⟩ := h
  exact ⟨h1, h2, F', h3, ⟨⟨h4.1.os, h4.1.tape, h4.1.output, h4.1.size, h4.1.block⟩, h4.2⟩⟩
theorem RmQ.drew {w : World} {b : Nat} {v : Value} {il : List (ByteArray × ByteArray)} {k : Int} {key x : ByteArray} {r : Ending} {w' : World} (h : RmQ w.drew b v il k key x r w') : RmQ w b v il k key x r w' := by
  obtain ⟨h1, h2, h3, h4⟩ := h
  exact ⟨h1, ⟨h2.os, h2.tape, h2.output, h2.size, h2.block⟩, h3, h4⟩

set_option maxHeartbeats 1000000 in
set_option maxRecDepth 20000 in
theorem grownMake_any {b k N : Nat} {X : Nat → Prop} {vl : Value} {qs : List (Nat × List Nat)} {w : World} (h : LW b k N X vl qs w) (hN : N + 1 ≤ 90000) (p : Nat × List Nat) (hp : p ∈ qs) (ix : Int) (s t : ByteArray) (c4 c5 c6 c7 c8 : Value) (ck : Int) (key xv : ByteArray) (c12 : Value) :
    Calls Tryz.prog 54 #[.pointer (some ⟨b, 0, none⟩), .pointer (some ⟨p.1, 0, none⟩), .agg #[.int .i64 8, .int .i64 ix, .string s, .string t, c4, c5, c6, c7, c8, .int .i64 ck, .string key, .string xv, c12]] w (fun r w' => StQ b k N X w r w' ∧ w'.cell? ⟨b, 0, none⟩ = some vl ∧ ∀ g ∈ blk vl, w'.heap[g]? = w.heap[g]?) := by
  have hb1 : Below w.heap.size w (w.alloc (.cells #[.int .i64 8, .int .i64 ix, .string s, .string t, c4, c5, c6, c7, c8, .int .i64 ck, .string key, .string xv, c12] 81)) := (Below.refl _ w).alloc (Nat.le_refl _) _
  have hop : OpB (w.alloc (.cells #[.int .i64 8, .int .i64 ix, .string s, .string t, c4, c5, c6, c7, c8, .int .i64 ck, .string key, .string xv, c12] 81)) w.heap.size 8 ix s t c4 c5 c6 c7 c8 ck key xv c12 := heap_alloc_new _ _
  have HL0 := hid h
  have HB1 := hid hb1
  have h1 := h.below hb1
  obtain ⟨A, C, rfl⟩ := List.append_of_mem hp
  obtain ⟨q, G⟩ := p
  obtain ⟨x, y, b', F, v, il, V, hq, rfl⟩ := h1.trs.prs _ hp
  clear h hb1 hp
  go_enter Tryz.func54, Tryz.ntmps54
  go_upto_region 3 with fail
  generalize w.alloc (.cells #[.int .i64 8, .int .i64 ix, .string s, .string t, c4, c5, c6, c7, c8, .int .i64 ck, .string key, .string xv, c12] 81) = w1 at *
  obtain ⟨o0, -, -, -, -, -, -, -, -, o9, o10, o11, -⟩ := hop.cells
  obtain ⟨p0, p1⟩ := hq.pb.cells
  have hnd := hq.nd
  have hlt := hq.lt
  simp only [List.nodup_cons, List.mem_cons, List.mem_append, not_or] at hnd
  obtain ⟨⟨q1, q2, q3, q4, q5⟩, ⟨x1, x2, x3, x4⟩, ⟨y1, y2, y3⟩, ⟨b1, b2⟩, hFL⟩ := hnd
  have hFL := (List.nodup_append.1 hFL).2.2
  have hxF : x ∉ b' :: F := fun z => (List.mem_cons.1 z).elim x2 x3
  have HSM := hid (sMake_any V N x b' F ck key xv w1.drew hq.st (hq.tr.keep fun _ _ => rfl) hxF hN)
  -- what is not the tree's stays
  have HKP : Hid (∀ wx r, SmQ V N x b' F ck key xv w1 r wx → PB wx q x y ∧ RT wx y v ∧ OwnsI 0 wx v il ∧ OpB wx w.heap.size 8 ix s t c4 c5 c6 c7 c8 ck key xv c12) := fun wx r hs => by
    obtain ⟨-, -, F', -, hg⟩ := hs
    have k1 : ∀ g, g < w1.heap.size → g ≠ b' → g ∉ F → wx.heap[g]? = w1.heap[g]? := fun g g1 g2 g3 => hg.1.block g g1 fun z => (List.mem_cons.1 z).elim g2 g3
    have hwl : ∀ g ∈ b' :: F, g < w.heap.size := fun g hg' => by
      have h0 := HL0.out.trs.lt g (by
        rw [prB_mid]
        refine List.mem_append_right _ (List.mem_append_right _ (List.mem_append_left _ ?_))
        rcases List.mem_cons.1 hg' with e | e <;> simp [e])
      exact h0
    refine ⟨(k1 q (hlt q (by simp)) q3 q4).trans hq.pb, (k1 y (hlt y (by simp)) y1 y2).trans hq.rt, row_same hq.row fun g hg' _ => k1 g (hlt g (by simp [mem_blk.2 hg'])) (fun e => b2 (by rw [← e]; exact mem_blk.2 hg')) (fun z => hFL g z g (mem_blk.2 hg') rfl), (k1 _ (Array.getElem?_eq_some_iff.1 hop).1 (fun e => ?_) (fun z => ?_)).trans hop⟩
    · have := hwl b' (List.mem_cons_self ..); omega
    · have := hwl _ (List.mem_cons_of_mem _ z); omega
  have HQ := hid hq
  have HL1 := hid h1
  clear hq h1 hop hFL hxF hlt q1 q2 q3 q4 q5 x1 x2 x3 x4 y1 y2 y3 b1 b2
  go_cut [7] (fun v7 wx => SmQ V N x b' F ck key xv w1 (.returned v7) wx)
  case first =>
    go_region_law (go_simp; go_at_call 14; refine HSM.out.mono ?_; rintro r w3 hsm; obtain ⟨e, rfl⟩ : ∃ e, r = .returned (.int .i64 e) := ⟨_, hsm.1⟩; have HS := hid (SmQ.drew hsm); clear hsm)
    all_goals
      go_wp2_with fail
      go_meet
      exact HS.out
  case rest =>
    have HSQ := hid hcut
    obtain ⟨e, he⟩ : ∃ e : Int, e = if Pg.isChange ck key.size xv.size then 0 else 1 := ⟨_, rfl⟩
    have hu : u7 = .int .i64 e := by have := hcut.1; rw [← he] at this; simpa using this
    obtain ⟨kpb, krt, krow, kop⟩ := HKP.out wc _ hcut
    have HE := hid he
    have HRM := hid (rMake_any y v il ck key xv wc.drew krt (row_same krow fun _ _ _ => rfl) (by have := HQ.out.len; omega) HQ.out.ris HQ.out.v16)
    subst hu
    clear hcut he o0 o9 o10 o11 p0 p1
    obtain ⟨o0, -, -, -, -, -, -, -, -, o9, o10, o11, -⟩ := kop.cells
    obtain ⟨p0, p1⟩ := kpb.cells
    clear kpb krt krow kop HKP HSM
    go_upto_region 4 with fail
    go_region_law (first
      | (go_simp; go_at_call 96; refine (num_any _ _).mono ?_; rintro r w' ⟨rfl, rfl⟩)
      | (go_simp; go_at_call 112; refine HRM.out.mono ?_; rintro r w4 hrm; obtain rfl : r = .returned (.int .i64 e) := (by rw [HE.out]; exact hrm.1); have HR := hid (RmQ.drew hrm); clear hrm))
    all_goals
      go_wp2_with fail
      go_ret
      obtain ⟨G', g1, g2, g3⟩ := PrQ.made HQ.out HSQ.out HR.out
      exact ⟨StQ.box HL0.out HB1.out (StQ.of_turn HL1.out g1 g2 g3), (HL1.out.turn g1 (Nat.le_succ N) g2 g3).cell.1, fun g hg => (HL1.out.row_turn g2 g hg).trans (HB1.out.block g (HL0.out.trs.lt g (List.mem_append_left _ hg)))⟩

theorem headIs_val (C : List (ByteArray × ByteArray)) (key : ByteArray) : stB (headVal C key) = headIs C key := by
  cases C with
  | nil => rfl
  | cons y D =>
    unfold headVal headIs
    by_cases e : y.1.data.toList = key.data.toList
    · simp [e, stB]
    · simp [e, stB]
set_option maxHeartbeats 1000000 in
set_option maxRecDepth 20000 in
theorem grownGet_any {b k N : Nat} {X : Nat → Prop} {vl : Value} {qs : List (Nat × List Nat)} {w : World} (h : LW b k N X vl qs w) (hN : N ≤ 90000) (p : Nat × List Nat) (hp : p ∈ qs) (ix : Int) (s t : ByteArray) (c4 c5 c6 c7 c8 : Value) (ck : Int) (key xv : ByteArray) (c12 : Value) :
    Calls Tryz.prog 54 #[.pointer (some ⟨b, 0, none⟩), .pointer (some ⟨p.1, 0, none⟩), .agg #[.int .i64 9, .int .i64 ix, .string s, .string t, c4, c5, c6, c7, c8, .int .i64 ck, .string key, .string xv, c12]] w (fun r w' => StQ b k N X w r w' ∧ w'.cell? ⟨b, 0, none⟩ = some vl ∧ ∀ g ∈ blk vl, w'.heap[g]? = w.heap[g]?) := by
  have hb1 : Below w.heap.size w (w.alloc (.cells #[.int .i64 9, .int .i64 ix, .string s, .string t, c4, c5, c6, c7, c8, .int .i64 ck, .string key, .string xv, c12] 81)) := (Below.refl _ w).alloc (Nat.le_refl _) _
  have hop : OpB (w.alloc (.cells #[.int .i64 9, .int .i64 ix, .string s, .string t, c4, c5, c6, c7, c8, .int .i64 ck, .string key, .string xv, c12] 81)) w.heap.size 9 ix s t c4 c5 c6 c7 c8 ck key xv c12 := heap_alloc_new _ _
  have HL0 := hid h
  have HB1 := hid hb1
  have h1 := h.below hb1
  obtain ⟨q, G⟩ := p
  obtain ⟨x, y, b', F, v, il, V, hq, rfl⟩ := h1.trs.prs _ hp
  clear h hb1 hp
  go_enter Tryz.func54, Tryz.ntmps54
  go_upto_region 6 with fail
  generalize w.alloc (.cells #[.int .i64 9, .int .i64 ix, .string s, .string t, c4, c5, c6, c7, c8, .int .i64 ck, .string key, .string xv, c12] 81) = w1 at *
  obtain ⟨o0, -, o2, -⟩ := hop.cells
  obtain ⟨p0, p1⟩ := hq.pb.cells
  have hnd := hq.nd
  simp only [List.nodup_cons, List.mem_cons, List.mem_append, not_or] at hnd
  obtain ⟨-, ⟨x1, x2, x3, x4⟩, -⟩ := hnd
  have hxF : x ∉ b' :: F := fun z => (List.mem_cons.1 z).elim x2 x3
  have HSM := hid (sGet_any V N x b' F s w1.drew hq.st (hq.tr.keep fun _ _ => rfl) hxF hN)
  obtain ⟨sv, hsv⟩ : ∃ sv, sv = stV (V s.data.toList) := ⟨_, rfl⟩
  obtain ⟨e, he⟩ : ∃ e : Int, e = if stB (V s.data.toList) then 0 else 3 := ⟨_, rfl⟩
  rw [← hsv, ← he] at HSM
  have hlk : V s.data.toList = headVal (cutC il s) s := by rw [← hq.val, look_cut (cut_parted il s hq.ris) hq.ris]
  have HKP : Hid (∀ wx, Below w1.heap.size w1 wx → PB wx q x y ∧ OpB wx w.heap.size 9 ix s t c4 c5 c6 c7 c8 ck key xv c12 ∧ Calls Tryz.prog 113 #[.pointer (some ⟨y, 0, none⟩), .string s] wx.drew fun r w' => r = .returned (.tuple #[.string sv, .int .i64 e]) ∧ Below wx.heap.size wx w') := fun wx hb => by
    refine ⟨(hb.block _ hq.pb.lt).trans hq.pb, (hb.block _ (Array.getElem?_eq_some_iff.1 hop).1).trans hop, ?_⟩
    refine (rGet_any y v il s wx.drew ((hb.block _ hq.rt.lt).trans hq.rt) (row_same (row_below hq.row hb (Nat.le_refl _)) fun _ _ _ => rfl) (by have := hq.len; omega)).mono ?_
    rintro r w' ⟨rfl, hb'⟩
    refine ⟨?_, ⟨hb'.os, hb'.tape, hb'.output, hb'.size, hb'.block⟩⟩
    rw [hsv, he, hlk, headIs_val]
  clear hq h1 hop hxF x1 x2 x3 x4 hlk hsv he
  go_cut [8, 9] (fun v8 v9 wx => v8 = .string sv ∧ v9 = .int .i64 e ∧ Below w1.heap.size w1 wx)
  case first =>
    go_region_law (go_simp; go_at_call 22; refine HSM.out.mono ?_; rintro r w3 ⟨rfl, hb3⟩; have HB3 : Hid (Below w1.heap.size w1 w3) := ⟨hb3.os, hb3.tape, hb3.output, hb3.size, hb3.block⟩; clear hb3)
    all_goals
      go_wp2_with fail
      go_meet
      exact ⟨rfl, rfl, HB3.out⟩
  case rest =>
    obtain ⟨rfl, rfl, hb3⟩ := hcut
    obtain ⟨kpb, kop, hget⟩ := HKP.out wc hb3
    have HB3 := hid hb3
    have HRM := hid hget
    clear hb3 hget o0 o2 p0 p1
    obtain ⟨o0, -, o2, -⟩ := kop.cells
    obtain ⟨p0, p1⟩ := kpb.cells
    clear kpb kop HKP HSM
    go_upto_region 7 with fail
    go_cut [10, 11] (fun v10 v11 wx => v10 = .string sv ∧ v11 = .int .i64 e ∧ Below w1.heap.size w1 wx)
    case first =>
      go_region_law (go_simp; go_at_call 113; refine HRM.out.mono ?_; rintro r w3 ⟨rfl, hb3⟩; have HB4 := hid (HB3.out.trans (hb3.mono HB3.out.size)); clear hb3)
      all_goals
        go_wp2_with fail
        go_meet
        exact ⟨rfl, rfl, HB4.out⟩
    case rest =>
      obtain ⟨rfl, rfl, hb4⟩ := hcut
      have HB4 := hid hb4
      clear hb4 o0 o2 p0 p1 HRM HB3
      go_wp2_with (go_at_call 96; refine (num_any _ _).mono ?_; rintro r w' ⟨rfl, rfl⟩)
      go_ret
      exact ⟨StQ.of_below HL0.out (HB1.out.trans (HB4.out.mono HB1.out.size)), (HL0.out.below (HB1.out.trans (HB4.out.mono HB1.out.size))).cell.1, fun g hg => (HB1.out.trans (HB4.out.mono HB1.out.size)).block g (HL0.out.trs.lt g (List.mem_append_left _ hg))⟩

set_option maxHeartbeats 1000000 in
set_option maxRecDepth 20000 in
theorem grownScan_any {b k N : Nat} {X : Nat → Prop} {vl : Value} {qs : List (Nat × List Nat)} {w : World} (h : LW b k N X vl qs w) (hk : k ≤ 90000000) (hN : N ≤ 90000) (p : Nat × List Nat) (hp : p ∈ qs) (ix : Int) (s t : ByteArray) (c4 c5 c6 c7 c8 : Value) (ck : Int) (key xv : ByteArray) (c12 : Value) :
    Calls Tryz.prog 54 #[.pointer (some ⟨b, 0, none⟩), .pointer (some ⟨p.1, 0, none⟩), .agg #[.int .i64 10, .int .i64 ix, .string s, .string t, c4, c5, c6, c7, c8, .int .i64 ck, .string key, .string xv, c12]] w (fun r w' => StQ b k N X w r w' ∧ w'.cell? ⟨b, 0, none⟩ = some vl ∧ ∀ g ∈ blk vl, w'.heap[g]? = w.heap[g]?) := by
  have hb1 : Below w.heap.size w (w.alloc (.cells #[.int .i64 10, .int .i64 ix, .string s, .string t, c4, c5, c6, c7, c8, .int .i64 ck, .string key, .string xv, c12] 81)) := (Below.refl _ w).alloc (Nat.le_refl _) _
  have HL0 := hid h
  have HB1 := hid hb1
  have HSC := hid (scanned_any (h.below hb1) hk hN p hp s t)
  clear h hb1 hp
  go_enter Tryz.func54, Tryz.ntmps54
  go_wp2_with fail
  refine HSC.out.mono ?_
  rintro r w2 hs
  have HS := hid (And.intro (StQ.box HL0.out HB1.out (StQ.of_scan hs)) (And.intro hs.lw.cell.1 (show ∀ g ∈ blk vl, w2.heap[g]? = w.heap[g]? from fun g hg => (hs.row g hg).trans (HB1.out.block g (HL0.out.trs.lt g (List.mem_append_left _ hg))))))
  obtain rfl := hs.ret
  clear hs
  go_wp2_with fail
  go_ret
  exact HS.out
end Go.Proofs.YtolgpnaoaodepaaGreat
/- The walk of step, of the kinds 7 to 10. -/
namespace Go.Proofs.YtolgpnaoaodepaaGreat
open Go.RowKit

set_option maxHeartbeats 1000000 in
set_option maxRecDepth 20000 in
theorem stepNew_any {b k N : Nat} {X : Nat → Prop} {vl : Value} {qs : List (Nat × List Nat)} {w : World} (h : LW b k N X vl qs w) (hN1 : 1 ≤ N) (hN : N ≤ 90000) (ix : Int) (s t : ByteArray) (c4 c5 c6 c7 c8 : Value) (ck : Int) (key xv : ByteArray) (c12 : Value) :
    Calls Tryz.prog 28 #[.pointer (some ⟨b, 0, none⟩), .agg #[.int .i64 7, .int .i64 ix, .string s, .string t, c4, c5, c6, c7, c8, .int .i64 ck, .string key, .string xv, c12]] w (StQ b k N X w) := by
  have hb1 : Below w.heap.size w (w.alloc (.cells #[.int .i64 7, .int .i64 ix, .string s, .string t, c4, c5, c6, c7, c8, .int .i64 ck, .string key, .string xv, c12] 81)) := (Below.refl _ w).alloc (Nat.le_refl _) _
  have HL0 := hid h
  have HB1 := hid hb1
  have HL1 := hid (h.below hb1)
  clear h hb1
  go_enter Tryz.func28, Tryz.ntmps28
  go_wp2_with fail
  refine (sNew_any _).mono ?_
  rintro r w2 ⟨x, b', F, rfl, hst, htr, hnew, hxF, hb2⟩
  generalize w.alloc (.cells #[.int .i64 7, .int .i64 ix, .string s, .string t, c4, c5, c6, c7, c8, .int .i64 ck, .string key, .string xv, c12] 81) = w1 at *
  have hb3 : Below w2.heap.size w2 (w2.alloc (.cells #[.slice none 0 0] 113)) := (Below.refl _ w2).alloc (Nat.le_refl _) _
  have hz3 : (w2.alloc (.cells #[.slice none 0 0] 113)).heap.size = w2.heap.size + 1 := by simp
  have hz2 := hb2.size
  have hlt2 : ∀ g ∈ x :: b' :: F, g < w2.heap.size := fun g hg => (List.mem_cons.1 hg).elim (fun e => by rw [e]; exact hst.lt) (htr.lt g)
  have hall : ∀ g ∈ x :: w2.heap.size :: b' :: (F ++ blk (.slice none 0 0)), w1.heap.size ≤ g ∧ g < w2.heap.size + 1 := fun g hg => by
    have hbn : blk (.slice none 0 0) = [] := rfl
    rw [hbn, List.append_nil] at hg
    rcases List.mem_cons.1 hg with e | hg
    · rw [e]; exact ⟨hnew x (by simp), by have := hlt2 x (by simp); omega⟩
    · rcases List.mem_cons.1 hg with e | hg
      · omega
      · exact ⟨hnew g (List.mem_cons_of_mem _ hg), by have := hlt2 g (List.mem_cons_of_mem _ hg); omega⟩
  have HAD : Hid (Calls Tryz.prog 52 #[.pointer (some ⟨b, 0, none⟩), .pointer (some ⟨x, 0, none⟩), .pointer (some ⟨w2.heap.size, 0, none⟩)] (w2.alloc (.cells #[.slice none 0 0] 113)) (AdQ b k N X qs (w2.alloc (.cells #[.slice none 0 0] 113)))) := by
    refine added_any (vl := vl) (x := x) (y := w2.heap.size) (b' := b') (F := F) (v := .slice none 0 0) (il := []) (V := fun _ => none) ?_ (hst.below hb3) ((htr.keep fun g hg => hb3.block g (htr.lt g hg)).mono hN1) (heap_alloc_new _ _) (World.ownsRow_nil _ _ _ _) List.Pairwise.nil (fun _ => rfl) (Nat.zero_le _) (fun z hz => by cases hz) ?_ (fun g hg hX => ?_) (by omega)
    · refine HL1.out.aside (hb2.trans (hb3.mono hz2)) fun g hg => hg.imp id fun q => ?_
      rw [hz3]; exact hall g q
    · obtain ⟨hFn, hbF⟩ := htr.nds
      have hbn : blk (.slice none 0 0) = [] := rfl
      rw [hbn, List.append_nil]
      refine List.nodup_cons.2 ⟨fun q => ?_, List.nodup_cons.2 ⟨fun q => ?_, List.nodup_cons.2 ⟨hbF, hFn⟩⟩⟩
      · rcases List.mem_cons.1 q with e | q
        · have := hst.lt; omega
        · exact hxF q
      · have := hlt2 _ (List.mem_cons_of_mem _ q); omega
    · have h1 := (hall g hg).1
      have h2 := (HL1.out.xs g hX).2
      omega
  have HB3 := hid (hb2.trans (hb3.mono hz2))
  clear hst htr hnew hxF hb2 hb3 hz3 hz2 hlt2 hall
  go_wp2_with fail
  refine HAD.out.mono ?_
  rintro r w4 had
  have HS : Hid (StQ b k N X w (.returned (.bool true)) w4) := by
    refine StQ.box HL0.out HB1.out (StQ.box HL1.out HB3.out ?_)
    obtain ⟨vl', p, hl'⟩ := had.lw
    exact ⟨rfl, ⟨vl', _, hl'.mono (by omega) (Nat.le_refl _)⟩, had.bel, had.same⟩
  obtain rfl := had.ret
  clear had
  go_wp2_with fail
  go_ret
  exact HS.out

theorem row_at_ptr {w : World} {N : Nat} {vl : Value} {qs : List (Nat × List Nat)} (h : Trs N vl qs w) (i : Nat) (hi : i < qs.length) : ∃ g cap, vl = .slice (some ⟨g, 0, none⟩) qs.length cap ∧ qs.length ≤ cap ∧ w.cell? ⟨g, i, none⟩ = some (.pointer (some ⟨(qs[i]'hi).1, 0, none⟩)) := by
  rcases h.row.2 with ⟨_, h0⟩ | ⟨g, cap, cur, e, hb, hg, hc, -⟩
  · omega
  · refine ⟨g, cap, e, hc, ?_⟩
    have := h.row.cells (g := g) (by rw [e]; rfl) i (.pointer (some ⟨(qs[i]'hi).1, 0, none⟩)) (by simp [hi])
    rw [off_add] at this
    simpa using this
end Go.Proofs.YtolgpnaoaodepaaGreat
/- The walk of step, of the kinds 8 to 10. -/
namespace Go.Proofs.YtolgpnaoaodepaaGreat
open Go.RowKit

theorem cell_of_heap {w w' : World} {g : Nat} (h : w'.heap[g]? = w.heap[g]?) (i : Nat) : w'.cell? ⟨g, i, none⟩ = w.cell? ⟨g, i, none⟩ := by simp only [World.cell?, h]
set_option maxHeartbeats 400000 in
theorem sPick_all (k : Int) (n : Nat) (hn : 0 < n) : ∃ i : Nat, i < n ∧ ∀ w, Calls Tryz.prog 55 #[.int .i64 k, .int .i64 (n : Nat)] w fun r w' => r = .returned (.int .i64 (i : Nat)) ∧ w' = w := by
  by_cases h1 : k < 0
  · refine ⟨0, hn, fun w => ?_⟩
    go_enter Tryz.func55, Tryz.ntmps55
    go_wp2_with fail
    go_ret
    exact ⟨rfl, rfl⟩
  · by_cases h2 : (n : Int) ≤ k
    · refine ⟨0, hn, fun w => ?_⟩
      go_enter Tryz.func55, Tryz.ntmps55
      go_wp2_with fail
      go_ret
      exact ⟨rfl, rfl⟩
    · obtain ⟨i, rfl⟩ := Int.eq_ofNat_of_zero_le (by omega : 0 ≤ k)
      refine ⟨i, by omega, fun w => ?_⟩
      go_enter Tryz.func55, Tryz.ntmps55
      go_wp2_with fail
      go_ret
      exact ⟨rfl, rfl⟩
set_option maxHeartbeats 1000000 in
set_option maxRecDepth 20000 in
theorem stepGrown_any {b k N : Nat} {X : Nat → Prop} {vl : Value} {qs : List (Nat × List Nat)} {w : World} (h : LW b k N X vl qs w) (hk : k ≤ 90000000) (hN : N + 1 ≤ 90000) (kk : Int) (hkk : kk = 8 ∨ kk = 9 ∨ kk = 10) (ix : Int) (s t : ByteArray) (c4 c5 c6 c7 c8 : Value) (ck : Int) (key xv : ByteArray) (c12 : Value) :
    Calls Tryz.prog 28 #[.pointer (some ⟨b, 0, none⟩), .agg #[.int .i64 kk, .int .i64 ix, .string s, .string t, c4, c5, c6, c7, c8, .int .i64 ck, .string key, .string xv, c12]] w (StQ b k N X w) := by
  have hb1 : Below w.heap.size w (w.alloc (.cells #[.int .i64 kk, .int .i64 ix, .string s, .string t, c4, c5, c6, c7, c8, .int .i64 ck, .string key, .string xv, c12] 81)) := (Below.refl _ w).alloc (Nat.le_refl _) _
  have hop : OpB (w.alloc (.cells #[.int .i64 kk, .int .i64 ix, .string s, .string t, c4, c5, c6, c7, c8, .int .i64 ck, .string key, .string xv, c12] 81)) w.heap.size kk ix s t c4 c5 c6 c7 c8 ck key xv c12 := heap_alloc_new _ _
  have HL0 := hid h
  have HB1 := hid hb1
  have hl1 := h.below hb1
  have hqn := h.cnt
  have hl2 : LW b k N (fun g => X g ∨ g = w.heap.size) vl qs (w.alloc (.cells #[.int .i64 kk, .int .i64 ix, .string s, .string t, c4, c5, c6, c7, c8, .int .i64 ck, .string key, .string xv, c12] 81)) := h.aside hb1 fun g hg => hg.imp id fun q => ⟨by omega, by simp; omega⟩
  have HGR : Hid (∀ p ∈ qs, ∀ W, W.heap = (w.alloc (.cells #[.int .i64 kk, .int .i64 ix, .string s, .string t, c4, c5, c6, c7, c8, .int .i64 ck, .string key, .string xv, c12] 81)).heap → Below w.heap.size w W → LW b k N (fun g => X g ∨ g = w.heap.size) vl qs W → Calls Tryz.prog 54 #[.pointer (some ⟨b, 0, none⟩), .pointer (some ⟨p.1, 0, none⟩), .agg #[.int .i64 kk, .int .i64 ix, .string s, .string t, c4, c5, c6, c7, c8, .int .i64 ck, .string key, .string xv, c12]] W fun r w' => StQ b k N X w r w' ∧ w'.cell? ⟨b, 0, none⟩ = some vl ∧ (∀ g ∈ blk vl, w'.heap[g]? = W.heap[g]?) ∧ OpB w' w.heap.size kk ix s t c4 c5 c6 c7 c8 ck key xv c12) := fun p hp W hW hbW hlW => by
    have hfin : ∀ r w', (StQ b k N (fun g => X g ∨ g = w.heap.size) W r w' ∧ w'.cell? ⟨b, 0, none⟩ = some vl ∧ ∀ g ∈ blk vl, w'.heap[g]? = W.heap[g]?) → StQ b k N X w r w' ∧ w'.cell? ⟨b, 0, none⟩ = some vl ∧ (∀ g ∈ blk vl, w'.heap[g]? = W.heap[g]?) ∧ OpB w' w.heap.size kk ix s t c4 c5 c6 c7 c8 ck key xv c12 := fun r w' hs => by
      obtain ⟨hs, hc, hrw⟩ := hs
      obtain ⟨vl', qs', hl'⟩ := hs.lw
      refine ⟨StQ.box h hbW ⟨hs.ret, ⟨vl', qs', hl'.less fun _ hg => .inl hg⟩, hs.bel, fun g hg => hs.same g (.inl hg)⟩, hc, hrw, ?_⟩
      have e := hs.same w.heap.size (.inr rfl)
      rw [hW] at e
      exact e.trans hop
    rcases hkk with rfl | rfl | rfl
    · exact (grownMake_any hlW hN p hp ix s t c4 c5 c6 c7 c8 ck key xv c12).mono hfin
    · exact (grownGet_any hlW (by omega) p hp ix s t c4 c5 c6 c7 c8 ck key xv c12).mono hfin
    · exact (grownScan_any hlW hk (by omega) p hp ix s t c4 c5 c6 c7 c8 ck key xv c12).mono hfin
  obtain ⟨v0, f0⟩ := hl1.cell
  have hbl := hl1.lt
  have hk1 : (kk == 1) = false := by rcases hkk with rfl | rfl | rfl <;> rfl
  have hk2 : (kk == 2) = false := by rcases hkk with rfl | rfl | rfl <;> rfl
  have hk3 : decide (3 ≤ kk) = true := by rcases hkk with rfl | rfl | rfl <;> rfl
  have hk6 : decide (kk ≤ 6) = false := by rcases hkk with rfl | rfl | rfl <;> rfl
  have hk7 : (kk == 7) = false := by rcases hkk with rfl | rfl | rfl <;> rfl
  have hk11 : (kk == 11) = false := by rcases hkk with rfl | rfl | rfl <;> rfl
  have hk8 : decide (8 ≤ kk) = true := by rcases hkk with rfl | rfl | rfl <;> rfl
  have hk12 : decide (kk ≤ 12) = true := by rcases hkk with rfl | rfl | rfl <;> rfl
  obtain ⟨a, c, rfl⟩ := rowShape hl1.trs.row
  clear h hb1 hkk
  go_enter Tryz.func28, Tryz.ntmps28
  by_cases hq0 : qs.length = 0
  · rw [hq0] at v0
    go_wp2_with fail
    all_goals
      go_ret
      exact StQ.of_below HL0.out HB1.out
  · have hqp : 0 < qs.length := by omega
    go_upto_region 12 with fail
    generalize w.alloc (.cells #[.int .i64 kk, .int .i64 ix, .string s, .string t, c4, c5, c6, c7, c8, .int .i64 ck, .string key, .string xv, c12] 81) = w1 at *
    obtain ⟨i, hi, hpk⟩ := sPick_all ix qs.length hqp
    obtain ⟨g, cap, e, hcp, hci⟩ := row_at_ptr hl1.trs i hi
    simp only [Value.slice.injEq] at e
    obtain ⟨rfl, -, rfl⟩ := e
    obtain ⟨o0, o1, o2, o3, o4, o5, o6, o7, o8, o9, o10, o11, o12⟩ := hop.cells
    have HG := hid (HGR.out (qs[i]'hi) (List.getElem_mem hi))
    have HL2 := hid hl2
    have HCI := hid hci
    generalize (qs[i]'hi).1 = q at *
    have hi1 : (0 : Int) ≤ (i : Int) := by omega
    have hi2 : (i : Int) < (qs.length : Int) := by omega
    have HPK : Hid (∀ W, Calls Tryz.prog 55 #[.int .i64 ix, .int .i64 (qs.length : Nat)] W fun r w' => r = .returned (.int .i64 (i : Nat)) ∧ w' = W) := hpk
    clear hpk hop hl1 hl2 HGR hk1 hk2 hk3 hk6 hk7 hk11 hk8 hk12
    go_region_held3 (fun w' => w'.cell? ⟨b, 0, none⟩ = some (.slice (some ⟨g, 0, none⟩) qs.length c) ∧ w'.cell? ⟨w.heap.size, 0, none⟩ = some (.int .i64 kk) ∧ w'.cell? ⟨w.heap.size, 1, none⟩ = some (.int .i64 ix) ∧ w'.cell? ⟨w.heap.size, 2, none⟩ = some (.string s) ∧ w'.cell? ⟨w.heap.size, 3, none⟩ = some (.string t) ∧ w'.cell? ⟨w.heap.size, 4, none⟩ = some c4 ∧ w'.cell? ⟨w.heap.size, 5, none⟩ = some c5 ∧ w'.cell? ⟨w.heap.size, 6, none⟩ = some c6 ∧ w'.cell? ⟨w.heap.size, 7, none⟩ = some c7 ∧ w'.cell? ⟨w.heap.size, 8, none⟩ = some c8 ∧ w'.cell? ⟨w.heap.size, 9, none⟩ = some (.int .i64 ck) ∧ w'.cell? ⟨w.heap.size, 10, none⟩ = some (.string key) ∧ w'.cell? ⟨w.heap.size, 11, none⟩ = some (.string xv) ∧ w'.cell? ⟨w.heap.size, 12, none⟩ = some c12 ∧ w'.cell? ⟨g, i, none⟩ = some (.pointer (some ⟨q, 0, none⟩))) (go_keep)
      (first
        | (go_at_call 55; refine (HPK.out _).mono ?_; rintro r w' ⟨rfl, rfl⟩)
        | (go_at_call 54; refine (HG.out w1.drew rfl HB1.out.drew (HL2.out.below (Below.refl _ w1).drew)).mono ?_; rintro r w4 ⟨hs, hc4, hr4, ho4⟩; have hci4 : w4.cell? ⟨g, i, none⟩ = some (.pointer (some ⟨q, 0, none⟩)) := (cell_of_heap (hr4 g (mem_blk.2 rfl)) i).trans HCI.out; obtain ⟨r0, r1, r2, r3, r4, r5, r6, r7, r8, r9, r10, r11, r12⟩ := ho4.cells; have HS := hid hs; obtain rfl := hs.ret; clear hs ho4 hr4))
    all_goals
      go_wp2_with fail
      go_ret
      exact HS.out
end Go.Proofs.YtolgpnaoaodepaaGreat
/- A new World's book; a cell of what was made just now. -/
namespace Go.Proofs.YtolgpnaoaodepaaGreat
open Go.RowKit

theorem cell_of_alloc {w W : World} {A : Array Value} {t : TypeId} {fr : Nat × Nat} (hW : w.alloc (.cells A t fr) = W) {g : Nat} (hg : w.heap.size = g) (o : Nat) (v : Value) (h : A[o]? = some v) : W.cell? ⟨g, o, none⟩ = some v := by
  rw [← hW, ← hg]
  have : (w.alloc (.cells A t fr)).heap[w.heap.size]? = some (.cells A t fr) := heap_alloc_new _ _
  simp only [World.cell?, this]
  exact h
/-- A new World's book. -/
theorem bk_new {w : World} {b : Nat} {vl : Value} (h : Wb w b vl (.slice none 0 0) (.slice none 0 0) (.slice none 0 0) (.slice none 0 0) (.slice none 0 0) (.slice none 0 0) (.slice none 0 0) (.slice none 0 0) 0) : Bk w b vl 0 (fun _ => False) := by
  refine ⟨fun _ => .slice none 0 0, 0, fun _ => 0, h, fun p hp => ⟨Nat.le_refl _, [], [], ⟨rfl, .inl ⟨rfl, rfl⟩⟩, ⟨rfl, .inl ⟨rfl, rfl⟩⟩, fun i u m hu => by simp at hu⟩, fun i _ _ g hg => by simp [Value.ownBlock] at hg, fun i j _ _ _ _ _ g hg => by simp [Value.ownBlock] at hg⟩
end Go.Proofs.YtolgpnaoaodepaaGreat
