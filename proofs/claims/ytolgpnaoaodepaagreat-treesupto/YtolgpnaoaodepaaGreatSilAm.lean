/- silt's Tree: its block, its lock. -/
import Derived.Test.YtolgpnaoaodepaaGreatTreGm
import Derived.Conc.MuLone
import Derived.Test.YtolgpnaoaodepaaGreatTreCm
import Derived.BigQuiet
import Derived.Deep.DeepCutAuto
namespace Go.Proofs.YtolgpnaoaodepaaGreat
open Go.RowKit

/-- A tree's block: the lock is free; the tree that is kept. -/
def ST (w : World) (x b : Nat) : Prop := w.heap[x]? = some (.cells #[.int .i32 0, .int .u32 0, .pointer (some ⟨b, 0, none⟩)] 95 (0, 0))
def SL (w : World) (x b : Nat) : Prop := w.heap[x]? = some (.cells #[.int .i32 1, .int .u32 0, .pointer (some ⟨b, 0, none⟩)] 95 (0, 0))
theorem ST.lt {w : World} {x b : Nat} (h : ST w x b) : x < w.heap.size := (Array.getElem?_eq_some_iff.1 h).1
theorem SL.lt {w : World} {x b : Nat} (h : SL w x b) : x < w.heap.size := (Array.getElem?_eq_some_iff.1 h).1
theorem ST.cells {w : World} {x b : Nat} (h : ST w x b) : w.cell? ⟨x, 0, none⟩ = some (.int .i32 0) ∧ w.cell? ⟨x, 2, none⟩ = some (.pointer (some ⟨b, 0, none⟩)) ∧ ∀ i, w.frozen? ⟨x, i, none⟩ = false := by
  unfold ST at h
  refine ⟨?_, ?_, fun i => ?_⟩ <;> simp [World.cell?, World.frozen?, h]
theorem SL.cells {w : World} {x b : Nat} (h : SL w x b) : w.cell? ⟨x, 0, none⟩ = some (.int .i32 1) ∧ w.cell? ⟨x, 2, none⟩ = some (.pointer (some ⟨b, 0, none⟩)) ∧ ∀ i, w.frozen? ⟨x, i, none⟩ = false := by
  unfold SL at h
  refine ⟨?_, ?_, fun i => ?_⟩ <;> simp [World.cell?, World.frozen?, h]
theorem ST.lock {w : World} {x b : Nat} (h : ST w x b) : SL (w.setCell ⟨x, 0, none⟩ (.int .i32 1)) x b := by unfold SL; rw [heap_setCell_at (i := 0) h]; rfl
theorem SL.unlock {w : World} {x b : Nat} (h : SL w x b) : ST (w.setCell ⟨x, 0, none⟩ (.int .i32 0)) x b := by unfold ST; rw [heap_setCell_at (i := 0) h]; rfl
theorem SL.keep {w w' : World} {F : Nat → Prop} {x b : Nat} (h : SL w x b) (hm : Mod F w w') (hx : ¬ F x) : SL w' x b := (hm.block x h.lt hx).trans h
/-- What happens under the lock, seen from outside. -/
theorem lock_mod {F : Nat → Prop} {w w2 : World} {x b : Nat} (h : ST w x b) (hm : Mod F (w.setCell ⟨x, 0, none⟩ (.int .i32 1)) w2) (hx : ¬ F x) : Mod F w (w2.setCell ⟨x, 0, none⟩ (.int .i32 0)) ∧ ST (w2.setCell ⟨x, 0, none⟩ (.int .i32 0)) x b := by
  have m1 := Mod.setCell w x 0 (.int .i32 1)
  have m2 := Mod.setCell w2 x 0 (.int .i32 0)
  have s2 : SL w2 x b := h.lock.keep hm hx
  have s3 := s2.unlock
  have z1 := m1.size
  have z2 := hm.size
  refine ⟨⟨m2.os.trans (hm.os.trans m1.os), m2.tape.trans (hm.tape.trans m1.tape), m2.output.trans (hm.output.trans m1.output), Nat.le_trans (Nat.le_trans z1 z2) m2.size, fun g hg hn => ?_⟩, s3⟩
  by_cases e : g = x
  · rw [e]; exact s3.trans h.symm
  · exact (m2.block g (by omega) e).trans ((hm.block g (by omega) hn).trans (m1.block g hg e))
theorem lock_below {w w2 : World} {x b : Nat} (h : ST w x b) (hb : Below (w.setCell ⟨x, 0, none⟩ (.int .i32 1)).heap.size (w.setCell ⟨x, 0, none⟩ (.int .i32 1)) w2) : Below w.heap.size w (w2.setCell ⟨x, 0, none⟩ (.int .i32 0)) := by
  obtain ⟨m, -⟩ := lock_mod (F := fun _ => False) h (Mod.of_below hb) (fun q => q)
  exact ⟨m.os, m.tape, m.output, m.size, fun g hg => m.block g hg (fun q => q)⟩
end Go.Proofs.YtolgpnaoaodepaaGreat
/- The reference's tree: find, Get. -/
namespace Go.Proofs.YtolgpnaoaodepaaGreat
open Go.RowKit

/-- The reference's tree: its block. -/
def RT (w : World) (b : Nat) (v : Value) : Prop := w.heap[b]? = some (.cells #[v] 113 (0, 0))
theorem RT.lt {w : World} {b : Nat} {v : Value} (h : RT w b v) : b < w.heap.size := (Array.getElem?_eq_some_iff.1 h).1
theorem RT.cells {w : World} {b : Nat} {v : Value} (h : RT w b v) : w.cell? ⟨b, 0, none⟩ = some v ∧ w.frozen? ⟨b, 0, none⟩ = false := by
  unfold RT at h
  refine ⟨?_, ?_⟩ <;> simp [World.cell?, World.frozen?, h]
theorem at_mid {α : Type} {l A D : List α} {x : α} (e : l = A ++ x :: D) (h : A.length < l.length) : l[A.length]'h = x := by
  subst e; simp
theorem cut_at {il : List (ByteArray × ByteArray)} {key : ByteArray} {j : Nat} (hA : ∀ x ∈ il.take j, x.1.data.toList < key.data.toList) (hj : j ≤ il.length) (hn : ∀ h : j < il.length, ¬ (il[j]'h).1.data.toList < key.data.toList) : cutA il key = il.take j ∧ cutC il key = il.drop j := by
  unfold cutA cutC
  have e : il = il.take j ++ il.drop j := (List.take_append_drop j il).symm
  have h1 : ∀ x ∈ il.take j, decide (x.1.data.toList < key.data.toList) = true := fun x hx => decide_eq_true (hA x hx)
  have h2 : (il.drop j).takeWhile (fun x => decide (x.1.data.toList < key.data.toList)) = [] ∧ (il.drop j).dropWhile (fun x => decide (x.1.data.toList < key.data.toList)) = il.drop j := by
    by_cases h : j < il.length
    · rw [List.drop_eq_getElem_cons h]
      exact ⟨List.takeWhile_cons_of_neg (by rw [decide_eq_true_eq]; exact hn h), List.dropWhile_cons_of_neg (by rw [decide_eq_true_eq]; exact hn h)⟩
    · rw [List.drop_of_length_le (by omega)]; simp
  constructor
  · conv => lhs; rw [e]
    rw [List.takeWhile_append_of_pos h1, h2.1, List.append_nil]
  · conv => lhs; rw [e]
    rw [List.dropWhile_append_of_pos h1, h2.2]

set_option maxHeartbeats 1000000 in
set_option maxRecDepth 4000 in
theorem rFind_any (b : Nat) (v : Value) (il : List (ByteArray × ByteArray)) (key : ByteArray) (w : World) (hb : RT w b v) (h : OwnsI 0 w v il) (hl : il.length ≤ 100000000) :
    Calls Tryz.prog 162 #[.pointer (some ⟨b, 0, none⟩), .string key] w fun r w' => r = .returned (.tuple #[.int .i64 ((cutA il key).length : Nat), .bool (headIs (cutC il key) key)]) ∧ Below w.heap.size w w' := by
  obtain ⟨a, c, rfl⟩ := rowShape h
  obtain ⟨b0, b1⟩ := hb.cells
  have H := hid h
  clear h
  go_enter Tryz.func162, Tryz.ntmps162
  go_wp2_with fail
  go_loopw [6] (fun vi wr => ∃ j : Nat, vi = .int .i64 (j : Nat) ∧ j ≤ il.length ∧ (∀ x ∈ il.take j, x.1.data.toList < key.data.toList) ∧ wr = w) (fun vi _ => il.length - (intOf vi).toNat)
  case atStart => exact ⟨0, rfl, Nat.zero_le _, fun x hx => by simp at hx, rfl⟩
  case round =>
    obtain ⟨j, rfl, hj, hA, rfl⟩ := hrel
    have HA := hid hA
    clear hA
    by_cases hjl : j < il.length
    · obtain ⟨g, cap, e, hcp, -, hg, d0, d1⟩ := H.out.at j hjl
      simp only [Value.slice.injEq] at e
      obtain ⟨rfl, -, rfl⟩ := e
      obtain ⟨x, hx⟩ : ∃ x, il[j]'hjl = x := ⟨_, rfl⟩
      rw [hx] at d0 d1
      have HX := hid hx
      have HTK : Hid (il.take (j + 1) = il.take j ++ [x]) := by
        show _ = _
        rw [List.take_add_one, List.getElem?_eq_getElem hjl, hx]; rfl
      clear hx
      obtain ⟨xk, xv⟩ := x
      by_cases hlt : xk.data.toList < key.data.toList
      · have r1 : Op.bytesLess xk.toList key.toList = true := by rw [toList_is, toList_is, less_is]; exact decide_eq_true hlt
        have HA2 : Hid (∀ x ∈ il.take (j + 1), x.1.data.toList < key.data.toList) := fun y hy => by
          rw [HTK.out] at hy
          rcases List.mem_append.1 hy with q | q
          · exact HA.out y q
          · rw [List.mem_singleton.1 q]; exact hlt
        go_wp2_with fail
        exact ⟨⟨j + 1, by go_num, by omega, HA2.out, by trivial⟩, by simp [intOf]; omega⟩
      · have r1 : Op.bytesLess xk.toList key.toList = false := by rw [toList_is, toList_is, less_is]; exact decide_eq_false hlt
        obtain ⟨q1, q2⟩ := cut_at HA.out hj (fun _ => by rw [HX.out]; exact hlt)
        have HQ1 := hid q1
        have HQ2 : Hid (headIs (cutC il key) key = decide (xk.data.toList = key.data.toList)) := by
          show _ = _
          rw [q2, List.drop_eq_getElem_cons hjl, HX.out]; rfl
        clear q1 q2
        go_upto_region 5 with fail
        go_quiet (fail)
        go_wp2_with fail
        refine bodyPost_ret (v := .tuple #[.int .i64 (j : Nat), .bool (xk.toList == key.toList)]) ?_ rfl ⟨?_, below_drewN (Below.refl _ _) _⟩
        · simp [results, Tryz.results162, go_sem]
        · rw [HQ1.out, HQ2.out, List.length_take, Nat.min_eq_left hj, toList_is, toList_is]
          have hbq : (xk.data.toList == key.data.toList) = decide (xk.data.toList = key.data.toList) := by
            by_cases e : xk.data.toList = key.data.toList
            · rw [e]; simp
            · rw [decide_eq_false e]; exact beq_eq_false_iff_ne.2 e
          rw [hbq]
    · have hje : j = il.length := by omega
      subst hje
      obtain ⟨q1, q2⟩ := cut_at HA.out hj (fun q => absurd q hjl)
      have HQ : Hid ((cutA il key).length = il.length ∧ headIs (cutC il key) key = false) := by
        show _ ∧ _
        rw [q1, q2, List.take_length, List.drop_length]; exact ⟨rfl, rfl⟩
      clear q1 q2
      go_wp2_with fail
      refine bodyPost_ret (v := .tuple #[.int .i64 (il.length : Nat), .bool false]) ?_ rfl ⟨?_, Below.refl _ _⟩
      · simp [results, Tryz.results162, go_sem]
      · rw [HQ.out.1, HQ.out.2]

set_option maxHeartbeats 400000 in
theorem rGet_any (b : Nat) (v : Value) (il : List (ByteArray × ByteArray)) (key : ByteArray) (w : World) (hb : RT w b v) (h : OwnsI 0 w v il) (hl : il.length ≤ 100000000) :
    Calls Tryz.prog 113 #[.pointer (some ⟨b, 0, none⟩), .string key] w fun r w' => r = .returned (.tuple #[.string (stV (headVal (cutC il key) key)), .int .i64 (if headIs (cutC il key) key then 0 else 3)]) ∧ Below w.heap.size w w' := by
  have HF := hid (rFind_any b v il key w hb h hl)
  have HB := hid hb
  have H := hid h
  clear hb h
  go_enter Tryz.func113, Tryz.ntmps113
  go_wp2_with fail
  refine HF.out.mono ?_
  rintro r w1 ⟨rfl, hb1⟩
  have hb2 : RT w1 b v := (hb1.block b HB.out.lt).trans HB.out
  obtain ⟨b0, b1⟩ := hb2.cells
  have H1 : Hid (OwnsI 0 w1 v il) := row_below H.out hb1 (Nat.le_refl _)
  have HB1 := hid hb1
  clear hb1 hb2
  cases hc : headIs (cutC il key) key with
  | false =>
    have HV : Hid (headVal (cutC il key) key = none) := by
      show _ = _
      unfold headVal
      cases hC : cutC il key with
      | nil => rfl
      | cons x r => rw [hC] at hc; exact if_neg (of_decide_eq_false hc)
    go_wp2_with fail
    all_goals
      refine bodyPost_ret (v := .tuple #[.string ⟨#[]⟩, .int .i64 3]) ?_ rfl ⟨?_, HB1.out⟩
      · simp [results, Tryz.results113, go_sem]
      · rw [HV.out]; rfl
  | true =>
    obtain ⟨x, D, hC, hx⟩ : ∃ x D, cutC il key = x :: D ∧ x.1.data.toList = key.data.toList := by
      cases hC : cutC il key with
      | nil => rw [hC] at hc; cases hc
      | cons x D => rw [hC] at hc; exact ⟨x, D, rfl, of_decide_eq_true hc⟩
    have hil : il = cutA il key ++ x :: D := by rw [← hC]; unfold cutA cutC; exact (List.takeWhile_append_dropWhile ..).symm
    have hat : (cutA il key).length < il.length := by
      have := congrArg List.length hil
      rw [List.length_append, List.length_cons] at this
      omega
    have hel : il[(cutA il key).length]'hat = x := at_mid hil hat
    obtain ⟨g, cap, e, hcp, -, hg, d0, d1⟩ := H1.out.at _ hat
    subst e
    rw [hel] at d0 d1
    have HV : Hid (headVal (cutC il key) key = some x.2.data.toList) := by
      show _ = _
      rw [hC]; exact if_pos hx
    obtain ⟨xk, xv⟩ := x
    clear hil hel hC
    generalize (cutA il key).length = n at *
    go_wp2_with fail
    all_goals
      refine bodyPost_ret (v := .tuple #[.string xv, .int .i64 0]) ?_ rfl ⟨?_, HB1.out⟩
      · simp [results, Tryz.results113, go_sem]
      · rw [HV.out]; rfl
end Go.Proofs.YtolgpnaoaodepaaGreat
/- Changes that come into a leaf, one behind the other. -/
namespace Go.Proofs.YtolgpnaoaodepaaGreat.Tr

def leaf1 (l : List It) (c : Ch) : List It := putK l c.2.1 (after (look l c.2.1) c)
def leafAll (l : List It) (cs : List Ch) : List It := cs.foldl leaf1 l
theorem leafAll_snoc (l : List It) (cs : List Ch) (c : Ch) : leafAll l (cs ++ [c]) = leaf1 (leafAll l cs) c := by simp [leafAll]
theorem leaf1_look {l : List It} (hr : Rising l) (c : Ch) (k : Key) : look (leaf1 l c) k = one k (look l k) c := by
  unfold leaf1 one
  rw [putK_look hr]
  by_cases h : k = c.2.1
  · subst h; simp
  · rw [if_neg h, if_neg fun e => h e.symm]
theorem after_some {s : Option Key} {c : Ch} {v : Key} (hc : c.2.2.length ≤ 16) (h : after s c = some v) : v.length ≤ 16 := by
  unfold after at h
  split at h
  · cases h
  · split at h
    · rw [← Option.some.inj h]; exact last16_len _
    · rw [← Option.some.inj h]; exact hc
theorem look_mem {l : List It} {k v : Key} (h : look l k = some v) : (k, v) ∈ l := by
  induction l with
  | nil => cases h
  | cons x r ih =>
    rw [look] at h
    split at h
    · rename_i e
      have := Option.some.inj h
      exact List.mem_cons.2 (.inl (Prod.ext e.symm this.symm))
    · exact List.mem_cons_of_mem _ (ih h)
theorem okCh_key {c : Ch} (h : okCh c) : Pg.isKey c.2.1.length = true ∧ c.2.2.length ≤ 16 := by
  unfold okCh Pg.okChange Pg.isChange at h
  simp only [Bool.and_eq_true] at h
  exact ⟨h.1.1, of_decide_eq_true h.1.2⟩
theorem leaf1_wf {l : List It} {lo : Key} {hi : Option Key} {c : Ch} (h : WF 0 lo hi l) (hc : inR lo hi c.2.1 ∧ okCh c) : WF 0 lo hi (leaf1 l c) := by
  refine ⟨putK_rising h.1 _ _, fun x hx => ?_⟩
  rcases putK_mem hx with q | ⟨v, e, rfl⟩
  · exact h.2 x q
  · obtain ⟨k1, k2⟩ := okCh_key hc.2
    exact ⟨hc.1, k1, after_some k2 e⟩
theorem leafAll_wf {lo : Key} {hi : Option Key} : ∀ (cs : List Ch) {l : List It}, WF 0 lo hi l → (∀ c ∈ cs, inR lo hi c.2.1 ∧ okCh c) → WF 0 lo hi (leafAll l cs)
  | [], _, h, _ => h
  | c :: r, l, h, hc => leafAll_wf r (l := leaf1 l c) (leaf1_wf h (hc c (List.mem_cons_self ..))) fun d hd => hc d (List.mem_cons_of_mem _ hd)
theorem leafAll_look {lo : Key} {hi : Option Key} (k : Key) : ∀ (cs : List Ch) {l : List It}, WF 0 lo hi l → (∀ c ∈ cs, inR lo hi c.2.1 ∧ okCh c) → look (leafAll l cs) k = afterAll cs k (look l k)
  | [], _, _, _ => rfl
  | c :: r, l, h, hc => by
    rw [afterAll_cons, ← leaf1_look h.1]
    exact leafAll_look k r (l := leaf1 l c) (leaf1_wf h (hc c (List.mem_cons_self ..))) fun d hd => hc d (List.mem_cons_of_mem _ hd)
theorem leafAll_len : ∀ (cs : List Ch) (l : List It), (leafAll l cs).length ≤ l.length + cs.length
  | [], _ => Nat.le_refl _
  | c :: r, l => by
    have h1 := leafAll_len r (leaf1 l c)
    have h2 : (leaf1 l c).length ≤ l.length + 1 := putK_len _ _ _
    rw [List.length_cons]
    show (leafAll (leaf1 l c) r).length ≤ _
    omega
end Go.Proofs.YtolgpnaoaodepaaGreat.Tr
/- The walk of a leaf's change. -/
namespace Go.Proofs.YtolgpnaoaodepaaGreat
open Go.RowKit

theorem plain_cutA (il : List (ByteArray × ByteArray)) (key : ByteArray) : plain (cutA il key) = (plain il).takeWhile fun x => decide (x.1 < key.data.toList) := by
  unfold cutA plain; rw [List.takeWhile_map]; rfl
theorem plain_cutC (il : List (ByteArray × ByteArray)) (key : ByteArray) : plain (cutC il key) = (plain il).dropWhile fun x => decide (x.1 < key.data.toList) := by
  unfold cutC plain; rw [List.dropWhile_map]; rfl
theorem put_yes {il A D : List (ByteArray × ByteArray)} {y : ByteArray × ByteArray} {key : ByteArray} (hA : cutA il key = A) (hC : cutC il key = y :: D) (hy : y.1.data.toList = key.data.toList) (o : Option (List UInt8)) : Tr.putK (plain il) key.data.toList o = plain A ++ ((o.map fun v => (key.data.toList, v)).toList ++ plain D) := by
  unfold Tr.putK
  rw [← plain_cutA, ← plain_cutC, hA, hC]
  congr 2
  show Tr.rest ((y.1.data.toList, y.2.data.toList) :: plain D) _ = _
  unfold Tr.rest; simp only; rw [if_pos hy]
theorem put_no {il A C : List (ByteArray × ByteArray)} {key : ByteArray} (hA : cutA il key = A) (hC : cutC il key = C) (hy : headIs C key = false) (o : Option (List UInt8)) : Tr.putK (plain il) key.data.toList o = plain A ++ ((o.map fun v => (key.data.toList, v)).toList ++ plain C) := by
  unfold Tr.putK
  rw [← plain_cutA, ← plain_cutC, hA, hC]
  congr 2
  cases C with
  | nil => rfl
  | cons y D =>
    have : ¬ y.1.data.toList = key.data.toList := of_decide_eq_false hy
    show Tr.rest ((y.1.data.toList, y.2.data.toList) :: plain D) _ = _
    unfold Tr.rest; simp only; rw [if_neg this]; rfl
theorem nod_row {w : World} {p : Nat} {vi vp vc v : Value} (h : NodT w p vi vp vc) {B : Nat} {e : TypeId} {s n : Nat} {xs : List Value} (hr : w.ownsRow B e s v n xs) (he : e ≠ 123) : v.ownBlock ≠ some p := by
  intro q
  rcases hr.2 with ⟨rfl, _⟩ | ⟨g, cap, cur, rfl, _, hg, _⟩
  · simp [Value.ownBlock] at q
  · obtain rfl : g = p := Option.some.inj q
    unfold NodT at h
    rw [h] at hg
    simp only [Option.some.injEq, Obj.cells.injEq] at hg
    exact he hg.2.1.symm
/-- What a change leaves of a leaf. -/
structure ChgQ (p : Nat) (vi vp vc : Value) (w : World) (l : List Tr.It) (vi' : Value) (il' : List (ByteArray × ByteArray)) (w' : World) : Prop where
  nod : NodT w' p vi' vp vc
  its : OwnsI 0 w' vi' il'
  pl : plain il' = l
  mod : Mod (fun g => g = p ∨ vi.ownBlock = some g) w w'
  blk : ∀ g, vi'.ownBlock = some g → vi.ownBlock = some g ∨ w.heap.size ≤ g
theorem headVal_len {il : List (ByteArray × ByteArray)} {key : ByteArray} (h : ∀ y ∈ il, y.2.size ≤ 16) : ((headVal (cutC il key) key).getD []).length ≤ 16 := by
  unfold headVal
  have hs : cutC il key <:+ il := List.dropWhile_suffix _
  cases hC : cutC il key with
  | nil => simp
  | cons y D =>
    simp only
    split
    · have := h y (hs.sublist.subset (by rw [hC]; exact List.mem_cons_self ..))
      rw [Option.getD_some, len_size]; exact this
    · simp
/-- A change's block. -/
def ChB (w : World) (b : Nat) (k : Int) (key x : ByteArray) : Prop := w.heap[b]? = some (.cells #[.int .i64 k, .string key, .string x] 34 (0, 0))
theorem ChB.lt {w : World} {b : Nat} {k : Int} {key x : ByteArray} (h : ChB w b k key x) : b < w.heap.size := (Array.getElem?_eq_some_iff.1 h).1
theorem ChB.cells {w : World} {b : Nat} {k : Int} {key x : ByteArray} (h : ChB w b k key x) : w.cell? ⟨b, 0, none⟩ = some (.int .i64 k) ∧ w.cell? ⟨b, 1, none⟩ = some (.string key) ∧ w.cell? ⟨b, 2, none⟩ = some (.string x) := by
  unfold ChB at h
  refine ⟨?_, ?_, ?_⟩ <;> simp [World.cell?, h]

theorem shape3 {B : Nat} {w : World} {v : Value} {e : TypeId} {s n : Nat} {xs : List Value} (h : w.ownsRow B e s v n xs) : ∃ a m c, v = Value.slice a m c := by
  obtain ⟨a, c, e⟩ := rowShape h
  exact ⟨a, _, c, e⟩
/-- An item's value is written anew. -/
theorem ownsI_set {w : World} {g cap : Nat} {il : List (ByteArray × ByteArray)} (h : OwnsI 0 w (.slice (some ⟨g, 0, none⟩) il.length cap) il) (i : Nat) (hi : i < il.length) (b : ByteArray) : OwnsI 0 (w.setCell ⟨g, i * 2 + 1, none⟩ (.string b)) (.slice (some ⟨g, 0, none⟩) il.length cap) (il.set i ((il[i]'hi).1, b)) := by
  rcases h.2 with ⟨_, hn⟩ | ⟨g', cap', cur, e, hb, hg, hc, hm, hcs, htk⟩
  · omega
  · simp only [Value.slice.injEq, Option.some.injEq, Addr.mk.injEq, and_true, true_and] at e
    obtain ⟨rfl, rfl⟩ := e
    have hlt : i * 2 + 1 < cur.size := by omega
    have hcell : icells (il.set i ((il[i]'hi).1, b)) = (icells il).set (i * 2 + 1) (.string b) := by
      rw [List.set_eq_take_append_cons_drop, if_pos hi, icells_append]
      show icells (il.take i) ++ ([Value.string (il[i]'hi).1, Value.string b] ++ icells (il.drop (i + 1))) = _
      have h2 : icells il = icells (il.take i) ++ ([Value.string (il[i]'hi).1, Value.string (il[i]'hi).2] ++ icells (il.drop (i + 1))) := by
        have e1 : icells il = icells (il.take i) ++ icells (il.drop i) := by rw [← icells_append, List.take_append_drop]
        rw [e1, List.drop_eq_getElem_cons hi]; rfl
      have h3 : (icells (il.take i)).length = i * 2 := by rw [icells_len2, List.length_take]; omega
      rw [h2, List.set_append, if_neg (by rw [h3]; omega), h3, show i * 2 + 1 - i * 2 = 1 by omega]
      rfl
    unfold OwnsI
    rw [List.length_set]
    refine ⟨by rw [icells_len2, List.length_set], .inr ⟨g, cap, cur.setIfInBounds (i * 2 + 1) (.string b), rfl, hb, ?_, hc, hm, by simpa using hcs, ?_⟩⟩
    · rw [heap_setCell_at (i := i * 2 + 1) hg]
    · rw [Array.toList_setIfInBounds, List.take_set, htk, hcell]
/-- What stays while a leaf's state is told. -/
structure CM (w : World) (p : Nat) (vi vp vc : Value) (il : List (ByteArray × ByteArray)) (k : Int) (key x : ByteArray) (W : World) : Prop where
  nod : NodT W p vi vp vc
  its : OwnsI 0 W vi il
  ch : ChB W w.heap.size k key x
  bel : Below w.heap.size w W
theorem CM.below {w : World} {p : Nat} {vi vp vc : Value} {il : List (ByteArray × ByteArray)} {k : Int} {key x : ByteArray} {W W' : World} (h : CM w p vi vp vc il k key x W) (hb : Below W.heap.size W W') : CM w p vi vp vc il k key x W' :=
  ⟨(hb.block p h.nod.lt).trans h.nod, row_below h.its hb (Nat.le_refl _), (hb.block _ h.ch.lt).trans h.ch, h.bel.trans (hb.mono h.bel.size)⟩
theorem CM.drew {w : World} {p : Nat} {vi vp vc : Value} {il : List (ByteArray × ByteArray)} {k : Int} {key x : ByteArray} {W : World} (h : CM w p vi vp vc il k key x W) : CM w p vi vp vc il k key x W.drew := h.below (Below.refl _ W).drew
theorem CM.alloc {w : World} {p : Nat} {vi vp vc : Value} {il : List (ByteArray × ByteArray)} {k : Int} {key x : ByteArray} {W : World} (h : CM w p vi vp vc il k key x W) (o : Obj) : CM w p vi vp vc il k key x (W.alloc o) := h.below ((Below.refl _ W).alloc (Nat.le_refl _) o)
/-- Behind it: the state lies in a block of its own. -/
structure CS (w : World) (p : Nat) (vi vp vc : Value) (il : List (ByteArray × ByteArray)) (k : Int) (key x : ByteArray) (s : Option (List UInt8)) (sb : Nat) (W : World) : Prop where
  cm : CM w p vi vp vc il k key x W
  st : StB W sb (stV s) (stB s)
  lt : w.heap.size < sb
theorem st_new {W W' : World} (h : Below (W.alloc (.cells #[.string ⟨#[]⟩, .bool false] 136)).heap.size (W.alloc (.cells #[.string ⟨#[]⟩, .bool false] 136)) W') : StB W' W.heap.size ⟨#[]⟩ false :=
  (h.block W.heap.size (by simp)).trans (heap_alloc_new _ _)
theorem StB.keep {W W' : World} {b : Nat} {v : ByteArray} {t : Bool} (h : StB W b v t) (hb : Below W.heap.size W W') : StB W' b v t := (hb.block b h.lt).trans h
theorem cs_late {w : World} {p : Nat} {vi vp vc : Value} {il : List (ByteArray × ByteArray)} {k : Int} {key x : ByteArray} {s : Option (List UInt8)} {W : World} (h : CM w p vi vp vc il k key x W) : CS w p vi vp vc il k key x s W.heap.size (W.alloc (.cells #[.string (stV s), .bool (stB s)] 136)) :=
  ⟨h.alloc _, heap_alloc_new _ _, h.ch.lt⟩
theorem cs_early {w : World} {p : Nat} {vi vp vc : Value} {il : List (ByteArray × ByteArray)} {k : Int} {key x : ByteArray} {s : Option (List UInt8)} {W : World} {sb : Nat} {v0 : ByteArray} {t0 : Bool} (h : CM w p vi vp vc il k key x W) (hs : StB W sb v0 t0) (hlt : w.heap.size < sb) (hp : p < w.heap.size) (hv : ∀ g, vi.ownBlock = some g → g < w.heap.size) : CS w p vi vp vc il k key x s sb ((W.setCell ⟨sb, 0, none⟩ (.string (stV s))).setCell ⟨sb, 1, none⟩ (.bool (stB s))) := by
  have m1 := Mod.setCell W sb 0 (.string (stV s))
  have m2 := Mod.setCell (W.setCell ⟨sb, 0, none⟩ (.string (stV s))) sb 1 (.bool (stB s))
  have m : Mod (fun g => g = sb) W ((W.setCell ⟨sb, 0, none⟩ (.string (stV s))).setCell ⟨sb, 1, none⟩ (.bool (stB s))) := m1.trans m2 (fun _ _ q => q) (fun _ _ q => q)
  refine ⟨⟨m.nod h.nod (by omega), m.row h.its (fun g hg => by have := hv g hg; omega), (m.block _ h.ch.lt (by omega)).trans h.ch, ?_⟩, hs.put _ _, hlt⟩
  exact (h.bel.setCell (p := ⟨sb, 0, none⟩) (Nat.le_of_lt hlt) _).setCell (p := ⟨sb, 1, none⟩) (Nat.le_of_lt hlt) _

set_option maxHeartbeats 1000000 in
set_option maxRecDepth 20000 in
theorem tChange_any (p : Nat) (vi vp vc : Value) (il : List (ByteArray × ByteArray)) (k : Int) (key x : ByteArray) (w : World) (hn : NodT w p vi vp vc) (hv : OwnsI 0 w vi il) (hl : il.length ≤ 100000) (hr : Tr.Rising (plain il)) (h16 : ∀ y ∈ il, y.2.size ≤ 16) (hx : x.size ≤ 16) :
    Calls Tryz.prog 125 #[.pointer (some ⟨p, 0, none⟩), .agg #[.int .i64 k, .string key, .string x]] w fun r w' => r = .returned (.tuple #[]) ∧ ∃ vi' il', ChgQ p vi vp vc w (Tr.putK (plain il) key.data.toList (Tr.after (Tr.look (plain il) key.data.toList) (chP k key x))) vi' il' w' := by
  have HPT := hid (cut_parted il key hr)
  have HLK := hid (look_cut HPT.out hr)
  have hln : ((Tr.look (plain il) key.data.toList).getD []).length ≤ 16 := by rw [HLK.out]; exact headVal_len h16
  have HB0 := (Below.refl w.heap.size w).alloc (Nat.le_refl _) (.cells #[.int .i64 k, .string key, .string x] 34)
  have HM0 : Hid (CM w p vi vp vc il k key x (w.alloc (.cells #[.int .i64 k, .string key, .string x] 34))) := ⟨(HB0.block p hn.lt).trans hn, row_below hv HB0 (Nat.le_refl _), heap_alloc_new _ _, HB0⟩
  have HPW := hid hn.lt
  have HVW : Hid (∀ g, vi.ownBlock = some g → g < w.heap.size) := fun g hg => (World.ownsRow.lt hv g hg).2
  have HNE := hid (nod_row hn hv (by decide))
  have HF := hid (findItem_any p 0 vi vp vc il key _ HM0.out.nod HM0.out.its (by omega) hr)
  have HS : Hid (∀ W, CM w p vi vp vc il k key x W → Calls Tryz.prog 78 #[.pointer (some ⟨p, 0, none⟩), .string key] W fun r w' => r = .returned (.agg #[.string (stV (Tr.look (plain il) key.data.toList)), .bool (stB (Tr.look (plain il) key.data.toList))]) ∧ Below W.heap.size W w') := fun W hW => stateOf_any p 0 vi vp vc il key W hW.nod hW.its (by omega) hr
  have HA : Hid (∀ W, Calls Tryz.prog 70 #[.agg #[.string (stV (Tr.look (plain il) key.data.toList)), .bool (stB (Tr.look (plain il) key.data.toList))], .agg #[.int .i64 k, .string key, .string x]] W fun r w' => r = .returned (.agg #[.string (stV (Tr.after (Tr.look (plain il) key.data.toList) (chP k key x))), .bool (stB (Tr.after (Tr.look (plain il) key.data.toList) (chP k key x)))]) ∧ Below W.heap.size W w') := fun W => after_any _ k key x W (by omega) (by omega)
  clear hn hv h16 hr hln HB0
  go_enter Tryz.func125, Tryz.ntmps125
  go_wp2_with fail
  refine HF.out.mono ?_
  clear HF
  generalize w.alloc (.cells #[.int .i64 k, .string key, .string x] 34) = w1 at *
  rintro r w2 ⟨rfl, hb2⟩
  have HM2 := hid (HM0.out.below hb2)
  clear hb2 HM0
  obtain ⟨c0, c1, c2⟩ := HM2.out.ch.cells
  have hlt2 : w.heap.size < w2.heap.size := HM2.out.ch.lt
  generalize hs' : Tr.after (Tr.look (plain il) key.data.toList) (chP k key x) = s' at *
  have HSS := hid hs'
  clear hs'
  go_upto_region 2 with fail
  go_cut [4, 5, 6] (fun v4 v5 v6 wx => v4 = .int .i64 ((cutA il key).length : Nat) ∧ v5 = .bool (headIs (cutC il key) key) ∧ ∃ sb, v6 = .pointer (some ⟨sb, 0, none⟩) ∧ CS w p vi vp vc il k key x s' sb wx)
  case first =>
    go_region_law (first
      | (go_simp; go_at_call 78; refine (HS.out _ (by first | exact HM2.out.drew | exact HM2.out.drew.alloc _)).mono ?_; rintro r w3 ⟨rfl, hb3⟩; have HM3 : Hid (CM w p vi vp vc il k key x w3) := (by first | exact HM2.out.drew.below hb3 | exact (HM2.out.drew.alloc _).below hb3); obtain ⟨d0, d1, d2⟩ := HM3.out.ch.cells; have hlt3 : w.heap.size < w3.heap.size := HM3.out.ch.lt; first | (have ST3 : StB w3 w2.heap.size ⟨#[]⟩ false := st_new (W := w2.drew) hb3) | skip)
      | (go_simp; go_at_call 70; refine (HA.out _).mono ?_; rintro r w4 ⟨rfl, hb4⟩; have HM4 : Hid (CM w p vi vp vc il k key x w4) := (by first | exact HM3.out.below hb4 | exact (HM3.out.alloc _).below hb4); first | (have ST4 : StB w4 w3.heap.size ⟨#[]⟩ false := st_new (W := w3) hb4; have z0 := ST4.cells.1; have z1 := ST4.cells.2.1; have f0 := ST4.cells.2.2.1; have f1 := ST4.cells.2.2.2) | (have ST4 : StB w4 w2.heap.size ⟨#[]⟩ false := StB.keep ST3 hb4; have z0 := ST4.cells.1; have z1 := ST4.cells.2.1; have f0 := ST4.cells.2.2.1; have f1 := ST4.cells.2.2.2) | skip))
    all_goals
      go_wp2_with fail
      go_meet
      first
        | exact ⟨rfl, rfl, _, rfl, cs_late HM4.out⟩
        | exact ⟨rfl, rfl, _, rfl, cs_early HM4.out ST4 HM3.out.ch.lt HPW.out HVW.out⟩
        | exact ⟨rfl, rfl, _, rfl, cs_early HM4.out ST4 HM2.out.ch.lt HPW.out HVW.out⟩
  case rest =>
    obtain ⟨rfl, rfl, sb, rfl, hcs⟩ := hcut
    clear HS HA c0 c1 c2 hlt2 HM2
    have HCS := hid hcs
    obtain ⟨t0, t1, f0, f1⟩ := hcs.st.cells
    obtain ⟨n0, n1, n2, q0, q1, q2⟩ := hcs.cm.nod.cells
    obtain ⟨c0, c1, c2⟩ := hcs.cm.ch.cells
    have hil := HPT.out.e
    have HMD : Hid (Mod (fun g => g = p ∨ vi.ownBlock = some g) w wc.drew) := Mod.of_below hcs.cm.bel.drew
    have HMC : Hid (Mod (fun g => g = p ∨ vi.ownBlock = some g) w wc) := Mod.of_below hcs.cm.bel
    have HSZ := hid hcs.cm.bel.size
    clear hcs HPT
    generalize hA : cutA il key = A at *
    generalize hC : cutC il key = C at *
    have HLE := hid (congrArg List.length hil)
    cases hh : headIs C key with
    | true =>
      obtain ⟨y, D, rfl, hy⟩ : ∃ y D, C = y :: D ∧ y.1.data.toList = key.data.toList := by
        cases C with
        | nil => cases hh
        | cons y D => exact ⟨y, D, rfl, of_decide_eq_true hh⟩
      have HPY := hid (fun o => put_yes hA hC hy o)
      have hal : A.length < il.length := by have := HLE.out; rw [List.length_append, List.length_cons] at this; omega
      obtain ⟨g, cap, e, hc, -, hg, d0, d1⟩ := HCS.out.cm.its.at A.length hal
      have hye : il[A.length]'hal = y := by
        have : il[A.length]? = some y := by rw [hil]; simp
        rw [List.getElem?_eq_getElem hal] at this
        exact Option.some.inj this
      clear hA hC
      cases s' with
      | some v =>
        subst e
        have fr : wc.frozen? ⟨g, A.length * 2 + 1, none⟩ = false := by
          rcases HCS.out.cm.its.2 with ⟨h0, _⟩ | ⟨g', cap', cur, e', _, hg', _⟩
          · simp at h0
          · simp only [Value.slice.injEq, Option.some.injEq, Addr.mk.injEq, and_true, true_and] at e'
            obtain ⟨rfl, rfl⟩ := e'
            simp [World.frozen?, hg']
        have HFIN : Hid (∃ vi' il', ChgQ p (.slice (some ⟨g, 0, none⟩) il.length cap) vp vc w (Tr.putK (plain il) key.data.toList (some v)) vi' il' (wc.drew.setCell ⟨g, A.length * 2 + 1, none⟩ (.string (stV (some v))))) := by
          have hset := ownsI_set (w := wc.drew) HCS.out.cm.its A.length hal (stV (some v))
          have m1 := Mod.setCell wc.drew g (A.length * 2 + 1) (.string (stV (some v)))
          have hgp : g ≠ p := fun q => HNE.out (by rw [← q]; rfl)
          refine ⟨_, _, ⟨m1.nod HCS.out.cm.nod (fun q => hgp q.symm), hset, ?_, HMD.out.trans m1 (fun _ _ q => q) (fun k _ q => .inr (by rw [q]; rfl)), fun g' hg' => .inl hg'⟩⟩
          rw [HPY.out, hye]
          have e2 : il.set A.length (y.1, stV (some v)) = A ++ (y.1, stV (some v)) :: D := by
            rw [hil, List.set_append, if_neg (Nat.lt_irrefl _), Nat.sub_self, List.set_cons_zero]
          rw [e2, plain_app]
          show plain A ++ ((y.1.data.toList, (stV (some v)).data.toList) :: plain D) = _
          rw [hy]; rfl
        have hb : A.length ≤ cap := by omega
        clear hye hil HPY
        go_upto_region 4 with fail
        go_region_law (fail)
        all_goals
          go_wp2_with fail
          go_end0
          exact ⟨rfl, by rw [HSS.out]; exact HFIN.out⟩
      | none =>
        subst e
        have HDL := hid (deleteI_any (.slice (some ⟨g, 0, none⟩) il.length cap) il A.length wc hal HCS.out.cm.its (by omega))
        have HDE : Hid (plain (il.take A.length ++ il.drop (A.length + 1)) = Tr.putK (plain il) key.data.toList none) := by
          show _ = _
          rw [HPY.out, plain_app]
          congr 1
          · rw [hil, List.take_left]
          · rw [hil, show A.length + 1 = (A ++ [y]).length by simp, show A ++ y :: D = (A ++ [y]) ++ D by simp, List.drop_left]; rfl
        have hw1 : IntKind.i64.wrap ((A.length : Int) + 1) = (A.length : Int) + 1 := by rw [IntKind.wrap_i64]; omega
        clear hye hil HPY
        go_wp2_with fail
        refine HDL.out.mono ?_
        rintro r w5 ⟨vi', rfl, ho, hgr, hbk⟩
        obtain ⟨va, vn, vcap, hvi'⟩ : ∃ a n c, vi' = Value.slice a n c := by obtain ⟨a, c, e⟩ := rowShape ho; exact ⟨a, _, c, e⟩
        have m5 := Mod.of_grown hgr
        have hn5 := m5.nod HCS.out.cm.nod HNE.out
        obtain ⟨n0', n1', n2', q0', q1', q2'⟩ := hn5.cells
        have HFIN : Hid (∃ vo lo, ChgQ p (.slice (some ⟨g, 0, none⟩) il.length cap) vp vc w (Tr.putK (plain il) key.data.toList none) vo lo (w5.setCell ⟨p, 0, none⟩ vi')) := by
          have hv' : vi'.ownBlock ≠ some p := fun q => HNE.out (by rw [← hbk]; exact q)
          have m6 := Mod.setCell w5 p 0 vi'
          refine ⟨vi', _, ⟨hn5.seti vi', m6.row ho (fun g' hg' q => hv' (by rw [← q]; exact hg')), HDE.out, (HMC.out.trans m5 (H := fun g' => g' = p ∨ (Value.slice (some ⟨g, 0, none⟩) il.length cap).ownBlock = some g') (fun _ _ q => q) (fun k _ q => .inr q)).trans m6 (fun _ _ q => q) (fun k _ q => .inl q), fun g' hg' => .inl (by rw [← hbk]; exact hg')⟩⟩
        clear ho hgr hbk m5 hn5 n0 n1 n2 q0 q1 q2 HDL
        subst hvi'
        go_wp2_with fail
        go_end0
        exact ⟨rfl, by rw [HSS.out]; exact HFIN.out⟩
    | false =>
      have HPN := hid (fun o => put_no hA hC hh o)
      clear hA hC
      have hal : A.length ≤ il.length := by have := HLE.out; rw [List.length_append] at this; omega
      cases s' with
      | some v =>
        have HIN : Hid (∀ w5 : World, w5.heap[wc.heap.size]? = some (.cells #[.string key, .string (stV (some v))] 51 (0, 0)) → OwnsI 0 w5 vi il → Calls Tryz.prog 171 #[vi, .int .i64 (A.length : Nat), .slice (some ⟨wc.heap.size, 0, none⟩) 1 1] w5 fun r w' => ∃ v', r = .returned v' ∧ InsQ vi (insI il A.length (key, stV (some v))) w5 v' w') := fun w5 h5 ho5 => insertI_any vi il A.length (key, stV (some v)) wc.heap.size w5 hal ho5 (by omega) h5 (fun q => by have := HVW.out _ q; have := HSZ.out; omega)
        have HB5 := hid ((Below.refl wc.drew.heap.size wc.drew).alloc (Nat.le_refl _) (.cells #[.string key, .string (stV (some v))] 51))
        have HO5 : Hid (OwnsI 0 (wc.drew.alloc (.cells #[.string key, .string (stV (some v))] 51)) vi il) := row_below (w := wc.drew) HCS.out.cm.its HB5.out (Nat.le_refl _)
        have HN5 : Hid (NodT (wc.drew.alloc (.cells #[.string key, .string (stV (some v))] 51)) p vi vp vc) := (HB5.out.block p HCS.out.cm.nod.lt).trans HCS.out.cm.nod
        have HM5 : Hid (Mod (fun g => g = p ∨ vi.ownBlock = some g) w (wc.drew.alloc (.cells #[.string key, .string (stV (some v))] 51))) := HMD.out.trans (Mod.of_below (F := fun _ => False) HB5.out) (fun _ _ q => q) (fun _ _ q => q.elim)
        have HIE : Hid (plain (insI il A.length (key, stV (some v))) = Tr.putK (plain il) key.data.toList (some v)) := by
          show _ = _
          rw [HPN.out]
          unfold insI
          rw [plain_app]
          congr 1
          · rw [hil, List.take_left]
          · have : il.drop A.length = C := by rw [hil, List.drop_left]
            rw [this]; rfl
        clear hil HPN
        have hp1 : p < wc.heap.size := HCS.out.cm.nod.lt
        have hp2 : w.heap.size < wc.heap.size := HCS.out.cm.ch.lt
        have hp3 : sb < wc.heap.size := HCS.out.st.lt
        go_upto_region 8 with fail
        go_region_law (go_simp; go_at_call 171; refine (HIN.out _ (heap_alloc_new wc.drew _) HO5.out).mono ?_; rintro r w6 ⟨vi', rfl, hq⟩; obtain ⟨va, vn, vcap, rfl⟩ := shape3 hq.o; have m6 := Mod.of_grown hq.g; have hn6 := m6.nod HN5.out HNE.out; have n0' := hn6.cells.1; have n1' := hn6.cells.2.1; have n2' := hn6.cells.2.2.1; have q0' := hn6.cells.2.2.2.1; have HQ := hid hq; have HN6 := hid hn6; have HM6 := hid (HM5.out.trans m6 (H := fun g => g = p ∨ vi.ownBlock = some g) (fun _ _ q => q) (fun k _ q => .inr q)); clear hq m6 hn6)
        all_goals
          have HFIN : Hid (∃ vo lo, ChgQ p vi vp vc w (Tr.putK (plain il) key.data.toList (some v)) vo lo (w6.setCell ⟨p, 0, none⟩ (Value.slice va vn vcap))) := by
            have hs5 : w.heap.size ≤ (wc.drew.alloc (.cells #[.string key, .string (stV (some v))] 51)).heap.size := HM5.out.size
            have hv' : (Value.slice va vn vcap).ownBlock ≠ some p := fun q => by
              rcases HQ.out.b with h | ⟨k, hk, h⟩
              · exact HNE.out (by rw [← h]; exact q)
              · rw [h] at q; have := Option.some.inj q; have := HPW.out; omega
            have m7 := Mod.setCell w6 p 0 (Value.slice va vn vcap)
            refine ⟨(Value.slice va vn vcap), _, ⟨HN6.out.seti (Value.slice va vn vcap), m7.row HQ.out.o (fun g' hg' q => hv' (by rw [← q]; exact hg')), HIE.out, HM6.out.trans m7 (fun _ _ q => q) (fun k _ q => .inl q), fun g' hg' => ?_⟩⟩
            rcases HQ.out.b with h | ⟨k, hk, h⟩
            · exact .inl (by rw [← h]; exact hg')
            · rw [h] at hg'; exact .inr (by have := Option.some.inj hg'; omega)
          clear HQ HN6 HM6
          go_wp2_with fail
          go_end0
          exact ⟨rfl, by rw [HSS.out]; exact HFIN.out⟩
      | none =>
        have HFIN : Hid (∃ vi' il', ChgQ p vi vp vc w (Tr.putK (plain il) key.data.toList none) vi' il' wc) := ⟨vi, il, HCS.out.cm.nod, HCS.out.cm.its, by rw [HPN.out]; show plain il = plain A ++ plain C; rw [← plain_app, ← hil], HMC.out, fun _ q => .inl q⟩
        clear hil HPN
        go_wp2_with fail
        go_end0
        exact ⟨rfl, by rw [HSS.out]; exact HFIN.out⟩
end Go.Proofs.YtolgpnaoaodepaaGreat
