/- The walks of package rules: IsChange, areChanges, isLeaf, isBranch, IsNode. -/
import Derived.Test.YtolgpnaoaodepaaWalkQ
namespace Go.Proofs.Ytolgpnaoaodepaa
open Go.RowKit

theorem empty_is (v : ByteArray) : v.toList.isEmpty = decide (v.size = 0) := by
  rw [toList_is]
  by_cases h : v.size = 0
  · rw [List.length_eq_zero_iff.1 (show v.data.toList.length = 0 by rw [len_size]; exact h), decide_eq_true h]; rfl
  · rw [decide_eq_false h, List.isEmpty_eq_false_iff]
    intro e; exact h (by rw [← len_size, e]; rfl)
set_option maxHeartbeats 1000000 in
set_option maxRecDepth 100000 in
theorem isChange_any (kd : Int) (k v : ByteArray) (w : World) :
    Calls Try.prog 73 #[.agg #[.int .i64 kd, .string k, .string v]] w fun r w' => r = .returned (.bool (Pg.isChange kd k.size v.size)) ∧ Below w.heap.size w w' := by
  have HB := hid ((Below.refl w.heap.size w).alloc (Nat.le_refl _) (.cells #[.int .i64 kd, .string k, .string v] 52))
  have CK : ∀ W, Calls Try.prog 71 #[.string k] W fun r w' => r = .returned (.bool (Pg.isKey k.size)) ∧ w' = W := fun W => isKey_any k W
  have CV : ∀ W, Calls Try.prog 72 #[.string v] W fun r w' => r = .returned (.bool (decide (v.size ≤ 16))) ∧ w' = W := fun W => isValue_any v W
  have HD : Hid (Pg.isChange kd k.size v.size = (Pg.isKey k.size && decide (v.size ≤ 16) && (decide (kd = 1) || decide (kd = 3) || (decide (kd = 2) && decide (v.size = 0))))) := rfl
  have HE := hid (empty_is v)
  generalize hkk : Pg.isKey k.size = kk at *
  clear hkk
  go_enter Try.func73, Try.ntmps73
  by_cases h13 : kd = 1 ∨ kd = 3
  · have HS : Hid (Pg.isChange kd k.size v.size = (kk && decide (v.size ≤ 16))) := by
      show _ = _; rw [HD.out]; rcases h13 with h | h <;> rw [h] <;> simp
    generalize hvv : decide (v.size ≤ 16) = vv at *
    clear hvv
    rcases h13 with h | h
    · subst h
      go_wp2_with fail
      refine (CK _).mono ?_
      rintro r w1 ⟨rfl, rfl⟩
      cases kk
      · go_wp2_with fail
        go_ret
        exact ⟨by rw [HS.out]; rfl, HB.out⟩
      · go_wp2_with fail
        refine (CV _).mono ?_
        rintro r w1 ⟨rfl, rfl⟩
        go_wp2_with fail
        go_ret
        exact ⟨by rw [HS.out]; rfl, HB.out⟩
    · subst h
      go_wp2_with fail
      refine (CK _).mono ?_
      rintro r w1 ⟨rfl, rfl⟩
      cases kk
      · go_wp2_with fail
        go_ret
        exact ⟨by rw [HS.out]; rfl, HB.out⟩
      · go_wp2_with fail
        refine (CV _).mono ?_
        rintro r w1 ⟨rfl, rfl⟩
        go_wp2_with fail
        go_ret
        exact ⟨by rw [HS.out]; rfl, HB.out⟩
  · have hn1 : ¬ kd = 1 := fun h => h13 (.inl h)
    have hn3 : ¬ kd = 3 := fun h => h13 (.inr h)
    clear h13
    have hb1 : (kd == 1) = false := by simpa using hn1
    have hb3 : (kd == 3) = false := by simpa using hn3
    by_cases h2 : kd = 2
    · have HS : Hid (Pg.isChange kd k.size v.size = (kk && decide (v.size = 0))) := by
        show _ = _; rw [HD.out, h2]
        by_cases h0 : v.size = 0
        · rw [h0]; cases kk <;> simp
        · rw [decide_eq_false h0]; simp
      subst h2
      go_wp2_with fail
      refine (CK _).mono ?_
      rintro r w1 ⟨rfl, rfl⟩
      cases kk
      · go_wp2_with fail
        go_ret
        exact ⟨by rw [HS.out]; rfl, HB.out⟩
      · go_wp2_with fail
        go_ret
        exact ⟨by rw [HS.out, ← HE.out]; rfl, HB.out⟩
    · have HS : Hid (Pg.isChange kd k.size v.size = false) := by
        show _ = _; rw [HD.out, decide_eq_false hn1, decide_eq_false hn3, decide_eq_false h2]; simp
      have hb2 : (kd == 2) = false := by simpa using h2
      go_wp2_with fail
      go_ret
      exact ⟨by rw [HS.out]; rfl, HB.out⟩

set_option maxHeartbeats 1000000 in
set_option maxRecDepth 100000 in
theorem areChanges_any (v : Value) (l : List (Int × ByteArray × ByteArray)) (w : World) (hv : IsChs w v l) :
    Calls Try.prog 53 #[v] w fun r w' => r = .returned (.bool (decide (l.length ≤ 8) && (plainCh l).all Pg.okChange)) ∧ Below w.heap.size w w' := by
  obtain ⟨va, vc, rfl, hl, hrow⟩ := hv
  have HV := hid hrow
  clear hrow
  go_enter Try.func53, Try.ntmps53
  by_cases h8 : 8 < l.length
  · go_wp2_with fail
    go_ret
    exact ⟨ret_bool (by rw [decide_eq_false (show ¬ l.length ≤ 8 by omega)]; rfl), Below.refl _ _⟩
  · have HR : Hid ((decide (l.length ≤ 8) && (plainCh l).all Pg.okChange) = (plainCh l).all Pg.okChange) := by
      show _ = _; rw [decide_eq_true (show l.length ≤ 8 by omega)]; rfl
    go_wp2_with fail
    go_loopw [10] (fun i wr => ∃ k : Nat, k ≤ l.length ∧ i = .int .i64 k ∧ (plainCh (l.drop k)).all Pg.okChange = (plainCh l).all Pg.okChange ∧ Below w.heap.size w wr) (fun i _ => l.length - (intOf i).toNat)
    case atStart => exact ⟨0, Nat.zero_le _, rfl, rfl, Below.refl _ _⟩
    case round =>
      obtain ⟨k, hk, rfl, heq, hbel⟩ := hrel
      have HEQ := hid heq
      have HBE := hid hbel
      have hszr := hbel.size
      clear heq hbel
      by_cases hkl : k < l.length
      · obtain ⟨b, off, hve, hbw, hcs⟩ := HV.out.resolve_left (by omega)
        subst hve
        obtain ⟨c0, c1, c2⟩ := hcs.below HBE.out hbw k hkl
        clear hcs
        have HNX : Hid (plainCh (l.drop k) = ((l[k]'hkl).1, (l[k]'hkl).2.1.data.toList, (l[k]'hkl).2.2.data.toList) :: plainCh (l.drop (k + 1))) := by
          show _ = _; rw [List.drop_eq_getElem_cons hkl]; rfl
        generalize l[k]'hkl = x at *
        obtain ⟨ck, kb, vb⟩ := x
        simp only at c0 c1 c2
        have HB2 := hid (HBE.out.alloc hszr (.cells #[.int .i64 ck, .string kb, .string vb] 52))
        have HOK : Hid (Pg.okChange (ck, kb.data.toList, vb.data.toList) = Pg.isChange ck kb.size vb.size) := by
          show _ = _; unfold Pg.okChange; simp only [len_size]
        rw [HNX.out, List.all_cons, HOK.out] at HEQ
        go_wp2_with fail
        refine (isChange_any ck kb vb _).mono ?_
        rintro r w1 ⟨rfl, hb1⟩
        have HB1 := hid (HB2.out.trans (hb1.mono (by simp; omega)))
        clear hb1
        generalize Pg.isChange ck kb.size vb.size = cc at *
        cases cc
        · have HF : Hid ((plainCh l).all Pg.okChange = false) := by
            show _ = _; rw [← HEQ.out]; rfl
          go_wp2_with fail
          go_ret
          exact ⟨by rw [HR.out, HF.out]; rfl, HB1.out⟩
        · have HG : Hid ((plainCh (l.drop (k + 1))).all Pg.okChange = (plainCh l).all Pg.okChange) := by
            show _ = _; rw [← HEQ.out]; rfl
          go_wp2_with fail
          go_roundw
          case rel => exact ⟨k + 1, by omega, by go_num, HG.out, HB1.out⟩
          case measure => simp [intOf]; omega
      · have HT : Hid ((plainCh l).all Pg.okChange = true) := by
          show _ = _; rw [← HEQ.out, List.drop_eq_nil_of_le (by omega)]; rfl
        go_wp2_with fail
        go_ret
        exact ⟨by rw [HR.out, HT.out]; rfl, HBE.out⟩

set_option maxHeartbeats 1000000 in
set_option maxRecDepth 100000 in
theorem isLeaf_any (kd : Int) (v1 : Value) (a2 a3 a4 : Option Addr) (n2 n3 n4 p2 p3 p4 : Nat) (l : List (ByteArray × ByteArray)) (w : World) (hv : IsItems w v1 l) (hl : l.length ≤ 1000000000) :
    Calls Try.prog 37 #[.agg #[.int .i64 kd, v1, .slice a2 n2 p2, .slice a3 n3 p3, .slice a4 n4 p4]] w fun r w' => r = .returned (.bool (Pg.okFrom none (plain l) && decide (l.length ≤ 16) && decide (n2 = 0) && decide (n3 = 0) && decide (n4 = 0))) ∧ Below w.heap.size w w' := by
  generalize hres : (Pg.okFrom none (plain l) && decide (l.length ≤ 16) && decide (n2 = 0) && decide (n3 = 0) && decide (n4 = 0)) = res
  have HRES := hid hres
  clear hres
  obtain ⟨a1, p1, rfl⟩ := hv.shape
  have HV := hid hv
  clear hv
  have HB0 := hid ((Below.refl w.heap.size w).alloc (Nat.le_refl _) (.cells #[.int .i64 kd, .slice a1 l.length p1, .slice a2 n2 p2, .slice a3 n3 p3, .slice a4 n4 p4] 34))
  have HV2 := hid (HV.out.below ((Below.refl w.heap.size w).alloc (Nat.le_refl _) (.cells #[.int .i64 kd, .slice a1 l.length p1, .slice a2 n2 p2, .slice a3 n3 p3, .slice a4 n4 p4] 34)))
  go_enter Try.func37, Try.ntmps37
  by_cases q2 : n2 = 0
  · by_cases q3 : n3 = 0
    · by_cases q4 : n4 = 0
      · subst q2 q3 q4
        by_cases h16 : l.length ≤ 16
        · have HR : Hid ((Pg.okFrom none (plain l) && decide (l.length ≤ 16) && decide (0 = 0) && decide (0 = 0) && decide (0 = 0)) = Pg.okFrom none (plain l)) := by
            show _ = _; rw [decide_eq_true h16]; simp
          go_wp2_with fail
          refine (areItems_any _ l _ HV2.out hl).mono ?_
          rintro r w1 ⟨rfl, hb1⟩
          have HB1 := hid (HB0.out.trans (hb1.mono (by simp)))
          clear hb1
          generalize Pg.okFrom none (plain l) = ok at *
          go_wp2_with fail
          go_ret
          exact ⟨by rw [← HRES.out, HR.out]; rfl, HB1.out⟩
        · go_wp2_with fail
          go_ret
          exact ⟨ret_bool (by rw [← HRES.out, decide_eq_false h16]; simp), HB0.out⟩
      · have h4' : 0 < n4 := by omega
        subst q2 q3
        go_wp2_with fail
        go_ret
        exact ⟨ret_bool (by rw [← HRES.out, decide_eq_false q4]; simp), HB0.out⟩
    · have h3' : 0 < n3 := by omega
      subst q2
      go_wp2_with fail
      go_ret
      exact ⟨ret_bool (by rw [← HRES.out, decide_eq_false q3]; simp), HB0.out⟩
  · have h2' : 0 < n2 := by omega
    go_wp2_with fail
    go_ret
    exact ⟨ret_bool (by rw [← HRES.out, decide_eq_false q2]; simp), HB0.out⟩

set_option maxHeartbeats 1000000 in
set_option maxRecDepth 100000 in
theorem isBranch_any (v : Value) (kd : Int) (il : List (ByteArray × ByteArray)) (cl : List Int) (pl : List ByteArray) (ml : List (Int × ByteArray × ByteArray)) (w : World) (hv : IsNode w v kd il cl pl ml) :
    Calls Try.prog 38 #[v] w fun r w' => r = .returned (.bool (Pg.okPivots (lists pl) none && cl.all Pg.okChild && (plainCh ml).all Pg.okChange && decide (il.length = 0) && decide (1 ≤ cl.length) && decide (cl.length ≤ 4) && decide (pl.length + 1 = cl.length) && decide (ml.length ≤ 8))) ∧ Below w.heap.size w w' := by
  generalize hres : (Pg.okPivots (lists pl) none && cl.all Pg.okChild && (plainCh ml).all Pg.okChange && decide (il.length = 0) && decide (1 ≤ cl.length) && decide (cl.length ≤ 4) && decide (pl.length + 1 = cl.length) && decide (ml.length ≤ 8)) = res
  have HRES := hid hres
  clear hres
  obtain ⟨v1, v2, v3, v4, rfl, h1, hil, h2, h3, h4⟩ := hv
  obtain ⟨a1, p1, rfl⟩ := h1.shape
  obtain ⟨a2, p2, rfl, hcl, -⟩ := id h2
  obtain ⟨a3, p3, rfl, hpl, -⟩ := id h3
  obtain ⟨a4, p4, rfl, hml, -⟩ := id h4
  have BA := (Below.refl w.heap.size w).alloc (Nat.le_refl _) (.cells #[.int .i64 kd, .slice a1 il.length p1, .slice a2 cl.length p2, .slice a3 pl.length p3, .slice a4 ml.length p4] 34)
  have HB0 := hid BA
  have H2 := hid (h2.below BA)
  have H3 := hid (h3.below BA)
  have H4 := hid (h4.below BA)
  have HN : Hid ((w.alloc (.cells #[.int .i64 kd, .slice a1 il.length p1, .slice a2 cl.length p2, .slice a3 pl.length p3, .slice a4 ml.length p4] 34)).heap[w.heap.size]? = some (.cells #[.int .i64 kd, .slice a1 il.length p1, .slice a2 cl.length p2, .slice a3 pl.length p3, .slice a4 ml.length p4] 34 (0, 0))) := heap_alloc_new _ _
  have hws : w.heap.size < (w.alloc (.cells #[.int .i64 kd, .slice a1 il.length p1, .slice a2 cl.length p2, .slice a3 pl.length p3, .slice a4 ml.length p4] 34)).heap.size := by simp
  clear BA h1 h2 h3 h4
  go_enter Try.func38, Try.ntmps38
  by_cases hi : 0 < il.length
  · go_wp2_with fail
    go_ret
    exact ⟨ret_bool (by rw [← HRES.out, decide_eq_false (show ¬ il.length = 0 by omega)]; simp), HB0.out⟩
  · have HR0 : Hid (decide (il.length = 0) = true) := by exact decide_eq_true (by omega)
    go_wp2_with fail
    generalize w.alloc (.cells #[.int .i64 kd, .slice a1 il.length p1, .slice a2 cl.length p2, .slice a3 pl.length p3, .slice a4 ml.length p4] 34) = w0 at *
    refine (areChildren_any _ cl _ H2.out).mono ?_
    rintro r w1 ⟨rfl, hb1⟩
    have HB1 := hid (HB0.out.trans (hb1.mono (by omega)))
    obtain ⟨m0, m1, m2, m3, m4⟩ := node_cells ((hb1.block w.heap.size (by omega)).trans HN.out)
    have H3' := hid (H3.out.below hb1)
    have H4' := hid (H4.out.below hb1)
    have hs1 := hb1.size
    have HN1 := hid ((hb1.block w.heap.size (by omega)).trans HN.out)
    clear hb1 H3 H4 HN
    have HC : Hid ((decide (1 ≤ cl.length) && decide (cl.length ≤ 4) && cl.all Pg.okChild) = (cl.all Pg.okChild && decide (1 ≤ cl.length) && decide (cl.length ≤ 4))) := by
      show _ = _; generalize cl.all Pg.okChild = x; generalize decide (1 ≤ cl.length) = y; generalize decide (cl.length ≤ 4) = z; cases x <;> cases y <;> cases z <;> rfl
    generalize hcc : (decide (1 ≤ cl.length) && decide (cl.length ≤ 4) && cl.all Pg.okChild) = cc at *
    have HS : Hid (res = (cc && decide (pl.length + 1 = cl.length) && Pg.okPivots (lists pl) none && (decide (ml.length ≤ 8) && (plainCh ml).all Pg.okChange))) := by
      show _ = _
      rw [← HRES.out, HC.out, HR0.out]
      generalize cl.all Pg.okChild = x; generalize decide (1 ≤ cl.length) = y; generalize decide (cl.length ≤ 4) = z; generalize Pg.okPivots (lists pl) none = p; generalize (plainCh ml).all Pg.okChange = q; generalize decide (pl.length + 1 = cl.length) = s; generalize decide (ml.length ≤ 8) = t
      cases x <;> cases y <;> cases z <;> cases p <;> cases q <;> cases s <;> cases t <;> rfl
    clear hcc HC
    cases cc
    · go_wp2_with fail
      go_ret
      exact ⟨by rw [HS.out]; rfl, HB1.out⟩
    · by_cases hq : pl.length + 1 = cl.length
      · have hq2 : ((pl.length : Int) == (cl.length : Int) - 1) = true := by simp; omega
        have HQ : Hid (decide (pl.length + 1 = cl.length) = true) := by exact decide_eq_true hq
        have hc1 : 1 ≤ cl.length := by omega
        clear hq
        go_wp2_with fail
        refine (areKeys_any _ pl _ H3'.out).mono ?_
        rintro r w2 ⟨rfl, hb2⟩
        have HB2 := hid (HB1.out.trans (hb2.mono (by omega)))
        have H4'' := hid (H4'.out.below hb2)
        clear m0 m1 m2 m3 m4
        obtain ⟨m0, m1, m2, m3, m4⟩ := node_cells ((hb2.block w.heap.size (by omega)).trans HN1.out)
        have hs2 := hb2.size
        clear hb2
        generalize Pg.okPivots (lists pl) none = pp at *
        cases pp
        · go_wp2_with fail
          go_ret
          exact ⟨by rw [HS.out, HQ.out]; rfl, HB2.out⟩
        · go_wp2_with fail
          refine (areChanges_any _ ml _ H4''.out).mono ?_
          rintro r w3 ⟨rfl, hb3⟩
          have HB3 := hid (HB2.out.trans (hb3.mono (by omega)))
          clear hb3
          generalize (decide (ml.length ≤ 8) && (plainCh ml).all Pg.okChange) = mm at *
          go_wp2_with fail
          go_ret
          exact ⟨by rw [HS.out, HQ.out]; rfl, HB3.out⟩
      · have hq2 : ((pl.length : Int) == (cl.length : Int) - 1) = false := by simp; omega
        have HQ : Hid (decide (pl.length + 1 = cl.length) = false) := by exact decide_eq_false hq
        go_wp2_with fail
        go_ret
        exact ⟨by rw [HS.out, HQ.out]; rfl, HB1.out⟩
theorem node_branch {il : List (ByteArray × ByteArray)} {cl : List Int} {pl : List ByteArray} {ml : List (Int × ByteArray × ByteArray)} (kd : Int) (h1 : kd ≠ 1) (x : Bool) (hx : (Pg.okPivots (lists pl) none && cl.all Pg.okChild && (plainCh ml).all Pg.okChange && decide (il.length = 0) && decide (1 ≤ cl.length) && decide (cl.length ≤ 4) && decide (pl.length + 1 = cl.length) && decide (ml.length ≤ 8)) = x) : Pg.well kd (plain il) cl (lists pl) (plainCh ml) = (decide (kd = 2) && x) := by
  unfold Pg.well
  rw [if_neg h1, ← hx]
  simp only [plain, lists, plainCh, List.length_map]
  generalize cl.all Pg.okChild = x; generalize decide (1 ≤ cl.length) = y; generalize decide (cl.length ≤ 4) = z; generalize Pg.okPivots _ none = p; generalize (List.all _ Pg.okChange) = q; generalize decide (pl.length + 1 = cl.length) = s; generalize decide (ml.length ≤ 8) = t; generalize decide (il.length = 0) = u; generalize decide (kd = 2) = k
  cases x <;> cases y <;> cases z <;> cases p <;> cases q <;> cases s <;> cases t <;> cases u <;> cases k <;> rfl
set_option maxHeartbeats 1000000 in
set_option maxRecDepth 100000 in
theorem isNode_any (v : Value) (kd : Int) (il : List (ByteArray × ByteArray)) (cl : List Int) (pl : List ByteArray) (ml : List (Int × ByteArray × ByteArray)) (w : World) (hv : IsNode w v kd il cl pl ml) :
    Calls Try.prog 24 #[v] w fun r w' => r = .returned (.bool (Pg.well kd (plain il) cl (lists pl) (plainCh ml))) ∧ Below w.heap.size w w' := by
  have HW := hid hv
  generalize hres : Pg.well kd (plain il) cl (lists pl) (plainCh ml) = res
  have HRES := hid hres
  clear hres
  obtain ⟨v1, v2, v3, v4, rfl, h1, hil, h2, h3, h4⟩ := hv
  obtain ⟨a1, p1, rfl⟩ := h1.shape
  obtain ⟨a2, p2, rfl, hcl, -⟩ := id h2
  obtain ⟨a3, p3, rfl, hpl, -⟩ := id h3
  obtain ⟨a4, p4, rfl, hml, -⟩ := id h4
  have BA := (Below.refl w.heap.size w).alloc (Nat.le_refl _) (.cells #[.int .i64 kd, .slice a1 il.length p1, .slice a2 cl.length p2, .slice a3 pl.length p3, .slice a4 ml.length p4] 34)
  have HB0 := hid BA
  have H1 := hid (h1.below BA)
  have HW2 := hid (HW.out.below BA)
  clear BA h1 h2 h3 h4
  go_enter Try.func24, Try.ntmps24
  by_cases hk1 : kd = 1
  · have HR : Hid (res = (Pg.okFrom none (plain il) && decide (il.length ≤ 16) && decide (cl.length = 0) && decide (pl.length = 0) && decide (ml.length = 0))) := by
      show _ = _; rw [← HRES.out]; unfold Pg.well; rw [if_pos hk1]; simp only [plain, lists, plainCh, List.length_map]
    have hb : (kd == 1) = true := by simpa using hk1
    clear hk1
    go_wp2_with fail
    refine (isLeaf_any kd _ a2 a3 a4 cl.length pl.length ml.length p2 p3 p4 il _ H1.out hil).mono ?_
    rintro r w1 ⟨rfl, hb1⟩
    have HB1 := hid (HB0.out.trans (hb1.mono (by simp)))
    clear hb1
    rw [← HR.out]
    go_wp2_with fail
    go_ret
    exact ⟨rfl, HB1.out⟩
  · have hb : (kd == 1) = false := by simpa using hk1
    by_cases hk2 : kd = 2
    · have hb2 : (kd == 2) = true := by simpa using hk2
      have HK2 := hid (decide_eq_true hk2)
      have HK1 := hid hk1
      clear hk1 hk2
      go_wp2_with fail
      refine (isBranch_any _ kd il cl pl ml _ HW2.out).mono ?_
      rintro r w1 ⟨rfl, hb1⟩
      have HB1 := hid (HB0.out.trans (hb1.mono (by simp)))
      clear hb1
      generalize hx : (Pg.okPivots (lists pl) none && cl.all Pg.okChild && (plainCh ml).all Pg.okChange && decide (il.length = 0) && decide (1 ≤ cl.length) && decide (cl.length ≤ 4) && decide (pl.length + 1 = cl.length) && decide (ml.length ≤ 8)) = x
      have HX : Hid (res = x) := by
        show _ = _; rw [← HRES.out, node_branch kd HK1.out x hx, HK2.out]; rfl
      clear hx
      go_wp2_with fail
      go_ret
      exact ⟨by rw [HX.out]; rfl, HB1.out⟩
    · have hb2 : (kd == 2) = false := by simpa using hk2
      have HX : Hid (res = false) := by
        show _ = _; rw [← HRES.out, node_branch kd hk1 _ rfl, decide_eq_false hk2]; rfl
      clear hk1 hk2
      go_wp2_with fail
      go_ret
      exact ⟨by rw [HX.out]; rfl, HB0.out⟩
end Go.Proofs.Ytolgpnaoaodepaa
