/- Plain mathematics: what the reference reads of a page is what the program reads. -/
import Derived.Test.YtolgpnaoaodepaaGreatMathUm
import Derived.Test.YtolgpnaoaodepaaGreatLawUm
import Derived.Laws.AppendOwnNone
namespace Go.Proofs.YtolgpnaoaodepaaGreat.Pr
open Pg
theorem well_leaf {n : NodeT} (h : wellT n = true) (hk : n.1 = 1) : ∃ l, n = (1, l, [], [], []) ∧ Fine l ∧ l.length ≤ 16 := by
  obtain ⟨kd, il, cl, pl, ml⟩ := n
  simp only at hk
  subst hk
  unfold wellT well at h
  simp only at h
  rw [if_pos trivial] at h
  simp only [Bool.and_eq_true, decide_eq_true_eq, List.length_map] at h
  obtain ⟨⟨⟨⟨h1, h2⟩, h3⟩, h4⟩, h5⟩ := h
  rw [List.length_eq_zero_iff.1 h3, List.length_eq_zero_iff.1 h4, List.length_eq_zero_iff.1 h5]
  exact ⟨il, rfl, (ok_fine il).1 h1, h2⟩
theorem well_branch {n : NodeT} (h : wellT n = true) (hk : n.1 ≠ 1) : ∃ cl pl ml, n = (2, [], cl, pl, ml) ∧ (∀ c ∈ cl, c ≤ 2147483647) ∧ (∀ p ∈ pl, p.length ≤ 12) ∧ (∀ c ∈ ml, okChange c = true) ∧ cl.length ≤ 4 ∧ pl.length + 1 = cl.length ∧ ml.length ≤ 8 := by
  obtain ⟨kd, il, cl, pl, ml⟩ := n
  simp only at hk
  unfold wellT well at h
  simp only at h
  rw [if_neg hk] at h
  simp only [Bool.and_eq_true, decide_eq_true_eq, List.length_map] at h
  obtain ⟨⟨⟨⟨⟨⟨⟨⟨h1, h2⟩, h3⟩, h4⟩, h5⟩, h6⟩, h7⟩, h8⟩, h9⟩ := h
  subst h4
  rw [List.length_eq_zero_iff.1 h5]
  refine ⟨cl, pl, ml, rfl, fun c hc => ?_, okPivots_sz _ _ h1, fun c hc => List.all_eq_true.1 h3 c hc, h7, h8, h9⟩
  have := List.all_eq_true.1 h2 (Int.ofNat c) (List.mem_map.2 ⟨c, hc, rfl⟩)
  simp only [okChild, Bool.and_eq_true, decide_eq_true_eq] at this
  have := this.2
  simp only [Int.ofNat_eq_natCast] at this
  omega
theorem page_leaf (l : Its) : pageT (1, l, [], [], []) = leaf l := rfl
theorem page_branch (cl : List Nat) (pl : List (List UInt8)) (ml : List (Int × List UInt8 × List UInt8)) : pageT (2, [], cl, pl, ml) = branch cl pl ml := by
  show page 2 [] (cl.map Int.ofNat) pl ml = _
  unfold page
  have hm : (cl.map Int.ofNat).map Int.toNat = cl := by rw [List.map_map]; exact List.map_id' _ |>.trans rfl
  rw [if_pos rfl, hm]
theorem leaf_take (l : Its) : (leaf l).take 3 = [83, 50, 76] := by unfold leaf sealed; simp
theorem branch_take (cl : List Nat) (pl : List (List UInt8)) (ml : List (Int × List UInt8 × List UInt8)) : (branch cl pl ml).take 3 = [83, 50, 73] := by unfold branch sealed; simp
theorem read_leaf {t : List UInt8} {n : NodeT} (h : readR t = some n) (h3 : t.take 3 = [83, 50, 76]) : ∃ l, n = (1, l, [], [], []) ∧ Fine l ∧ l.length ≤ 16 ∧ t = leaf l := by
  obtain ⟨h1, h2⟩ := readR_is h
  by_cases hk : n.1 = 1
  · obtain ⟨l, rfl, hf, hl⟩ := well_leaf h1 hk
    exact ⟨l, rfl, hf, hl, h2.symm⟩
  · obtain ⟨cl, pl, ml, rfl, -⟩ := well_branch h1 hk
    rw [page_branch] at h2
    rw [← h2, branch_take] at h3
    simp at h3
theorem read_branch {t : List UInt8} {n : NodeT} (h : readR t = some n) (h3 : t.take 3 ≠ [83, 50, 76]) : ∃ cl pl ml, n = (2, [], cl, pl, ml) ∧ refBranch t = ((cl, pl, ml), true) := by
  obtain ⟨h1, h2⟩ := readR_is h
  by_cases hk : n.1 = 1
  · obtain ⟨l, rfl, hf, hl⟩ := well_leaf h1 hk
    rw [page_leaf] at h2
    rw [← h2, leaf_take] at h3
    exact absurd rfl h3
  · obtain ⟨cl, pl, ml, rfl, a1, a2, a3, a4, a5, a6⟩ := well_branch h1 hk
    rw [page_branch] at h2
    exact ⟨cl, pl, ml, rfl, by rw [← h2]; exact refBranch_is cl pl ml a1 a2 a3 a4 a5 a6⟩
theorem header_leaf {l : Its} (h : Fine l) (h16 : l.length ≤ 16) : header (leaf l) = some (firsts (parts l), secs (parts l)) := by
  refine (header_iff _ _ _).2 ⟨headR_leaf h h16, ?_⟩
  exact cutR_leaf h h16
theorem bas_get {ps : List Its} (h : Parts ps) (j : Nat) (hj : j < ps.length) : basementR (firsts ps) j (sec1 (ps[j]'hj)) = some (ps[j]'hj) := by
  have e : ps = ps.take j ++ ps[j] :: ps.drop (j + 1) := by rw [List.getElem_cons_drop, List.take_append_drop]
  have := bas_at (ps.take j) ps[j] (ps.drop (j + 1)) (by rw [← e]; exact h)
  rw [← e, List.length_take, Nat.min_eq_left (by omega)] at this
  exact this
/-- While a leaf's basements are read: if there is a leaf of which this is the page, all is as it should be. -/
def LfCan (t : List UInt8) (j : Nat) (b : Bool) (il : Its) : Prop := ∀ n, readR t = some n → b = true ∧ ∃ l, n = (1, l, [], [], []) ∧ header t = some (firsts (parts l), secs (parts l)) ∧ Parts (parts l) ∧ (parts l).flatten = l ∧ il = ((parts l).take j).flatten
theorem parts_whole (l : Its) : (parts l).flatten = l := parts_flat _ _ (by unfold many; omega)
theorem lf_start {t : List UInt8} (h3 : t.take 3 = [83, 50, 76]) : LfCan t 0 true [] := by
  intro n h
  obtain ⟨l, rfl, hf, h16, rfl⟩ := read_leaf h h3
  exact ⟨rfl, l, rfl, header_leaf hf h16, parts_fine hf, parts_whole l, by simp⟩
theorem lf_none {t : List UInt8} (h3 : t.take 3 = [83, 50, 76]) (hn : header t = none) : readR t = none := by
  cases h : readR t with
  | none => rfl
  | some n =>
    obtain ⟨-, l, -, hh, -⟩ := lf_start h3 n h
    rw [hn] at hh; simp at hh
theorem lf_next {t : List UInt8} {j : Nat} {b b' : Bool} {il x : Its} {ks ss : List (List UInt8)} (h : LfCan t j b il) (hh : header t = some (ks, ss)) (hj : j < ss.length) (hy : b' = true → basementR ks j (ss[j]'hj) = some x) (hn : b' = false → basementR ks j (ss[j]'hj) = none) : LfCan t (j + 1) b' (il ++ x) := by
  intro n h0
  obtain ⟨-, l, rfl, h1, h2, h3, h4⟩ := h n h0
  rw [hh] at h1
  simp only [Option.some.injEq, Prod.mk.injEq] at h1
  obtain ⟨rfl, rfl⟩ := h1
  have hj' : j < (parts l).length := by simpa [secs] using hj
  have hb := bas_get h2 j hj'
  have e : (secs (parts l))[j]'hj = sec1 ((parts l)[j]'hj') := by simp [secs]
  rw [e] at hy hn
  cases b' with
  | false => rw [hn rfl] at hb; simp at hb
  | true =>
    have := hy rfl
    rw [hb] at this
    simp only [Option.some.injEq] at this
    refine ⟨rfl, l, rfl, hh, h2, h3, ?_⟩
    rw [h4, List.take_add_one, List.getElem?_eq_getElem hj', ← this]
    simp only [Option.toList_some, List.flatten_append, List.flatten_cons, List.flatten_nil, List.append_nil]
theorem lf_end {t : List UInt8} {j : Nat} {b : Bool} {il : Its} {ks ss : List (List UInt8)} (h : LfCan t j b il) (hh : header t = some (ks, ss)) (hj : b = true → ss.length ≤ j) : ∀ n, readR t = some n → b = true ∧ n = (1, il, [], [], []) := by
  intro n h0
  obtain ⟨hb, l, rfl, h1, h2, h3, h4⟩ := h n h0
  rw [hh] at h1
  simp only [Option.some.injEq, Prod.mk.injEq] at h1
  obtain ⟨rfl, rfl⟩ := h1
  have : (parts l).length ≤ j := by have := hj hb; simpa [secs] using this
  rw [h4, List.take_of_length_le this, h3]
  exact ⟨hb, rfl⟩
end Go.Proofs.YtolgpnaoaodepaaGreat.Pr
/- The walk of the reference's Read. -/
namespace Go.Proofs.YtolgpnaoaodepaaGreat
open Go.RowKit

/-- Behind the first half of Read: a node lies in its variable; if there is one of which this is the page, it is that. -/
structure RdMid (w wx : World) (t : List UInt8) (b : Bool) (kd : Int) (il : List (ByteArray × ByteArray)) (cl : List Nat) (pl : List ByteArray) (ml : List (Int × ByteArray × ByteArray)) (vi vc vp vm : Value) : Prop where
  res : ResF w wx
  none_ : NodeB wx (w.heap.size + 1) (.int .i64 0) (.slice none 0 0) (.slice none 0 0) (.slice none 0 0) (.slice none 0 0)
  var : NodeB wx (w.heap.size + 2) (.int .i64 kd) vi vc vp vm
  val : NodeV (w.heap.size + 3) wx (.agg #[.int .i64 kd, vi, vc, vp, vm]) kd il cl pl ml
  can : ∀ n, Pr.readR t = some n → b = true ∧ n = (kd, plain il, cl, lists pl, plainCh ml)
theorem RdMid.below {w wx wy : World} {t : List UInt8} {b : Bool} {kd : Int} {il : List (ByteArray × ByteArray)} {cl : List Nat} {pl : List ByteArray} {ml : List (Int × ByteArray × ByteArray)} {vi vc vp vm : Value} (h : RdMid w wx t b kd il cl pl ml vi vc vp vm) (hb : Below wx.heap.size wx wy) : RdMid w wy t b kd il cl pl ml vi vc vp vm :=
  ⟨h.res.below hb, h.none_.keep hb, h.var.keep hb, h.val.below hb, h.can⟩
theorem put_other {w : World} {b c : Nat} {v0 v1 v2 v3 v4 : Value} (h : NodeB w c v0 v1 v2 v3 v4) (hne : c ≠ b) (u0 u1 u2 u3 u4 : Value) : NodeB (put5 w b u0 u1 u2 u3 u4) c v0 v1 v2 v3 v4 :=
  ((((h.but (but_set b 0 w u0) hne).but (but_set b 1 _ u1) hne).but (but_set b 2 _ u2) hne).but (but_set b 3 _ u3) hne).but (but_set b 4 _ u4) hne
theorem owns_node {B nb : Nat} {w : World} {v v0 v1 v2 v3 v4 : Value} {l : List ByteArray} (h : OwnsS B w v l) (hn : NodeB w nb v0 v1 v2 v3 v4) : v.ownBlock ≠ some nb := by
  rcases h.2 with ⟨rfl, -⟩ | ⟨g, cap, cur, rfl, hbg, hg, -⟩
  · simp [Value.ownBlock]
  · intro e
    have : g = nb := by simpa [Value.ownBlock] using e
    subst this
    unfold NodeB at hn
    rw [hn] at hg
    simp at hg
theorem row_low {B C : Nat} {w w' : World} {v : Value} {l : List ByteArray} (h : OwnsS B w v l) (hb : Below C w w') (hC : ∀ k, v.ownBlock = some k → k < C) : OwnsS B w' v l := by
  refine ⟨h.1, ?_⟩
  rcases h.2 with hn | ⟨g, cap, cur, rfl, hbg, hg, r⟩
  · exact .inl hn
  · exact .inr ⟨g, cap, cur, rfl, hbg, (hb.block g (hC g (by simp [Value.ownBlock]))).trans hg, r⟩
theorem src_of {B : Nat} {w : World} {v : Value} {l : List (ByteArray × ByteArray)} (h : OwnsI B w v l) : (v = .slice none 0 0 ∧ l = []) ∨ ∃ ad cap, v = .slice (some ad) l.length cap ∧ ∀ j u, (icells l)[j]? = some u → w.cell? (ad.add j) = some u := by
  rcases h.2 with ⟨rfl, hn⟩ | ⟨g, cap, cur, rfl, hbg, hg, r⟩
  · exact .inl ⟨rfl, List.length_eq_zero_iff.1 hn⟩
  · exact .inr ⟨⟨g, 0, none⟩, cap, rfl, World.ownsRow.cells h rfl⟩
/-- append(v, x...), x a row of items, or nil; where the new row lies is told. -/
theorem wpApI2 (w : World) {ops : Array Oper} {rest : List Oper} {o : Oper} {a : Act} {Q : Exit → Act → World → Prop} (hgd : o.guard = none) (sl x : Operand)
    (ho : o.op = Op.call { callee := Callee.builtin Builtin.append, args := #[sl, x], argTypes := #[30, 30] }) (B : Nat) (v : Value) (l : List (ByteArray × ByteArray)) (hs : a.eval sl = v) (hown : OwnsI B w v l)
    (xv : Value) (xl : List (ByteArray × ByteArray)) (hx : a.eval x = xv) (hsrc : (xv = .slice none 0 0 ∧ xl = []) ∨ ∃ ad cap, xv = .slice (some ad) xl.length cap ∧ ∀ j u, (icells xl)[j]? = some u → w.cell? (ad.add j) = some u) (hb : l.length + xl.length ≤ 1000000000) (hB : B ≤ w.heap.size)
    (h : ∀ (v' : Value) (w' : World), OwnsI B w' v' (l ++ xl) → w.grownBy w' v.ownBlock → (v'.ownBlock = v.ownBlock ∨ ∃ k, w.heap.size ≤ k ∧ v'.ownBlock = some k) → wpList Tryz.prog ops Q rest (a.put o.dst v') w') : wpList Tryz.prog ops Q (o :: rest) a w := by
  obtain ⟨i, hi, hz0, hz1, hz2⟩ := info_parts info_item
  rcases hsrc with ⟨rfl, rfl⟩ | ⟨ad, cap, rfl, hc⟩
  · refine wpList_append_own_none hgd sl x 30 ho B 51 i 2 Tryz.underlying30 hi v l.length (icells l) hs hown hx ?_
    exact h v w (by rw [List.append_nil]; exact hown) ⟨rfl, rfl, rfl, Nat.le_refl _, fun _ _ _ => rfl⟩ (.inl rfl)
  · refine wpList_append_own_at w hgd sl x 30 ho B 51 i (.agg #[.string ⟨#[]⟩, .string ⟨#[]⟩]) 2 32 Tryz.underlying30 hi hz0 hz1 hz2 rfl (by decide) v l.length (icells l) hs hown ad xl.length cap (icells xl) hx (icells_len xl) hc (icells_one xl) (by unfold maxLen; omega) (by omega) hB ?_
    intro v' w' ho' hg _ hat
    refine h v' w' ?_ hg (hat.imp_right fun e => ⟨w.heap.size, Nat.le_refl _, e⟩)
    unfold OwnsI
    rw [List.length_append, icells_app]
    exact ho'
theorem readQ_none {w wx : World} {t : List UInt8} (h : ResF w wx) (hn : Pr.readR t = none) : ReadQ w (Pr.readR t) (.returned (.tuple #[.agg #[.int .i64 0, .slice none 0 0, .slice none 0 0, .slice none 0 0, .slice none 0 0], .int .i64 2])) (put5 wx w.heap.size (.int .i64 0) (.slice none 0 0) (.slice none 0 0) (.slice none 0 0) (.slice none 0 0)) :=
  ⟨below_put h.2 (Nat.le_refl _) _ _ _ _ _, .inl ⟨hn, rfl⟩⟩
theorem start3 (w : World) : ResF w (((w.alloc (.cells #[.int .i64 0, .slice none 0 0, .slice none 0 0, .slice none 0 0, .slice none 0 0] 79)).alloc (.cells #[.int .i64 0, .slice none 0 0, .slice none 0 0, .slice none 0 0, .slice none 0 0] 79)).alloc (.cells #[.int .i64 0, .slice none 0 0, .slice none 0 0, .slice none 0 0, .slice none 0 0] 79)) ∧
    NodeB (((w.alloc (.cells #[.int .i64 0, .slice none 0 0, .slice none 0 0, .slice none 0 0, .slice none 0 0] 79)).alloc (.cells #[.int .i64 0, .slice none 0 0, .slice none 0 0, .slice none 0 0, .slice none 0 0] 79)).alloc (.cells #[.int .i64 0, .slice none 0 0, .slice none 0 0, .slice none 0 0, .slice none 0 0] 79)) (w.heap.size + 1) (.int .i64 0) (.slice none 0 0) (.slice none 0 0) (.slice none 0 0) (.slice none 0 0) ∧
    NodeB (((w.alloc (.cells #[.int .i64 0, .slice none 0 0, .slice none 0 0, .slice none 0 0, .slice none 0 0] 79)).alloc (.cells #[.int .i64 0, .slice none 0 0, .slice none 0 0, .slice none 0 0, .slice none 0 0] 79)).alloc (.cells #[.int .i64 0, .slice none 0 0, .slice none 0 0, .slice none 0 0, .slice none 0 0] 79)) (w.heap.size + 2) (.int .i64 0) (.slice none 0 0) (.slice none 0 0) (.slice none 0 0) (.slice none 0 0) := by
  generalize hO : (Obj.cells #[.int .i64 0, .slice none 0 0, .slice none 0 0, .slice none 0 0, .slice none 0 0] 79) = O
  have key : ∀ W : World, NodeB (W.alloc O) W.heap.size (.int .i64 0) (.slice none 0 0) (.slice none 0 0) (.slice none 0 0) (.slice none 0 0) := fun W => by rw [← hO]; exact nodeB_new W _ _ _ _ _
  have s1 : (w.alloc O).heap.size = w.heap.size + 1 := by simp
  have s2 : ((w.alloc O).alloc O).heap.size = w.heap.size + 2 := by simp
  have k1 := key (w.alloc O)
  have k2 := key ((w.alloc O).alloc O)
  rw [s1] at k1
  rw [s2] at k2
  exact ⟨⟨((key w).keep ((Below.refl _ _).alloc (Nat.le_refl _) _)).keep ((Below.refl _ _).alloc (Nat.le_refl _) _), (((Below.refl _ w).alloc (Nat.le_refl _) _).alloc (by simp) _).alloc (by simp; omega) _⟩, k1.keep ((Below.refl _ _).alloc (Nat.le_refl _) _), k2⟩

set_option maxHeartbeats 1000000 in
set_option maxRecDepth 100000 in
theorem refRead_any (s : ByteArray) (w : World) (hs : s.size ≤ 10000000) :
    Calls Tryz.prog 100 #[.string s] w fun r w' => ReadQ w (Pr.readR s.data.toList) r w' := by
  obtain ⟨hr0, hn0, hv0⟩ := start3 w
  have HR0 := hid hr0
  have HN0 := hid hn0
  have HV0 := hid hv0
  have hz0 : w.heap.size + 3 ≤ (((w.alloc (.cells #[.int .i64 0, .slice none 0 0, .slice none 0 0, .slice none 0 0, .slice none 0 0] 79)).alloc (.cells #[.int .i64 0, .slice none 0 0, .slice none 0 0, .slice none 0 0, .slice none 0 0] 79)).alloc (.cells #[.int .i64 0, .slice none 0 0, .slice none 0 0, .slice none 0 0, .slice none 0 0] 79)).heap.size := by simp
  clear hr0 hn0 hv0
  go_enter Tryz.func100, Tryz.ntmps100
  go_upto_region 4 with fail
  generalize ((w.alloc (.cells #[.int .i64 0, .slice none 0 0, .slice none 0 0, .slice none 0 0, .slice none 0 0] 79)).alloc (.cells #[.int .i64 0, .slice none 0 0, .slice none 0 0, .slice none 0 0, .slice none 0 0] 79)).alloc (.cells #[.int .i64 0, .slice none 0 0, .slice none 0 0, .slice none 0 0, .slice none 0 0] 79) = w0 at *
  rw [show w.heap.size + 1 + 1 = w.heap.size + 2 from rfl]
  go_cut [22] (fun c wx => c = .bool (decide (s.data.toList.take 3 = [83, 50, 76])) ∧ wx = w0)
  case first =>
    by_cases h3 : 3 ≤ s.size
    · have hi : (3 : Int) ≤ (s.size : Int) := by omega
      have HX : Hid ((s.extract 0 3).data.toList = s.data.toList.take 3) := by show _ = _; rw [Lib.extract_data]; rfl
      by_cases hp : s.data.toList.take 3 = [83, 50, 76]
      · have hx : s.extract 0 3 = ⟨#[83, 50, 76]⟩ := bytes_ext (by rw [HX.out, hp])
        have HD := hid (decide_eq_true hp)
        clear hp
        go_wp2_with fail
        go_meet
        exact ⟨by rw [HD.out], rfl⟩
      · have hne : ((s.extract 0 3).toList == (⟨#[83, 50, 76]⟩ : ByteArray).toList) = false := by rw [toList_is, toList_is, HX.out]; simpa using hp
        have hne2 : ¬ s.extract 0 3 = ⟨#[83, 50, 76]⟩ := fun e => hp (by rw [← HX.out, e])
        have hne3 : ((s.extract 0 3).toList == [83, 50, 76]) = false := by rw [toList_is, HX.out]; simpa using hp
        have HD := hid (decide_eq_false hp)
        clear hp
        go_wp2_with fail
        go_meet
        exact ⟨by rw [HD.out], rfl⟩
    · have hi : ¬ (3 : Int) ≤ (s.size : Int) := by omega
      have hp : ¬ s.data.toList.take 3 = [83, 50, 76] := fun e => by have := congrArg List.length e; rw [List.length_take, len_size] at this; simp at this; omega
      have HD := hid (decide_eq_false hp)
      clear hp
      go_wp2_with fail
      go_meet
      exact ⟨by rw [HD.out], rfl⟩
  case rest =>
    obtain ⟨rfl, rfl⟩ := hcut
    go_upto_if 22 with fail
    go_cut [6] (fun c wx => ∃ b kd il cl pl ml vi vc vp vm, c = .bool b ∧ RdMid w wx s.data.toList b kd il cl pl ml vi vc vp vm)
    case first =>
      by_cases hp : s.data.toList.take 3 = [83, 50, 76]
      · rw [decide_eq_true hp]
        have HP := hid hp
        clear hp
        go_wp2_with fail
        refine (header_any s wc (by omega)).mono ?_
        rintro r w1 ⟨hb1, ⟨hn, a1, n1, c1, a2, n2, c2, rfl⟩ | ⟨ks, ss, vk, vs, B, hh, rfl, hk, hss⟩⟩
        · have HRN := hid (Pr.lf_none HP.out hn)
          have BA := hb1.alloc hb1.size (.cells #[.slice a1 n1 c1, .slice a2 n2 c2] 205)
          have HR1 := hid (HR0.out.below BA)
          have HN1 := hid (HN0.out.keep BA)
          have HV1 := hid (HV0.out.keep BA)
          have HMID : Hid (RdMid w ((w1.alloc (.cells #[.slice a1 n1 c1, .slice a2 n2 c2] 205)).setCell ⟨w.heap.size + 2, 0, none⟩ (.int .i64 1)) s.data.toList false 1 [] [] [] [] (.slice none 0 0) (.slice none 0 0) (.slice none 0 0) (.slice none 0 0)) := by
            refine ⟨HR1.out.but (but_set (w.heap.size + 2) 0 _ (.int .i64 1)) (by omega), HN1.out.but (but_set (w.heap.size + 2) 0 _ (.int .i64 1)) (by omega), HV1.out.set0 _, ⟨_, _, _, _, rfl, World.ownsRow_nil _ _ _ _, World.ownsRow_nil _ _ _ _, World.ownsRow_nil _ _ _ _, World.ownsRow_nil _ _ _ _, by simp, by simp, by simp, by simp⟩, fun n h => ?_⟩
            rw [HRN.out] at h; simp at h
          obtain ⟨x0, x1, x2, x3, x4, y0, y1, y2, y3, y4⟩ := HV1.out.cells
          clear hb1 hn BA
          go_wp2_with fail
          generalize (w1.alloc (.cells #[.slice a1 n1 c1, .slice a2 n2 c2] 205)).setCell ⟨w.heap.size + 2, 0, none⟩ (.int .i64 1) = w2 at *
          go_loopw [6, 9] (fun ok i wr => ok = .bool false ∧ i = .int .i64 0 ∧ wr = w2) (fun _ _ _ => 0)
          case atStart => exact ⟨rfl, rfl, rfl⟩
          case round =>
            obtain ⟨rfl, rfl, rfl⟩ := hrel
            go_wp2_with fail
            go_meet
            exact ⟨_, _, _, _, _, _, _, _, _, _, rfl, HMID.out⟩
        · obtain ⟨hl1, hl4, hlz⟩ := header_lens hh
          have hlk : (lists ks).length = ks.length := by simp [lists]
          have hls : (lists ss).length = ss.length := by simp [lists]
          have HLZ : Hid (∀ x ∈ ss, x.size ≤ 1000000) := fun x hx => by have := hlz x.data.toList (by unfold lists; exact List.mem_map.2 ⟨x, hx, rfl⟩); rw [len_size] at this; omega
          have HKL : Hid (ks.length = ss.length) := by show _ = _; omega
          have hk4 : ks.length ≤ 4 := by omega
          have hs4 : ss.length ≤ 4 := by omega
          have HH := hid hh
          obtain ⟨ka, kc, rfl⟩ := hk.shape
          obtain ⟨sa, sc, rfl⟩ := hss.shape
          have BA := (Below.refl w1.heap.size w1).alloc (Nat.le_refl _) (.cells #[.slice ka ks.length kc, .slice sa ss.length sc] 205)
          have BB := hb1.trans (BA.mono hb1.size)
          have HR1 := hid (HR0.out.below BB)
          have HN1 := hid (HN0.out.keep BB)
          have HV1 := hid (HV0.out.keep BB)
          have HK1 := hid (hk.below BA (Nat.le_refl _))
          have HS1 := hid (hss.below BA (Nat.le_refl _))
          have HD1 : Hid ((w1.alloc (.cells #[.slice ka ks.length kc, .slice sa ss.length sc] 205)).heap[w1.heap.size]? = some (.cells #[.slice ka ks.length kc, .slice sa ss.length sc] 205 (0, 0))) := heap_alloc_new _ _
          have hz1 : w1.heap.size < (w1.alloc (.cells #[.slice ka ks.length kc, .slice sa ss.length sc] 205)).heap.size := by simp
          have hz2 := hb1.size
          have hkn := owns_node HK1.out HV1.out
          have hsn := owns_node HS1.out HV1.out
          have HKB : Hid (∀ k, (Value.slice ka ks.length kc).ownBlock = some k → k < w1.heap.size) := fun k e => (World.ownsRow.lt hk k e).2
          have HSB : Hid (∀ k, (Value.slice sa ss.length sc).ownBlock = some k → k < w1.heap.size) := fun k e => (World.ownsRow.lt hss k e).2
          obtain ⟨x0, x1, x2, x3, x4, y0, y1, y2, y3, y4⟩ := HV1.out.cells
          clear hb1 hh hk hss hl1 hl4 hlz BA BB hlk hls
          go_wp2_with fail
          generalize w1.alloc (.cells #[.slice ka ks.length kc, .slice sa ss.length sc] 205) = w2 at *
          have BU := but_set (w.heap.size + 2) 0 w2 (.int .i64 1)
          have HR2 := hid (HR1.out.but BU (by omega))
          have HN2 := hid (HN1.out.but BU (by omega))
          have HV2 := hid (HV1.out.set0 (.int .i64 1))
          have HK2 : Hid (OwnsS B (w2.setCell ⟨w.heap.size + 2, 0, none⟩ (.int .i64 1)) (.slice ka ks.length kc) ks) := World.ownsRow.kept HK1.out BU (.inr hkn)
          have HS2 : Hid (OwnsS B (w2.setCell ⟨w.heap.size + 2, 0, none⟩ (.int .i64 1)) (.slice sa ss.length sc) ss) := World.ownsRow.kept HS1.out BU (.inr hsn)
          have HD2 := hid ((BU.block w1.heap.size hz1 (by simp; omega)).trans HD1.out)
          have hz3 : w2.heap.size ≤ (w2.setCell ⟨w.heap.size + 2, 0, none⟩ (.int .i64 1)).heap.size := BU.size
          clear BU HR1 HN1 HV1 HK1 HS1 HD1 x0 x1 x2 x3 x4 y0 y1 y2 y3 y4 hkn hsn
          generalize w2.setCell ⟨w.heap.size + 2, 0, none⟩ (.int .i64 1) = w3 at *
          have HNB := hid (ndB_new (B := w2.heap.size) HV2.out (by omega) hz3)
          generalize w1.heap.size = hb at *
          go_loopw [6, 9] (fun ok i wr => ∃ (j : Nat) (il : List (ByteArray × ByteArray)) (b : Bool) (vi : Value), j ≤ ks.length ∧ i = .int .i64 j ∧ ok = .bool b ∧ NdB (w.heap.size + 2) w2.heap.size wr (.int .i64 1) il [] [] [] vi (.slice none 0 0) (.slice none 0 0) (.slice none 0 0) ∧ ResF w wr ∧ NodeB wr (w.heap.size + 1) (.int .i64 0) (.slice none 0 0) (.slice none 0 0) (.slice none 0 0) (.slice none 0 0) ∧ wr.heap[hb]? = some (.cells #[.slice ka ks.length kc, .slice sa ss.length sc] 205 (0, 0)) ∧ OwnsS B wr (.slice ka ks.length kc) ks ∧ OwnsS B wr (.slice sa ss.length sc) ss ∧ Pr.LfCan s.data.toList j b (plain il) ∧ il.length ≤ 5 * j) (fun ok i _ => ks.length - (intOf i).toNat)
          case atStart => exact ⟨0, [], true, _, Nat.zero_le _, rfl, rfl, HNB.out, HR2.out, HN2.out, HD2.out, HK2.out, HS2.out, Pr.lf_start HP.out, by simp⟩
          case round =>
            clear HNB HR2 HN2 HD2 HK2 HS2 HV2
            obtain ⟨j, il, b, vi, hj, rfl, rfl, hnd, hrf, hnn, hhd, hok, hos, hcan, hil⟩ := hrel
            have HNB := hid hnd
            have HRF := hid hrf
            have HNN := hid hnn
            have HHD := hid hhd
            have HOK := hid hok
            have HOS := hid hos
            have HCAN := hid hcan
            obtain ⟨la, lc, rfl⟩ := rowShape hnd.its
            obtain ⟨x0, x1, x2, x3, x4, y0, y1, y2, y3, y4⟩ := hnd.var.cells
            have hle := hnd.le
            have d0 : wr.cell? ⟨hb, 0, none⟩ = some (.slice ka ks.length kc) := by unfold World.cell?; rw [hhd]; rfl
            have d1 : wr.cell? ⟨hb, 1, none⟩ = some (.slice sa ss.length sc) := by unfold World.cell?; rw [hhd]; rfl
            clear hnd hrf hnn hhd hok hos hcan
            by_cases hgo : b = true ∧ j < ks.length
            · obtain ⟨rfl, hjl⟩ := hgo
              have hjs : j < ss.length := by have := HKL.out; omega
              have hi1 : (j : Int) < (ks.length : Int) := by omega
              have HCI := hid (items_any B _ _ ks ss j wr HOK.out HOS.out HKL.out hjs hs4 HLZ.out)
              have hjl2 : j < (lists ss).length := by simpa [lists] using hjs
              have HNX := hid (fun (b' : Bool) x h1 h2 => Pr.lf_next (b' := b') (x := x) HCAN.out HH.out hjl2 h1 h2)
              rw [show (lists ss)[j]'hjl2 = (ss[j]'hjs).data.toList by simp [lists]] at HNX
              generalize (ss[j]'hjs).data.toList = sec at *
              go_wp2_with fail
              refine HCI.out.mono ?_
              rintro r w4 ⟨hb4, l, v4, b', rfl, ho4, hl5, hy, hn⟩
              have HC4 := hid (HNX.out b' (plain l) hy hn)
              have hz4 := hb4.size
              have HN4 := hid (HNB.out.below hb4)
              have HR4 := hid (HRF.out.below hb4)
              have HZ4 := hid (HNN.out.keep hb4)
              have HD4 := hid ((hb4.block hb (by omega)).trans HHD.out)
              have HK4 := hid (HOK.out.below hb4 (Nat.le_refl _))
              have HS4 := hid (HOS.out.below hb4 (Nat.le_refl _))
              have HO4 := hid ho4
              have hsrc := src_of ho4
              obtain ⟨xa, xc, rfl⟩ := rowShape ho4
              clear x0 x1 x2 x3 x4 y0 y1 y2 y3 y4 d0 d1 hb4 ho4 hy hn HCI HNX HNB HRF HNN HHD HOK HOS HCAN
              obtain ⟨x0, x1, x2, x3, x4, y0, y1, y2, y3, y4⟩ := HN4.out.var.cells
              have hill : il.length + l.length ≤ 100 := by omega
              have HSRC := hid hsrc
              clear hsrc
              go_wp2_with (first
                | (at_builtin; refine wpApI2 w4 rfl (.tmp 47) (.tmp 48) rfl w2.heap.size (.slice la il.length lc) il rfl HN4.out.its (.slice xa l.length xc) l rfl HSRC.out (by omega) HN4.out.le ?_))
              intro v5 w5 ho5 hg5 hat5
              obtain ⟨ya, yc, rfl⟩ := rowShape ho5
              have HAP := hid (HN4.out.apI ho5 hg5 hat5)
              obtain ⟨p0, p1, p2, p3, p4, q0, q1, q2, q3, q4⟩ := HAP.out.1.cells
              have BU := but_set (w.heap.size + 2) 1 w5 (.slice ya (il ++ l).length yc)
              have HR5 := hid ((HR4.out.belowB HAP.out.2.2 (by omega)).but BU (by omega))
              have HZ5 := hid ((HZ4.out.below HAP.out.2.2 (by omega)).but BU (by omega))
              have HD5 := hid ((BU.block hb (by have := HAP.out.2.2.size; omega) (by simp; omega)).trans ((HAP.out.2.2.block hb (by omega)).trans HD4.out))
              have HK5 : Hid (OwnsS B (w5.setCell ⟨w.heap.size + 2, 1, none⟩ (.slice ya (il ++ l).length yc)) (.slice ka ks.length kc) ks) := by
                have h1 := row_low HK4.out HAP.out.2.2 (fun k e => by have := HKB.out k e; omega)
                exact World.ownsRow.kept h1 BU (.inr (owns_node h1 HAP.out.1))
              have HS5 : Hid (OwnsS B (w5.setCell ⟨w.heap.size + 2, 1, none⟩ (.slice ya (il ++ l).length yc)) (.slice sa ss.length sc) ss) := by
                have h1 := row_low HS4.out HAP.out.2.2 (fun k e => by have := HSB.out k e; omega)
                exact World.ownsRow.kept h1 BU (.inr (owns_node h1 HAP.out.1))
              have HN5 := hid HAP.out.2.1
              rw [← plain_app] at HC4
              have hl2 : (il ++ l).length ≤ 5 * (j + 1) := by rw [List.length_append]; omega
              clear ho5 hg5 hat5 BU HAP
              generalize il ++ l = il2 at *
              go_wp2_with fail
              go_roundw
              case rel => exact ⟨j + 1, il2, b', _, by omega, by go_num, rfl, HN5.out, HR5.out, HZ5.out, HD5.out, HK5.out, HS5.out, HC4.out, hl2⟩
              case measure => simp [intOf]; omega
            · have HMID : Hid (RdMid w wr s.data.toList b 1 il [] [] [] (.slice la il.length lc) (.slice none 0 0) (.slice none 0 0) (.slice none 0 0)) := by
                refine ⟨HRF.out, HNN.out, HNB.out.var, (HNB.out.nodeV (by omega) (by simp) (by simp) (by simp)).shrink (by omega), fun n hn => ?_⟩
                have := Pr.lf_end HCAN.out HH.out (fun hb => by
                  rcases Nat.lt_or_ge j ks.length with h | h
                  · exact absurd ⟨hb, h⟩ hgo
                  · have := HKL.out; simp [lists]; omega) n hn
                exact this
              have hsp : b = false ∨ (b = true ∧ ¬ (j : Int) < (ks.length : Int)) := by
                cases b with
                | false => exact .inl rfl
                | true => exact .inr ⟨rfl, fun h => hgo ⟨rfl, by omega⟩⟩
              clear hgo
              rcases hsp with rfl | ⟨rfl, hx⟩
              · go_wp2_with fail
                go_meet
                exact ⟨_, _, _, _, _, _, _, _, _, _, rfl, HMID.out⟩
              · go_wp2_with fail
                go_meet
                exact ⟨_, _, _, _, _, _, _, _, _, _, rfl, HMID.out⟩
      · rw [decide_eq_false hp]
        have HP := hid hp
        clear hp
        go_wp2_with fail
        refine (branch_any s wc hs).mono ?_
        rintro r w1 ⟨hb1, cl, pl, ml, v1, rfl, hrb, hv1⟩
        have HBR := hid hrb
        have HR1 := hid (HR0.out.below hb1)
        have HN1 := hid (HN0.out.keep hb1)
        have HV1 := hid (HV0.out.keep hb1)
        obtain ⟨ia, ic, ka, kc, pa, pc, ma, mc, rfl⟩ := hv1.shape
        have HU1 := hid (hv1.shrink (C := w.heap.size + 3) (by omega))
        obtain ⟨n0, n1, n2, n3, n4, y0, y1, y2, y3, y4⟩ := HV1.out.cells
        have HMID : Hid (RdMid w (put5 w1 (w.heap.size + 2) (.int .i64 2) (.slice ia 0 ic) (.slice ka cl.length kc) (.slice pa pl.length pc) (.slice ma ml.length mc)) s.data.toList (Pg.refBranch s.data.toList).2 2 [] cl pl ml (.slice ia 0 ic) (.slice ka cl.length kc) (.slice pa pl.length pc) (.slice ma ml.length mc)) := by
          refine ⟨⟨?_, below_put HR1.out.2 (by omega) _ _ _ _ _⟩, ?_, HV1.out.put _ _ _ _ _, HU1.out.put (by omega) _ _ _ _ _, fun n hn => ?_⟩
          · exact put_other HR1.out.1 (by omega) _ _ _ _ _
          · exact put_other HN1.out (by omega) _ _ _ _ _
          · obtain ⟨cl0, pl0, ml0, rfl, h2⟩ := Pr.read_branch hn HP.out
            rw [h2] at HBR
            have := HBR.out
            simp only [Prod.mk.injEq] at this
            obtain ⟨rfl, rfl, rfl⟩ := this
            rw [h2]; exact ⟨rfl, rfl⟩
        unfold put5 at HMID
        clear hb1 hrb hv1
        generalize (Pg.refBranch s.data.toList).2 = bb at *
        go_wp2_with fail
        go_meet
        exact ⟨_, _, _, _, _, _, _, _, _, _, rfl, HMID.out⟩
    case rest =>
      obtain ⟨b, kd, il, cl, pl, ml, vi, vc, vp, vm, rfl, hmid⟩ := hcut
      have HM := hid hmid
      obtain ⟨ia, ic, ka, kc, pa, pc, ma, mc, he⟩ := hmid.val.shape
      simp only [Value.agg.injEq, Array.mk.injEq, List.cons.injEq, true_and, and_true] at he
      obtain ⟨rfl, rfl, rfl, rfl⟩ := he
      obtain ⟨n0, n1, n2, n3, n4, -⟩ := hmid.var.cells
      clear hmid HR0 HN0 HV0 hz0
      go_wp2_with fail
      refine (well_any _ kd il (cl.map Int.ofNat) pl ml _ HM.out.val.isNode).mono ?_
      rintro r w2 ⟨rfl, hb2⟩
      have HM2 := hid (HM.out.below hb2)
      clear hb2 HM n0 n1 n2 n3 n4
      obtain ⟨n0, n1, n2, n3, n4, -⟩ := HM2.out.var.cells
      obtain ⟨z0, z1, z2, z3, z4, -⟩ := HM2.out.none_.cells
      obtain ⟨r0, r1, r2, r3, r4, y0, y1, y2, y3, y4⟩ := HM2.out.res.1.cells
      cases b with
      | false =>
        have HRN : Hid (Pr.readR s.data.toList = none) := by
          show _ = _
          cases hr : Pr.readR s.data.toList with
          | none => rfl
          | some n => exact absurd (HM2.out.can n hr).1 (by simp)
        have HQ := hid (readQ_none HM2.out.res HRN.out)
        obtain ⟨q0, q1, q2, q3, q4⟩ := nodeB_res HM2.out.res.1 (.int .i64 0) (.slice none 0 0) (.slice none 0 0) (.slice none 0 0) (.slice none 0 0)
        unfold put5 at q0 q1 q2 q3 q4
        go_wp2_with fail
        refine bodyPost_ret (v := .tuple #[.agg #[.int .i64 0, .slice none 0 0, .slice none 0 0, .slice none 0 0, .slice none 0 0], .int .i64 2]) ?_ rfl HQ.out
        simp [results, Tryz.results100, go_sem, q0, q1, q2, q3, q4]
      | true =>
        cases hw : Pg.well kd (plain il) (cl.map Int.ofNat) (lists pl) (plainCh ml) with
        | false =>
          have HRN : Hid (Pr.readR s.data.toList = none) := by
            show _ = _
            cases hr : Pr.readR s.data.toList with
            | none => rfl
            | some n =>
              obtain ⟨-, rfl⟩ := HM2.out.can n hr
              have := (Pr.readR_is hr).1
              unfold Pr.wellT at this
              rw [hw] at this; simp at this
          have HQ := hid (readQ_none HM2.out.res HRN.out)
          obtain ⟨q0, q1, q2, q3, q4⟩ := nodeB_res HM2.out.res.1 (.int .i64 0) (.slice none 0 0) (.slice none 0 0) (.slice none 0 0) (.slice none 0 0)
          unfold put5 at q0 q1 q2 q3 q4
          clear hw
          go_wp2_with fail
          refine bodyPost_ret (v := .tuple #[.agg #[.int .i64 0, .slice none 0 0, .slice none 0 0, .slice none 0 0, .slice none 0 0], .int .i64 2]) ?_ rfl HQ.out
          simp [results, Tryz.results100, go_sem, q0, q1, q2, q3, q4]
        | true =>
          have HW := hid hw
          have HCP := hid (page_any _ kd il (cl.map Int.ofNat) pl ml _ HM2.out.val.isNode hw)
          have HPT : Hid (Pg.page kd (plain il) (cl.map Int.ofNat) (lists pl) (plainCh ml) = Pr.pageT (kd, plain il, cl, lists pl, plainCh ml)) := rfl
          rw [HPT.out] at HCP
          have HWT : Hid (Pr.wellT (kd, plain il, cl, lists pl, plainCh ml) = true) := hw
          clear hw HPT HW
          go_wp2_with fail
          refine HCP.out.mono ?_
          rintro r w3 ⟨rfl, hb3⟩
          have HM3 := hid (HM2.out.below hb3)
          clear hb3 HM2 HCP n0 n1 n2 n3 n4 z0 z1 z2 z3 z4 r0 r1 r2 r3 r4 y0 y1 y2 y3 y4
          obtain ⟨n0, n1, n2, n3, n4, -⟩ := HM3.out.var.cells
          obtain ⟨z0, z1, z2, z3, z4, -⟩ := HM3.out.none_.cells
          obtain ⟨r0, r1, r2, r3, r4, y0, y1, y2, y3, y4⟩ := HM3.out.res.1.cells
          by_cases heq : Pr.pageT (kd, plain il, cl, lists pl, plainCh ml) = s.data.toList
          · have HRS : Hid (Pr.readR s.data.toList = some (kd, plain il, cl, lists pl, plainCh ml)) := by show _ = _; rw [← heq]; exact Pr.readR_page HWT.out
            have HQ : Hid (ReadQ w (Pr.readR s.data.toList) (.returned (.tuple #[.agg #[.int .i64 kd, .slice ia il.length ic, .slice ka cl.length kc, .slice pa pl.length pc, .slice ma ml.length mc], .int .i64 0])) (put5 w3 w.heap.size (.int .i64 kd) (.slice ia il.length ic) (.slice ka cl.length kc) (.slice pa pl.length pc) (.slice ma ml.length mc))) :=
              ⟨below_put HM3.out.res.2 (Nat.le_refl _) _ _ _ _ _, .inr ⟨kd, il, cl, pl, ml, _, HRS.out, rfl, (HM3.out.val.put (by omega) _ _ _ _ _).shrink (by omega)⟩⟩
            obtain ⟨q0, q1, q2, q3, q4⟩ := nodeB_res HM3.out.res.1 (.int .i64 kd) (.slice ia il.length ic) (.slice ka cl.length kc) (.slice pa pl.length pc) (.slice ma ml.length mc)
            unfold put5 at q0 q1 q2 q3 q4
            rw [heq, mk_data]
            clear heq HWT HRS
            go_wp2_with fail
            refine bodyPost_ret (v := .tuple #[.agg #[.int .i64 kd, .slice ia il.length ic, .slice ka cl.length kc, .slice pa pl.length pc, .slice ma ml.length mc], .int .i64 0]) ?_ rfl HQ.out
            simp [results, Tryz.results100, go_sem, q0, q1, q2, q3, q4]
          · have HRN : Hid (Pr.readR s.data.toList = none) := by
              show _ = _
              cases hr : Pr.readR s.data.toList with
              | none => rfl
              | some n =>
                obtain ⟨-, rfl⟩ := HM3.out.can n hr
                exact absurd (Pr.readR_is hr).2 heq
            have HQ := hid (readQ_none HM3.out.res HRN.out)
            obtain ⟨q0, q1, q2, q3, q4⟩ := nodeB_res HM3.out.res.1 (.int .i64 0) (.slice none 0 0) (.slice none 0 0) (.slice none 0 0) (.slice none 0 0)
            unfold put5 at q0 q1 q2 q3 q4
            have hne : ((⟨(Pr.pageT (kd, plain il, cl, lists pl, plainCh ml)).toArray⟩ : ByteArray).toList == s.toList) = false := by rw [toList_is, toList_is]; simpa using heq
            have hne2 : ¬ (⟨(Pr.pageT (kd, plain il, cl, lists pl, plainCh ml)).toArray⟩ : ByteArray) = s := fun e => heq (by rw [← e])
            clear heq
            generalize (⟨(Pr.pageT (kd, plain il, cl, lists pl, plainCh ml)).toArray⟩ : ByteArray) = pg at *
            go_wp2_with fail
            refine bodyPost_ret (v := .tuple #[.agg #[.int .i64 0, .slice none 0 0, .slice none 0 0, .slice none 0 0, .slice none 0 0], .int .i64 2]) ?_ rfl HQ.out
            simp [results, Tryz.results100, go_sem, q0, q1, q2, q3, q4]
end Go.Proofs.YtolgpnaoaodepaaGreat
/- Read's two answers are of one node; the book past a call that only grows the heap. -/
namespace Go.Proofs.YtolgpnaoaodepaaGreat
open Go.RowKit

theorem plainZ_inj {a b : List (ByteArray × ByteArray)} (h : plain a = plain b) : a = b := by
  unfold plain at h
  refine List.map_inj_right ?_ |>.1 h
  rintro ⟨x1, x2⟩ ⟨y1, y2⟩ e
  simp only [Prod.mk.injEq] at e
  rw [bytes_ext e.1, bytes_ext e.2]
theorem listsZ_inj {a b : List ByteArray} (h : lists a = lists b) : a = b := by
  unfold lists at h
  refine List.map_inj_right ?_ |>.1 h
  intro x y e
  exact bytes_ext e
theorem plainChZ_inj {a b : List (Int × ByteArray × ByteArray)} (h : plainCh a = plainCh b) : a = b := by
  unfold plainCh at h
  refine List.map_inj_right ?_ |>.1 h
  rintro ⟨x0, x1, x2⟩ ⟨y0, y1, y2⟩ e
  simp only [Prod.mk.injEq] at e
  rw [e.1, bytes_ext e.2.1, bytes_ext e.2.2]
/-- The node that an answer holds, and its number. -/
def nodeOf : Option Pr.NodeT → Pr.NodeT
  | none => (0, [], [], [], [])
  | some n => n
def errOf : Option Pr.NodeT → Int
  | none => 2
  | some _ => 0
theorem ReadQ.all {w w' : World} {o : Option Pr.NodeT} {r : Ending} (h : ReadQ w o r w') : Below w.heap.size w w' ∧ ∃ kd il cl pl ml a1 a2 a3 a4, nodeOf o = (kd, plain il, cl, lists pl, plainCh ml) ∧ r = .returned (.tuple #[.agg #[.int .i64 kd, a1, a2, a3, a4], .int .i64 (errOf o)]) ∧ NodeV w.heap.size w' (.agg #[.int .i64 kd, a1, a2, a3, a4]) kd il cl pl ml := by
  refine ⟨h.1, ?_⟩
  rcases h.2 with ⟨rfl, rfl⟩ | ⟨kd, il, cl, pl, ml, v, rfl, rfl, hn⟩
  · refine ⟨0, [], [], [], [], _, _, _, _, rfl, rfl, _, _, _, _, rfl, ⟨rfl, .inl ⟨rfl, rfl⟩⟩, ⟨rfl, .inl ⟨rfl, rfl⟩⟩, ⟨rfl, .inl ⟨rfl, rfl⟩⟩, ⟨rfl, .inl ⟨rfl, rfl⟩⟩, by decide, by decide, by decide, by decide⟩
  · have hn0 := hn
    obtain ⟨v1, v2, v3, v4, rfl, -⟩ := hn
    exact ⟨kd, il, cl, pl, ml, v1, v2, v3, v4, rfl, rfl, hn0⟩
theorem nodeOf_inj {kd kd' : Int} {il il' : List (ByteArray × ByteArray)} {cl cl' : List Nat} {pl pl' : List ByteArray} {ml ml' : List (Int × ByteArray × ByteArray)} (h : ((kd, plain il, cl, lists pl, plainCh ml) : Pr.NodeT) = (kd', plain il', cl', lists pl', plainCh ml')) : kd = kd' ∧ il = il' ∧ cl = cl' ∧ pl = pl' ∧ ml = ml' := by
  simp only [Prod.mk.injEq] at h
  exact ⟨h.1, plainZ_inj h.2.1, h.2.2.1, listsZ_inj h.2.2.2.1, plainChZ_inj h.2.2.2.2⟩
/-- Rows of different elements lie in different blocks. -/
theorem rowsE_apart {B B' : Nat} {e e' : TypeId} {s s' n n' : Nat} {v v' : Value} {xs xs' : List Value} {w : World} (h : w.ownsRow B e s v n xs) (h' : w.ownsRow B' e' s' v' n' xs') (hne : e ≠ e') (g : Nat) (q : v.ownBlock = some g) (q' : v'.ownBlock = some g) : False := by
  rcases h.2 with ⟨rfl, -⟩ | ⟨k, cap, cur, rfl, -, hg, -⟩
  · simp [Value.ownBlock] at q
  · rcases h'.2 with ⟨rfl, -⟩ | ⟨k', cap', cur', rfl, -, hg', -⟩
    · simp [Value.ownBlock] at q'
    · obtain rfl : k = g := Option.some.inj q
      obtain rfl : k' = k := Option.some.inj q'
      rw [hg] at hg'
      simp only [Option.some.injEq, Obj.cells.injEq] at hg'
      exact hne hg'.2.1
theorem Bk.mono {w : World} {b : Nat} {vl : Value} {k k' : Nat} {X : Nat → Prop} (h : Bk w b vl k X) (hk : k ≤ k') : Bk w b vl k' X := by
  obtain ⟨v, nx, m, hW, hK, hR⟩ := h
  exact ⟨v, nx, m, hW, fun p hp => ⟨Nat.le_trans (hK p hp).1 hk, (hK p hp).2⟩, hR⟩
/-- Likewise, and what stood aside stays aside. -/
theorem Bk.below2 {w w' : World} {b : Nat} {vl : Value} {k : Nat} {X X' : Nat → Prop} (h : Bk w b vl k X) (hb : Below w.heap.size w w') (hX : ∀ g, X' g → X g ∨ w.heap.size ≤ g) : Bk w' b vl k X' := by
  obtain ⟨v, nx, m, hW, hK, hR⟩ := h
  have hs := hb.size
  refine ⟨v, nx, m, hW.below hb hW.lt, fun p hp => ⟨(hK p hp).1, (hK p hp).2.stay (fun g hg _ => hb.block g hg) (fun g hg hf => ⟨hf.1, fun hx => ?_, hf.2.2⟩)⟩, fun i h1 h8 g hg => ?_, hR.2⟩
  · rcases hX g hx with q | q
    · exact hf.2.1 q
    · omega
  · obtain ⟨c1, c2, c3⟩ := hR.1 i h1 h8 g hg
    refine ⟨c1, fun hx => ?_, by omega⟩
    rcases hX g hx with q | q
    · exact c2 q
    · omega
theorem Bk.lt {w : World} {b : Nat} {vl : Value} {k : Nat} {X : Nat → Prop} (h : Bk w b vl k X) : b < w.heap.size := by
  obtain ⟨v, nx, m, hW, -⟩ := h
  exact hW.lt
theorem row_from {B : Nat} {e : TypeId} {s n : Nat} {v : Value} {xs : List Value} {w : World} (h : w.ownsRow B e s v n xs) (g : Nat) (q : v.ownBlock = some g) : B ≤ g ∧ g < w.heap.size := World.ownsRow.lt h g q
end Go.Proofs.YtolgpnaoaodepaaGreat
