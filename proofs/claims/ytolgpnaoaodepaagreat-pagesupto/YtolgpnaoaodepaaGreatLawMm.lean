/- copy into a row of our own, whatever the elements' width; make of a row. -/
import Derived.Test.YtolgpnaoaodepaaGreatLawJm
import Derived.Laws.CopyOwn
import Derived.Lib.BufferMore
import Derived.Test.YtolgpnaoaodepaaGreatOwnGm
namespace Go.Proofs.YtolgpnaoaodepaaGreat
open Go.RowKit

theorem off_add (g o j : Nat) : (⟨g, o, none⟩ : Addr).add j = ⟨g, o + j, none⟩ := by unfold Addr.add; split <;> simp_all
/-- So many elements lie there. -/
def Src (size : Nat) (w : World) (v : Value) (n : Nat) (cs : List Value) : Prop := ∃ a cap, v = .slice a n cap ∧ cs.length = n * size ∧ (n = 0 ∨ ∃ b off, a = some ⟨b, off, none⟩ ∧ b < w.heap.size ∧ ∀ (j : Nat) (u : Value), cs[j]? = some u → w.cell? ⟨b, off + j, none⟩ = some u)
theorem Src.below {size : Nat} {w w' : World} {v : Value} {n : Nat} {cs : List Value} (h : Src size w v n cs) (hb : Below w.heap.size w w') : Src size w' v n cs := by
  obtain ⟨a, cap, rfl, h1, h2⟩ := h
  refine ⟨a, cap, rfl, h1, h2.imp_right fun ⟨b, off, e, hlt, hc⟩ => ⟨b, off, e, Nat.lt_of_lt_of_le hlt hb.size, fun j u hj => ?_⟩⟩
  exact (hb.cell (p := ⟨b, off + j, none⟩) hlt).trans (hc j u hj)
section
variable {P : Program}
theorem run_copy_wide (w : World) (dT sT ty elem : TypeId) (size : Nat) (g dLen dCap : Nat) (v : Value) (n : Nat) (cur : Array Value) (t : TypeId) (cs : List Value)
    (hu : P.underlying dT = some (.slice elem)) (hs : (P.info? elem).map (·.size) = some size)
    (hg : w.heap[g]? = some (.cells cur t (0, 0))) (hn : n ≤ dLen) (hsrc : Src size w v n cs) (hfit : cs.length ≤ cur.size) (h1 : ∀ v ∈ cs, v.oneCell' = true) :
    (Builtin.copy_ #[dT, sT] ty #[.slice (some ⟨g, 0, none⟩) dLen dCap, v]).run P w = .ok (goInt n) (w.setRow g (cs ++ cur.toList.drop cs.length).toArray) := by
  obtain ⟨a, cap, rfl, hl, h3⟩ := hsrc
  have hmin : Nat.min n dLen = n := Nat.min_eq_left hn
  have hst := run_storeCells_at P g 0 t cs 0 cur w hg (by simpa using hfit) h1
  cases hq : P.info? elem with
  | none => simp [hq] at hs
  | some i =>
    have hi : i.size = size := by simpa [hq] using hs
    rcases h3 with rfl | ⟨b, off, rfl, hlt, hc⟩
    · obtain rfl : cs = [] := List.eq_nil_of_length_eq_zero (by omega)
      have e := setRow_self w g cur t (0, 0) hg
      cases a with
      | none => simp [Builtin.copy_, run_underlying hu, Builtin.lenOf, Builtin.firstCells, sizeOf, typeInfo, hq, storeCells, e]
      | some ad =>
        have hld := run_loadCells_list (P := P) w ad [] (fun j u hj => by simp at hj)
        simp at hld
        simp [Builtin.copy_, run_underlying hu, Builtin.lenOf, Builtin.firstCells, sizeOf, typeInfo, hq, hld, storeCells, e]
    · have hld := run_loadCells_list (P := P) w ⟨b, off, none⟩ cs (fun j u hj => by rw [off_add]; exact hc j u hj)
      rw [hl] at hld
      simp [Builtin.copy_, run_underlying hu, Builtin.lenOf, Builtin.firstCells, sizeOf, typeInfo, hq, hi, hmin, hld, hst]
end
/-- make of a row. -/
theorem wpMkR (w : World) {ops : Array Oper} {rest : List Oper} {o : Oper} {a : Act} {Q : Exit → Act → World → Prop} (hgd : o.guard = none) (l c : Operand) (t e : TypeId) (ht : Tryz.prog.underlying t = some (.slice e)) (z : Value) (size bytes : Nat) (hinfo : (Tryz.prog.info? e).map (fun i => (i.zero, i.size, i.bytes)) = some (some z, size, bytes)) (hby : bytes ≤ 1000)
    (hop : o.op = Op.makeSlice t l c) (n : Nat) (hl : a.eval l = .int .i64 (n : Int)) (hc : a.eval c = .int .i64 (n : Int)) (hb : n ≤ 1000000000)
    (h : ∀ w' zs, w'.ownsRow w.heap.size e size (.slice (some ⟨w.heap.size, 0, none⟩) n n) n zs → Below w.heap.size w w' → w.heap.size < w'.heap.size → wpList Tryz.prog ops Q rest (a.put o.dst (.slice (some ⟨w.heap.size, 0, none⟩) n n)) w') : wpList Tryz.prog ops Q (o :: rest) a w := by
  obtain ⟨i, hi, hz0, hz1, hz2⟩ := info_parts hinfo
  refine wpList_make_full w hgd l c t hop w.heap.size e i z size ht hi hz0 hz1 .i64 .i64 (n : Int) (n : Int) n hl hc rfl rfl (by rw [hz2]; have : bytes * n ≤ 1000 * 1000000000 := Nat.mul_le_mul hby hb; omega) (by unfold maxLen; omega) (Nat.le_refl _) ?_
  intro w' ho hg
  exact h w' _ ho ((Below.refl _ w).grown hg (Nat.le_refl _) (fun k hk => by cases hk)) (World.ownsRow.lt ho w.heap.size rfl).2
/-- copy into a row of our own. -/
theorem wpCpR (w : World) {ops : Array Oper} {rest : List Oper} {o : Oper} {a : Act} {Q : Exit → Act → World → Prop} (hgd : o.guard = none) (d s : Operand) (t e : TypeId) (ht : Tryz.prog.underlying t = some (.slice e)) (size : Nat) (hsz : (Tryz.prog.info? e).map (·.size) = some size)
    (ho : o.op = .call { callee := .builtin .copy, args := #[d, s], argTypes := #[t, t] }) (B g N : Nat) (hd : a.eval d = .slice (some ⟨g, 0, none⟩) N N) (zs : List Value) (hown : w.ownsRow B e size (.slice (some ⟨g, 0, none⟩) N N) N zs) (v : Value) (hs : a.eval s = v) (n : Nat) (cs : List Value) (hsrc : Src size w v n cs) (hn : n ≤ N) (h1 : ∀ v ∈ cs, v.oneCell' = true)
    (h : ∀ w', w'.ownsRow B e size (.slice (some ⟨g, 0, none⟩) N N) N (cs ++ zs.drop cs.length) → w.grownBy w' (some g) → wpList Tryz.prog ops Q rest (a.put o.dst (goInt n)) w') : wpList Tryz.prog ops Q (o :: rest) a w := by
  have hcs : cs.length ≤ N * size := by
    obtain ⟨_, _, _, q, _⟩ := hsrc
    rw [q]; exact Nat.mul_le_mul_right _ hn
  have hzl := hown.1
  rcases hown.2 with ⟨h0, _⟩ | ⟨g', cap', cur, hv, hb, hg, q1, q2, q3, q4⟩
  · simp at h0
  · simp only [Value.slice.injEq, Option.some.injEq, Addr.mk.injEq, and_true, true_and] at hv
    obtain ⟨rfl, rfl⟩ := hv
    have hcur : cur.toList = zs := by
      rw [← q4, List.take_of_length_le (by simp [q3])]
    refine wpList_plain hgd fun K hK => ?_
    have hrun := run_copy_wide (P := Tryz.prog) w t t o.type e size g N N v n cur e cs ht hsz hg hn hsrc (by omega) h1
    unfold Oper.wp
    simp [execOp, ho, resolve, invoke, builtin, hd, hs, hrun, Result.andThen]
    refine hK _ _ (h _ ?_ ?_)
    · refine ⟨by simp [hzl]; omega, .inr ⟨g, N, _, rfl, hb, setRow_heap w g cur _ e _ hg, Nat.le_refl _, q2, ?_, ?_⟩⟩
      · simp [q3]; omega
      · rw [hcur]
        exact List.take_of_length_le (by simp [hzl]; omega)
    · exact ⟨rfl, rfl, rfl, by simp [World.setRow], fun k hk hne => setRow_other w g k _ (fun e => hne (by rw [e]))⟩
end Go.Proofs.YtolgpnaoaodepaaGreat
/- The walks of lentTexts and stillTexts. -/
namespace Go.Proofs.YtolgpnaoaodepaaGreat
open Go.RowKit

theorem row_zero {B : Nat} {w : World} {v : Value} {T : TypeId} {s n : Nat} {xs : List Value} (h : w.ownsRow B T s v n xs) : w.ownsRow 0 T s v n xs := by
  refine ⟨h.1, ?_⟩
  rcases h.2 with q | ⟨g, cap, cur, e, _, q⟩
  · exact .inl q
  · exact .inr ⟨g, cap, cur, e, Nat.zero_le _, q⟩
theorem set_tail2 (cs zs : List Value) (n : Nat) (hc : cs.length = n) (hz : zs.length = n + 2) (x y : Value) : ((cs ++ zs.drop cs.length).set n x).set (n + 1) y = cs ++ [x, y] := by
  obtain ⟨p, q, e⟩ : ∃ p q, zs.drop cs.length = [p, q] := by
    have hl : (zs.drop cs.length).length = 2 := by simp; omega
    match zs.drop cs.length, hl with
    | [p, q], _ => exact ⟨p, q, rfl⟩
  rw [e, set_mid _ _ _ _ _ hc.symm]
  have : cs ++ x :: [q] = (cs ++ [x]) ++ q :: [] := by simp
  rw [this, set_mid _ _ _ _ _ (by simp [hc])]
  simp
abbrev mine : Value := .string ⟨#[109, 105, 110, 101]⟩
abbrev yours : Value := .string ⟨#[121, 111, 117, 114, 115]⟩
/-- What lentTexts hands over: nil, or a copy with two texts behind it. -/
def LentT (B : Nat) (w' : World) (v v' : Value) (n : Nat) (cs : List Value) : Prop := (∃ cap, v = .slice none n cap ∧ v' = .slice none 0 0) ∨ ∃ g, (∃ a cap, v = .slice (some a) n cap) ∧ v' = .slice (some ⟨g, 0, none⟩) n (n + 2) ∧ w'.ownsRow B 9 1 (.slice (some ⟨g, 0, none⟩) (n + 2) (n + 2)) (n + 2) (cs ++ [mine, yours])
theorem nilT_no (ad : Addr) (n cap : Nat) (w : World) : (binOp BinOp.eql 40 (.slice (some ad) n cap) (.slice none 0 0)).run Tryz.prog w = .ok (.bool false) w := Lib.run_eql_slice_some_nil w _ _ _ Tryz.underlying40
theorem nilT_yes (n cap : Nat) (w : World) : (binOp BinOp.eql 40 (.slice none n cap) (.slice none 0 0)).run Tryz.prog w = .ok (.bool true) w := Lib.run_eql_slice_nil_nil w _ _ Tryz.underlying40
set_option maxHeartbeats 1000000 in
set_option maxRecDepth 20000 in
theorem lentTexts_any (v : Value) (n : Nat) (cs : List Value) (w : World) (hv : Src 1 w v n cs) (hn : n ≤ 100000000) (h1 : ∀ v ∈ cs, v.oneCell' = true) :
    Calls Tryz.prog 109 #[v] w fun r w' => Below w.heap.size w w' ∧ ∃ v', r = .returned v' ∧ LentT w.heap.size w' v v' n cs := by
  obtain ⟨a, cap, rfl, hcl, hsrc⟩ := hv
  have HV : Hid (Src 1 w (.slice a n cap) n cs) := ⟨a, cap, rfl, hcl, hsrc⟩
  have HC := hid hcl
  have H1 := hid h1
  clear hcl hsrc h1
  go_enter Tryz.func109, Tryz.ntmps109
  cases a with
  | none =>
    have hnil : ∀ W, (binOp BinOp.eql 40 (.slice none n cap) (.slice none 0 0)).run Tryz.prog W = .ok (.bool true) W := fun W => nilT_yes n cap W
    go_wp2_with fail
    go_ret
    exact ⟨Below.refl _ _, _, rfl, .inl ⟨cap, rfl, rfl⟩⟩
  | some ad =>
    have hnil : ∀ W, (binOp BinOp.eql 40 (.slice (some ad) n cap) (.slice none 0 0)).run Tryz.prog W = .ok (.bool false) W := fun W => nilT_no ad n cap W
    have hw2 : IntKind.i64.wrap ((n : Int) + 2) = (n : Int) + 2 := IntWalk.i64_in _ ⟨by omega, by omega⟩
    have hw1 : IntKind.i64.wrap ((n : Int) + 1) = (n : Int) + 1 := IntWalk.i64_in _ ⟨by omega, by omega⟩
    go_wp2_with (first
      | (at_make; refine wpMkR w rfl (.tmp 10) (.tmp 10) 40 9 Tryz.underlying40 _ 1 16 info_string (by omega) rfl (n + 2) (by simp [Act.eval]) (by simp [Act.eval]) (by omega) ?_))
    intro w1 zs ho1 hb1 hlt1
    have HZ : Hid (zs.length = n + 2) := by have := ho1.1; simpa [Hid] using this
    have HO1 := hid ho1
    have HB1 := hid hb1
    have HS1 := hid (HV.out.below hb1)
    clear ho1 hb1 hw2 hnil
    generalize hgg : w.heap.size = g at *
    have HGG := hid hgg
    clear hgg
    go_wp2_with (first
      | (refine wpCpR w1 rfl (.tmp 12) (.tmp 13) 40 9 Tryz.underlying40 1 (by kernel_rfl) rfl g g (n + 2) rfl zs HO1.out (.slice (some ad) n cap) rfl n cs HS1.out (by omega) H1.out ?_))
    intro w2 ho2 hg2
    have hb2 := HB1.out.grown hg2 (by omega) (fun k hk => by cases hk; exact Nat.le_refl _)
    have hs3 := row_store ho2 n mine
    have hs4 := row_store hs3 (n + 1) yours
    rw [set_tail2 cs zs n (by rw [HC.out]; omega) HZ.out] at hs4
    obtain ⟨⟨cv, hcv⟩, hfz⟩ := row_at ho2 n (by omega)
    obtain ⟨⟨cv1, hcv1⟩, hfz1⟩ := row_at hs3 (n + 1) (by omega)
    have HF := hid (And.intro ((hb2.setCell (p := ⟨g, n, none⟩) (Nat.le_refl _) mine).setCell (p := ⟨g, n + 1, none⟩) (Nat.le_refl _) yours) hs4)
    clear ho2 hg2 hb2 hs3 hs4 HO1 HB1 HS1 HV
    have hi1 : (0 : Int) ≤ (n : Int) := by omega
    have hi2 : (n : Int) < ((n + 2 : Nat) : Int) := by omega
    have hi3 : (n : Int) + 1 < ((n + 2 : Nat) : Int) := by omega
    go_wp2_with fail
    go_ret
    exact ⟨by rw [HGG.out]; exact HF.out.1, _, rfl, .inr ⟨g, ⟨ad, cap, rfl⟩, rfl, by rw [HGG.out]; exact HF.out.2⟩⟩
abbrev ours : Value := .string ⟨#[111, 117, 114, 115]⟩
set_option maxHeartbeats 1000000 in
set_option maxRecDepth 20000 in
/-- Behind the call: what was handed over reads as before; then it is written over. -/
theorem stillTexts_any (v v' : Value) (n : Nat) (ss : List ByteArray) (w0 w : World) (hb : Below w0.heap.size w0 w) (hv : Src 1 w0 v n (strs ss)) (hl : LentT w0.heap.size w v v' n (strs ss)) (hn : n ≤ 100000000) :
    Calls Tryz.prog 111 #[v', v] w fun r w' => r = .returned (.bool true) ∧ Below w0.heap.size w w' := by
  rcases hl with ⟨cap, rfl, rfl⟩ | ⟨g, ⟨ad, cap, rfl⟩, rfl, ho⟩
  · have hnil : ∀ W, (binOp BinOp.eql 40 (.slice none n cap) (.slice none 0 0)).run Tryz.prog W = .ok (.bool true) W := fun W => nilT_yes n cap W
    clear hv hb
    go_enter Tryz.func111, Tryz.ntmps111
    go_wp2_with fail
    go_ret
    exact ⟨rfl, Below.refl _ _⟩
  · have hnil : ∀ W, (binOp BinOp.eql 40 (.slice (some ad) n cap) (.slice none 0 0)).run Tryz.prog W = .ok (.bool false) W := fun W => nilT_no ad n cap W
    have hw2 : IntKind.i64.wrap ((n : Int) + 2) = (n : Int) + 2 := IntWalk.i64_in _ ⟨by omega, by omega⟩
    have hw1 : IntKind.i64.wrap ((n : Int) + 1) = (n : Int) + 1 := IntWalk.i64_in _ ⟨by omega, by omega⟩
    have hsl : ss.length = n := by obtain ⟨_, _, _, q, _⟩ := hv; simpa [strs] using q
    have hgB : w0.heap.size ≤ g := (World.ownsRow.lt ho g rfl).1
    obtain ⟨g1, c1, x1, e1, -, -, k1, m1⟩ := row_get (row_zero ho) n (by omega)
    obtain ⟨g2, c2, x2, e2, -, -, k2, m2⟩ := row_get (row_zero ho) (n + 1) (by omega)
    simp only [Value.slice.injEq, Option.some.injEq, Addr.mk.injEq, and_true, true_and] at e1 e2
    obtain ⟨rfl, rfl⟩ := e1
    obtain ⟨rfl, -⟩ := e2
    have hx1 : x1 = mine := by
      rw [List.getElem?_append_right (by simp [strs, hsl])] at k1
      simpa [strs, hsl] using k1.symm
    have hx2 : x2 = yours := by
      rw [List.getElem?_append_right (by simp [strs, hsl])] at k2
      simpa [strs, hsl] using k2.symm
    subst hx1 hx2
    have HO := hid ho
    have HV := hid hv
    have HB := hid hb
    have HSL := hid hsl
    clear ho hv hb k1 k2 hsl
    have hi1 : (0 : Int) ≤ (n : Int) := by omega
    have hi2 : (n : Int) < ((n + 2 : Nat) : Int) := by omega
    have hi3 : (n : Int) + 1 < ((n + 2 : Nat) : Int) := by omega
    go_enter Tryz.func111, Tryz.ntmps111
    go_wp2_with fail
    go_loopw [6, 7] (fun o i wr => ∃ j : Nat, j ≤ n ∧ o = .bool true ∧ i = .int .i64 j ∧ wr.ownsRow w0.heap.size 9 1 (.slice (some ⟨g, 0, none⟩) (n + 2) (n + 2)) (n + 2) (marks [ours] j ++ (strs ss ++ [mine, yours]).drop j) ∧ Below w0.heap.size w wr) (fun _ i _ => n - (intOf i).toNat)
    case atStart => exact ⟨0, Nat.zero_le _, rfl, rfl, by simpa [marks] using HO.out, Below.refl _ _⟩
    case round =>
      obtain ⟨j, hj, rfl, rfl, hoj, hbj⟩ := hrel
      clear m1 m2
      by_cases hjn : j < n
      · obtain ⟨g3, c3, x3, e3, -, -, k3, m3⟩ := row_get (row_zero hoj) j (by omega)
        simp only [Value.slice.injEq, Option.some.injEq, Addr.mk.injEq, and_true, true_and] at e3
        obtain ⟨rfl, -⟩ := e3
        have hjs : j < ss.length := by rw [HSL.out]; exact hjn
        have hx3 : x3 = .string ss[j] := by
          rw [List.getElem?_append_right (by rw [marks_len]; simp)] at k3
          rw [marks_len, show j - j * [ours].length = 0 by simp, List.getElem?_drop, Nat.add_zero, List.getElem?_append_left (by simp [strs]; exact hjs), show (strs ss)[j]? = some (.string ss[j]) by simp [strs, hjs]] at k3
          exact (Option.some.inj k3).symm
        subst hx3
        obtain ⟨sb, so, rfl, hsb, hsc⟩ : ∃ b off, ad = ⟨b, off, none⟩ ∧ b < w0.heap.size ∧ w0.cell? ⟨b, off + j, none⟩ = some (.string ss[j]) := by
          obtain ⟨a', cap', e, -, q⟩ := HV.out
          simp only [Value.slice.injEq, true_and] at e
          obtain ⟨rfl, rfl⟩ := e
          rcases q with q | ⟨b, off, e, hlt, hc⟩
          · omega
          · exact ⟨b, off, Option.some.inj e, hlt, hc j _ (by simp [strs, hjs])⟩
        have m4 := ((HB.out.trans hbj).cell (p := ⟨sb, so + j, none⟩) hsb).trans hsc
        obtain ⟨-, hfz⟩ := row_at hoj j (by omega)
        have hst : ∀ q, ((wr.drewN q).setCell ⟨g, j, none⟩ ours).ownsRow w0.heap.size 9 1 (.slice (some ⟨g, 0, none⟩) (n + 2) (n + 2)) (n + 2) (marks [ours] (j + 1) ++ (strs ss ++ [mine, yours]).drop (j + 1)) := fun q => by
          have := row_store (w := wr.drewN q) hoj j ours
          rw [mark_next1 _ _ _ (by simp [strs]; omega)] at this
          exact this
        have HST := hid hst
        have HBS : Hid (∀ q, Below w0.heap.size w ((wr.drewN q).setCell ⟨g, j, none⟩ ours)) := fun q => (below_drewN hbj q).setCell (p := ⟨g, j, none⟩) hgB ours
        generalize ss[j] = sj at *
        have hi4 : (0 : Int) ≤ (j : Int) := by omega
        have hi5 : (j : Int) < (n : Int) := by omega
        clear hoj hbj hst hsc k3
        go_wp2_with fail
        go_quiet (fail)
        go_wp2_with fail
        go_roundw
        case rel => exact ⟨j + 1, by omega, rfl, by go_num, HST.out _, HBS.out _⟩
        case measure => simp [intOf]; omega
      · have hi5 : ¬ (j : Int) < (n : Int) := by omega
        have HBJ := hid hbj
        clear hoj hbj
        go_wp2_with fail
        go_ret
        exact ⟨rfl, HBJ.out⟩
end Go.Proofs.YtolgpnaoaodepaaGreat
/- The walks of package wire's writing: AppendNumber, AppendText, AppendShort, check, Seal. -/
namespace Go.Proofs.YtolgpnaoaodepaaGreat
open Go.RowKit

set_option maxRecDepth 10000 in
theorem or128 : ∀ a, a < 256 → a ||| 128 = 128 + a % 128 := by decide
theorem u8_or128 (m : Nat) : bits .or .u8 ((m : Int) % 256) 128 = ((128 + m % 128 : Nat) : Int) := by
  have h := u8_or_nat (m % 256) 128 (by omega) (by omega)
  rw [or128 _ (by omega), show m % 256 % 128 = m % 128 by omega] at h
  rw [← h]; rfl

theorem low1 (n : Nat) : ∃ b : UInt8, b.toNat = n % 256 ∧ Pg.low n 1 = [b] := ⟨UInt8.ofNat (n % 256), by simp, rfl⟩
set_option maxHeartbeats 1000000 in
set_option maxRecDepth 20000 in
theorem apNum_any (B : Nat) (v : Value) (l : List UInt8) (n : Nat) (w : World) (hown : Owns B w v l) (hB : B ≤ w.heap.size) (hl : l.length ≤ 100000000000) (hn : n ≤ 9223372036854775807) :
    Calls Tryz.prog 232 #[v, .int .i64 n] w fun r w' => ∃ v', r = .returned v' ∧ Owns B w' v' (l ++ Pg.num n) ∧ Grew w w' v v' := by
  have HOWN := hid hown
  have hnl := num_short n hn
  clear hown
  go_enter Tryz.func232, Tryz.ntmps232
  go_wp2_with fail
  go_loopw [0, 1] (fun u i wr => ∃ (o : List UInt8) (m : Nat), m ≤ n ∧ i = .int .i64 m ∧ Owns B wr u o ∧ Grew w wr v u ∧ o ++ Pg.num m = l ++ Pg.num n ∧ o.length ≤ l.length + 10) (fun _ i _ => (intOf i).toNat)
  case atStart => exact ⟨l, n, Nat.le_refl _, rfl, HOWN.out, Grew.refl _ _, rfl, by omega⟩
  case round =>
    obtain ⟨o, m, hm, rfl, ho, hb, heq, hol⟩ := hrel
    have HEQ := hid heq
    have HO := hid ho
    have HB := hid hb
    have hsz := hb.size
    have HLEN := hid (show (o ++ Pg.num m).length ≤ l.length + 10 by rw [heq, List.length_append]; omega)
    clear heq ho hb
    by_cases h128 : 128 ≤ m
    · have HU := hid (u8_or128 m)
      obtain ⟨bt, hbt, hbl⟩ := low1 (128 + m % 128)
      have HBL := hid hbl
      have HBT := hid hbt
      clear hbl hbt
      go_wp2_with (first
        | (at_builtin; refine wpAp1 wr rfl (.tmp 7) (.tmp 11) rfl B u0 o rfl HO.out bt _ ?_ rfl ?_ ?_ ?_))
      · rw [HU.out, HBT.out]; omega
      · omega
      · omega
      intro v2 w2 ho2 hg2 hat2
      have HO2 := hid ho2
      have HB2 := hid (HB.out.trans (grew_alloc hg2 hat2))
      clear ho2 hg2 hat2
      go_wp2_with fail
      go_roundw
      case rel =>
        have hnb := Pg.num_big m (by omega)
        refine ⟨_, m / 128, by omega, by go_num, HO2.out, HB2.out, ?_, ?_⟩
        · rw [← HEQ.out, hnb, List.append_assoc, HBL.out]
        · have := HLEN.out
          rw [hnb] at this
          simp only [List.length_append, Pg.low_len] at this
          simp; omega
      case measure => simp [intOf]; omega
    · obtain ⟨bt, hbt, hbl⟩ := low1 m
      have HBL := hid hbl
      have HBT := hid hbt
      clear hbl hbt
      go_wp2_with (first
        | (at_builtin; refine wpAp1 wr rfl (.tmp 15) (.tmp 18) rfl B u0 o rfl HO.out bt _ ?_ rfl ?_ ?_ ?_))
      · rw [HBT.out]; omega
      · omega
      · omega
      intro v2 w2 ho2 hg2 hat2
      have HB2 := hid (HB.out.trans (grew_alloc hg2 hat2))
      have HO2 : Hid (Owns B w2 v2 (l ++ Pg.num n)) := by
        show Owns _ _ _ _
        rw [← HEQ.out, Pg.num_small m (by omega), HBL.out]; exact ho2
      clear ho2 hg2 hat2
      go_wp2_with fail
      go_ret
      exact ⟨v2, rfl, HO2.out, HB2.out⟩

set_option maxHeartbeats 1000000 in
set_option maxRecDepth 20000 in
theorem apText_any (B : Nat) (v : Value) (l : List UInt8) (s : ByteArray) (w : World) (hown : Owns B w v l) (hB : B ≤ w.heap.size) (hl : l.length ≤ 100000000000) (hs : s.size ≤ 35184372088832) :
    Calls Tryz.prog 234 #[v, .string s] w fun r w' => ∃ v', r = .returned v' ∧ Owns B w' v' (l ++ Pg.text s.data.toList) ∧ Grew w w' v v' := by
  have HOWN := hid hown
  have HT : Hid (Pg.text s.data.toList = Pg.num s.size ++ s.data.toList) := by show _ = _; unfold Pg.text; rw [len_size]
  have hnl := num_short s.size (by omega)
  clear hown
  go_enter Tryz.func234, Tryz.ntmps234
  go_wp2_with fail
  refine (apNum_any B v l s.size _ HOWN.out hB hl (by omega)).mono ?_
  rintro r w1 ⟨v1, rfl, ho1, hb1⟩
  have HO1 := hid ho1
  have HB1 := hid hb1
  have hsz := hb1.size
  clear ho1 hb1
  go_wp2_with (first
    | (at_builtin; refine wpApSg w1 rfl (.tmp 8) (.tmp 9) rfl B v1 _ rfl HO1.out s rfl (by rw [List.length_append]; omega) (by omega) ?_))
  intro v2 w2 ho2 hb2
  have HO2 := hid ho2
  have HB2 := hid (HB1.out.trans hb2)
  clear ho2 hb2
  go_wp2_with fail
  go_ret
  exact ⟨v2, rfl, by rw [HT.out]; exact HO2.out, HB2.out⟩

set_option maxHeartbeats 1000000 in
set_option maxRecDepth 20000 in
theorem apShort_any (B : Nat) (v : Value) (l : List UInt8) (n : Nat) (w : World) (hown : Owns B w v l) (hB : B ≤ w.heap.size) (hl : l.length ≤ 100000000000) :
    Calls Tryz.prog 183 #[v, .int .i64 n] w fun r w' => ∃ v', r = .returned v' ∧ Owns B w' v' (l ++ Pg.low n 2) ∧ Grew w w' v v' := by
  have HOWN := hid hown
  clear hown
  go_enter Tryz.func183, Tryz.ntmps183
  go_wp2_with (first
    | (at_builtin; refine wpAp2 w rfl (.tmp 5) (.tmp 11) rfl B v _ rfl HOWN.out (UInt8.ofNat (n % 256)) (UInt8.ofNat (n / 256 % 256)) _ _ ?_ ?_ rfl ?_ ?_ ?_))
  · simp
  · simp
  · omega
  · omega
  intro v2 w2 ho2 hg2 hat2
  have HO2 := hid ho2
  have HB2 := hid (grew_alloc hg2 hat2)
  clear ho2 hg2 hat2
  go_wp2_with fail
  go_ret
  exact ⟨v2, rfl, HO2.out, HB2.out⟩

theorem crc_step (f : Nat) (h : f < 4294967296) : bits .xor .u32 ((f : Int) / 2) (bits .and .u32 2197175160 (-bits .and .u32 (f : Int) 1 % 4294967296)) = ((Pg.crcBit f : Nat) : Int) := by
  have h1 := u32_and_nat f 1 h (by omega)
  rw [Nat.and_one_is_mod] at h1
  have h2 : bits .and .u32 (f : Int) 1 = ((f % 2 : Nat) : Int) := h1
  have h3 : (f : Int) / 2 = ((f / 2 : Nat) : Int) := by omega
  rw [h2, h3]
  by_cases ho : f % 2 = 1
  · rw [ho, show -((1 : Nat) : Int) % 4294967296 = ((4294967295 : Nat) : Int) by decide]
    have h4 : bits .and .u32 2197175160 ((4294967295 : Nat) : Int) = ((2197175160 : Nat) : Int) := by
      have := u32_and_nat 2197175160 4294967295 (by omega) (by omega)
      exact this
    rw [h4, u32_xor_nat _ _ (by omega) (by omega), crcBit_one ho]
  · rw [show f % 2 = 0 by omega, show -((0 : Nat) : Int) % 4294967296 = ((0 : Nat) : Int) by decide]
    have h4 : bits .and .u32 2197175160 ((0 : Nat) : Int) = ((0 : Nat) : Int) := by
      have := u32_and_nat 2197175160 0 (by omega) (by omega)
      exact this
    rw [h4, u32_xor_nat _ _ (by omega) (by omega), crcBit_zero ho, Nat.xor_zero]
set_option maxHeartbeats 1000000 in
set_option maxRecDepth 20000 in
theorem check_any (s : ByteArray) (w : World) (hs : s.size ≤ 35184372088832) :
    Calls Tryz.prog 262 #[.string s] w fun r w' => r = .returned (.int .u32 (Pg.crc s.data.toList)) ∧ w' = w := by
  go_enter Tryz.func262, Tryz.ntmps262
  go_wp2_with fail
  go_loop [3, 7] (fun c i => ∃ k : Nat, k ≤ s.size ∧ i = .int .i64 k ∧ c = .int .u32 (Pg.crcAll (s.data.toList.take k))) (fun _ i => s.size - (intOf i).toNat)
  case atStart => exact ⟨0, Nat.zero_le _, rfl, rfl⟩
  case round =>
    obtain ⟨k, hk, rfl, rfl⟩ := hrel
    have hlt := Pg.crcAll_lt (s.data.toList.take k)
    by_cases hks : k < s.size
    · have HN := hid (crc_next s k hks)
      generalize hc : Pg.crcAll (s.data.toList.take k) = c at *
      have hb : (s[k]'hks).toNat < 256 := (s[k]'hks).toNat_lt
      have hx := u32_xor_nat c (s[k]'hks).toNat hlt (by omega)
      have hx2 := Pg.xor_lt (a := c) (b := (s[k]'hks).toNat) hlt (by omega)
      have HX : Hid (Pg.crcByte c (s[k]'hks) = Pg.crcBits 8 (c ^^^ (s[k]'hks).toNat)) := rfl
      clear hc
      generalize hd : c ^^^ (s[k]'hks).toNat = d at *
      clear hd
      go_wp2_with fail
      clear hx
      go_loop [3, 16] (fun e j => ∃ m : Nat, m ≤ 8 ∧ j = .int .i64 m ∧ e = .int .u32 (Pg.crcBits m d)) (fun _ j => 8 - (intOf j).toNat)
      case atStart => exact ⟨0, Nat.zero_le _, rfl, rfl⟩
      case round =>
        obtain ⟨m, hm, rfl, rfl⟩ := hrel
        have hlt2 := Pg.crcBits_lt hx2 m
        have HS : Hid (Pg.crcBits (m + 1) d = Pg.crcBit (Pg.crcBits m d)) := rfl
        generalize hf : Pg.crcBits m d = f at *
        by_cases hm8 : m < 8
        · clear hf
          go_wp2_with fail
          go_round
          case rel => exact ⟨m + 1, by omega, by go_num, by rw [HS.out]; exact int_eq (crc_step f hlt2)⟩
          case measure => simp [intOf]; omega
        · have hm' : m = 8 := by omega
          subst hm'
          go_wp2_with fail
          go_round
          case rel => exact ⟨k + 1, by omega, by go_num, by rw [HN.out, HX.out, hf]⟩
          case measure => simp [intOf]; omega
    · have HF : Hid (bits .xor .u32 IntKind.u32.max (Pg.crcAll (s.data.toList.take k) : Int) = (Pg.crc s.data.toList : Int)) := by
        show _ = _
        have := u32_xor_nat 4294967295 (Pg.crcAll (s.data.toList.take k)) (by omega) hlt
        rw [show IntKind.u32.max = ((4294967295 : Nat) : Int) from rfl, this, List.take_of_length_le (by rw [len_size]; omega), Nat.xor_comm]; rfl
      go_wp2_with fail
      go_ret
      exact ⟨ret_int HF.out, rfl⟩

theorem low4 (n : Nat) : ∃ b c d e : UInt8, b.toNat = n % 256 ∧ c.toNat = n / 256 % 256 ∧ d.toNat = n / 65536 % 256 ∧ e.toNat = n / 16777216 % 256 ∧ Pg.low n 4 = [b, c, d, e] := ⟨UInt8.ofNat (n % 256), UInt8.ofNat (n / 256 % 256), UInt8.ofNat (n / 256 / 256 % 256), UInt8.ofNat (n / 256 / 256 / 256 % 256), by simp, by simp, by simp; omega, by simp; omega, rfl⟩

set_option maxHeartbeats 1000000 in
set_option maxRecDepth 20000 in
theorem seal_any (B : Nat) (v : Value) (l : List UInt8) (w : World) (hown : Owns B w v l) (hB : B ≤ w.heap.size) (hl : l.length ≤ 100000000000) :
    Calls Tryz.prog 233 #[v] w fun r w' => ∃ v', r = .returned v' ∧ Owns B w' v' (Pg.sealed l) ∧ Grew w w' v v' := by
  have HOWN := hid hown
  have hcv := hown.str
  clear hown
  go_enter Tryz.func233, Tryz.ntmps233
  go_wp2_with fail
  refine (check_any ⟨l.toArray⟩ _ (by rw [size_mk]; omega)).mono ?_
  rintro r w1 ⟨rfl, rfl⟩
  have hlt := Pg.crc_lt l
  rw [show (⟨l.toArray⟩ : ByteArray).data.toList = l from rfl]
  have HS : Hid (Pg.sealed l = l ++ Pg.low (Pg.crc l) 4) := rfl
  generalize Pg.crc l = n at *
  obtain ⟨b, c, d, e, hb, hc, hd, he, hl4⟩ := low4 n
  have HB := hid hb
  have HC := hid hc
  have HD := hid hd
  have HE := hid he
  have H4 := hid hl4
  clear hb hc hd he hl4 hcv
  go_wp2_with (first
    | (at_builtin; refine wpAp4 w1 rfl (.tmp 7) (.tmp 19) rfl B v _ rfl HOWN.out b c d e _ _ _ _ ?_ ?_ ?_ ?_ rfl ?_ ?_ ?_))
  · rw [HB.out]; omega
  · rw [HC.out]; omega
  · rw [HD.out]; omega
  · rw [HE.out]; omega
  · omega
  · omega
  intro v2 w2 ho2 hg2
  have HO2 := hid ho2
  have HB2 := hid hg2
  clear ho2 hg2
  go_wp2_with fail
  go_ret
  exact ⟨v2, rfl, by rw [HS.out, H4.out]; exact HO2.out, HB2.out⟩
end Go.Proofs.YtolgpnaoaodepaaGreat
