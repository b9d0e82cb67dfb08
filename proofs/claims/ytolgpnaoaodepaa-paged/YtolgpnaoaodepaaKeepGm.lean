/- The walk of siltkeep's raw. -/
import Derived.Test.YtolgpnaoaodepaaKeepDm
import Derived.BigQuiet
namespace Go.Proofs.Ytolgpnaoaodepaa
open Go.RowKit
set_option maxHeartbeats 1000000 in
theorem raw_any (v : Value) (l : List Int) (i : Nat) (w : World) (hv : IsInts w v l) (hi : i ≤ 1000000) :
    Calls Try.prog 22 #[v, .int .i64 i] w fun r w' => (∃ x : Int, r = .returned (.int .i64 x) ∧ -9223372036854775808 ≤ x ∧ x ≤ 9223372036854775807) ∧ w' = w := by
  have HV := hid hv
  obtain ⟨va, vc, rfl, hl18, -, -⟩ := hv
  go_enter Try.func22, Try.ntmps22
  by_cases h0 : l.length = 0
  · have h0' : (l.length : Int) = 0 := by omega
    go_wp2_with fail
    go_ret
    exact ⟨⟨0, rfl, by omega, by omega⟩, rfl⟩
  · have h0' : ¬ (l.length : Int) = 0 := by omega
    have hlt : i % l.length < l.length := Nat.mod_lt _ (by omega)
    obtain ⟨b, off, rfl, hbl, c0, x1, x2⟩ := HV.out.at (i % l.length) hlt
    generalize l[i % l.length]'hlt = x at *
    have ht : (i : Int).tmod (l.length : Int) = ((i % l.length : Nat) : Int) := by rw [Int.tmod_eq_emod_of_nonneg (by omega)]; omega
    have hi1 : ((i % l.length : Nat) : Int) < (l.length : Int) := by omega
    generalize i % l.length = m at *
    go_wp2_with fail
    go_ret
    exact ⟨⟨x, rfl, x1, x2⟩, rfl⟩
end Go.Proofs.Ytolgpnaoaodepaa
/- The walk of siltkeep's same, of two nodes that are alike. -/
namespace Go.Proofs.Ytolgpnaoaodepaa
open Go.RowKit
theorem IsItems.at {w : World} {v : Value} {l : List (ByteArray × ByteArray)} (h : IsItems w v l) (j : Nat) (hj : j < l.length) : ∃ b off cap, v = .slice (some ⟨b, off, none⟩) l.length cap ∧ b < w.heap.size ∧ w.cell? ⟨b, off + j * 2, none⟩ = some (.string (l[j]'hj).1) ∧ w.cell? ⟨b, off + j * 2 + 1, none⟩ = some (.string (l[j]'hj).2) := by
  rcases h with ⟨a, cap, rfl, rfl⟩ | ⟨b, off, cap, h1, h2, h3, h4, h5⟩
  · simp at hj
  · exact ⟨b, off, cap, h1, h4, (h5 j hj).1, (h5 j hj).2⟩
theorem IsRow.at {w : World} {v : Value} {n : Nat} {cs : List Value} (h : IsRow w v n cs) (hn : cs.length = n) (j : Nat) (hj : j < cs.length) : ∃ b off cap, v = .slice (some ⟨b, off, none⟩) n cap ∧ b < w.heap.size ∧ w.cell? ⟨b, off + j, none⟩ = some (cs[j]'hj) := by
  obtain ⟨a, cap, h1, h2, h3 | ⟨b, off, rfl, h4, h5⟩⟩ := h
  · omega
  · exact ⟨b, off, cap, h1, h4, h5 j hj⟩
theorem IsChs.at {w : World} {v : Value} {l : List (Int × ByteArray × ByteArray)} (h : IsChs w v l) (j : Nat) (hj : j < l.length) : ∃ b off cap, v = .slice (some ⟨b, off, none⟩) l.length cap ∧ b < w.heap.size ∧ w.cell? ⟨b, off + j * 3, none⟩ = some (.int .i64 (l[j]'hj).1) ∧ w.cell? ⟨b, off + j * 3 + 1, none⟩ = some (.string (l[j]'hj).2.1) ∧ w.cell? ⟨b, off + j * 3 + 2, none⟩ = some (.string (l[j]'hj).2.2) := by
  obtain ⟨a, cap, h1, h2, h3 | ⟨b, off, rfl, h4, h5⟩⟩ := h
  · omega
  · exact ⟨b, off, cap, h1, h4, h5 j hj⟩

set_option maxHeartbeats 4000000 in
set_option maxRecDepth 20000 in
theorem same_any (va vb : Value) (kd : Int) (il : List (ByteArray × ByteArray)) (cl : List Int) (pl : List ByteArray) (ml : List (Int × ByteArray × ByteArray)) (w : World) (ha : IsNode w va kd il cl pl ml) (hb : IsNode w vb kd il cl pl ml) (hcp : cl.length ≤ pl.length + 1) :
    Calls Try.prog 13 #[va, vb] w fun r w' => r = .returned (.bool true) ∧ Below w.heap.size w w' := by
  obtain ⟨x1, x2, x3, x4, rfl, i1, l1, c1, p1, m1⟩ := ha
  obtain ⟨y1, y2, y3, y4, rfl, i2, -, c2, p2, m2⟩ := hb
  have I1 := hid i1
  have I2 := hid i2
  have C1 := hid c1
  have C2 := hid c2
  have P1 := hid p1
  have P2 := hid p2
  have M1 := hid m1
  have M2 := hid m2
  obtain ⟨ia, ic, rfl⟩ := i1.shape
  obtain ⟨ja, jc, rfl⟩ := i2.shape
  obtain ⟨ca, cc, rfl, lc, -⟩ := c1
  obtain ⟨da, dc, rfl, -, -⟩ := c2
  obtain ⟨pa, pc, rfl, lp, -⟩ := p1
  obtain ⟨qa, qc, rfl, -, -⟩ := p2
  obtain ⟨ma, mc, rfl, lm, -⟩ := m1
  obtain ⟨na, nc, rfl, -, -⟩ := m2
  have BA := (Below.refl w.heap.size w).alloc (Nat.le_refl _) (.cells #[.int .i64 kd, .slice ia il.length ic, .slice ca cl.length cc, .slice pa pl.length pc, .slice ma ml.length mc] 34)
  have HN2 : Hid (NodeB ((w.alloc (.cells #[.int .i64 kd, .slice ia il.length ic, .slice ca cl.length cc, .slice pa pl.length pc, .slice ma ml.length mc] 34)).alloc (.cells #[.int .i64 kd, .slice ja il.length jc, .slice da cl.length dc, .slice qa pl.length qc, .slice na ml.length nc] 34)) w.heap.size (.int .i64 kd) (.slice ia il.length ic) (.slice ca cl.length cc) (.slice pa pl.length pc) (.slice ma ml.length mc)) := (nodeB_new w _ _ _ _ _).keep ((Below.refl _ _).alloc (Nat.le_refl _) _)
  have HN3 : Hid (NodeB ((w.alloc (.cells #[.int .i64 kd, .slice ia il.length ic, .slice ca cl.length cc, .slice pa pl.length pc, .slice ma ml.length mc] 34)).alloc (.cells #[.int .i64 kd, .slice ja il.length jc, .slice da cl.length dc, .slice qa pl.length qc, .slice na ml.length nc] 34)) (w.heap.size + 1) (.int .i64 kd) (.slice ja il.length jc) (.slice da cl.length dc) (.slice qa pl.length qc) (.slice na ml.length nc)) := by
    have := nodeB_new (w.alloc (.cells #[.int .i64 kd, .slice ia il.length ic, .slice ca cl.length cc, .slice pa pl.length pc, .slice ma ml.length mc] 34)) (.int .i64 kd) (.slice ja il.length jc) (.slice da cl.length dc) (.slice qa pl.length qc) (.slice na ml.length nc)
    rw [show (w.alloc (.cells #[.int .i64 kd, .slice ia il.length ic, .slice ca cl.length cc, .slice pa pl.length pc, .slice ma ml.length mc] 34)).heap.size = w.heap.size + 1 by simp] at this
    exact this
  have HB2 := hid (BA.alloc (by simp) (.cells #[.int .i64 kd, .slice ja il.length jc, .slice da cl.length dc, .slice qa pl.length qc, .slice na ml.length nc] 34))
  have hs2 : w.heap.size + 2 ≤ ((w.alloc (.cells #[.int .i64 kd, .slice ia il.length ic, .slice ca cl.length cc, .slice pa pl.length pc, .slice ma ml.length mc] 34)).alloc (.cells #[.int .i64 kd, .slice ja il.length jc, .slice da cl.length dc, .slice qa pl.length qc, .slice na ml.length nc] 34)).heap.size := by simp
  clear BA i1 i2
  go_enter Try.func13, Try.ntmps13
  go_wp2_with fail
  generalize (w.alloc (.cells #[.int .i64 kd, .slice ia il.length ic, .slice ca cl.length cc, .slice pa pl.length pc, .slice ma ml.length mc] 34)).alloc (.cells #[.int .i64 kd, .slice ja il.length jc, .slice da cl.length dc, .slice qa pl.length qc, .slice na ml.length nc] 34) = w2 at *
  have HL : Hid (∀ wr, Below w2.heap.size w2 wr → Below w.heap.size w wr ∧ NodeB wr w.heap.size (.int .i64 kd) (.slice ia il.length ic) (.slice ca cl.length cc) (.slice pa pl.length pc) (.slice ma ml.length mc) ∧ NodeB wr (w.heap.size + 1) (.int .i64 kd) (.slice ja il.length jc) (.slice da cl.length dc) (.slice qa pl.length qc) (.slice na ml.length nc)) := fun wr h => ⟨HB2.out.trans (h.mono (by omega)), HN2.out.keep h, HN3.out.keep h⟩
  clear HN2 HN3 HB2
  go_loopw [5] (fun i wr => ∃ j : Nat, j ≤ il.length ∧ i = .int .i64 j ∧ Below w2.heap.size w2 wr) (fun i _ => il.length - (intOf i).toNat)
  case atStart => exact ⟨0, Nat.zero_le _, rfl, Below.refl _ _⟩
  case round =>
    obtain ⟨j, hj, rfl, hbr⟩ := hrel
    have HBR := hid hbr
    obtain ⟨hbw, hn2, hn3⟩ := HL.out wr hbr
    have HBW := hid hbw
    obtain ⟨a0, a1, a2, a3, a4, -⟩ := hn2.cells
    obtain ⟨b0, b1, b2, b3, b4, -⟩ := hn3.cells
    clear hbr hbw hn2 hn3
    by_cases hjl : j < il.length
    · obtain ⟨g1, o1, cp1, e1, q1, u1, u2⟩ := I1.out.at j hjl
      obtain ⟨g2, o2, cp2, e2, q2, u3, u4⟩ := I2.out.at j hjl
      injection e1 with f1 f2 f3
      injection e2 with f4 f5 f6
      subst f1 f3 f4 f6
      replace u1 := (HBW.out.cell (p := ⟨g1, o1 + j * 2, none⟩) q1).trans u1
      replace u2 := (HBW.out.cell (p := ⟨g1, o1 + j * 2 + 1, none⟩) q1).trans u2
      replace u3 := (HBW.out.cell (p := ⟨g2, o2 + j * 2, none⟩) q2).trans u3
      replace u4 := (HBW.out.cell (p := ⟨g2, o2 + j * 2 + 1, none⟩) q2).trans u4
      generalize il[j]'hjl = xx at *
      obtain ⟨kb, vb⟩ := xx
      simp only at u1 u2 u3 u4
      have hi1 : (0 : Int) ≤ (j : Int) := by omega
      have hi2 : (j : Int) < (il.length : Int) := by omega
      go_wp2_with fail
      go_quiet (fail)
      go_wp2_with fail
      go_roundw
      case rel => exact ⟨j + 1, by omega, by go_num, below_drewN HBR.out _⟩
      case measure => simp [intOf]; omega
    · have hi2 : ¬ (j : Int) < (il.length : Int) := by omega
      clear hi2
      have hi2 : ¬ (j : Int) < (il.length : Int) := by omega
      go_wp2_with fail
      clear a0 a1 a2 a3 a4 b0 b1 b2 b3 b4 hi2 hjl hj
      go_loopw [6] (fun i wr => ∃ j : Nat, j ≤ cl.length ∧ i = .int .i64 j ∧ Below w2.heap.size w2 wr) (fun i _ => cl.length - (intOf i).toNat)
      case atStart => exact ⟨0, Nat.zero_le _, rfl, HBR.out⟩
      case round =>
        obtain ⟨j, hj, rfl, hbr⟩ := hrel
        have HBR := hid hbr
        obtain ⟨hbw, hn2, hn3⟩ := HL.out wr hbr
        have HBW := hid hbw
        obtain ⟨a0, a1, a2, a3, a4, -⟩ := hn2.cells
        obtain ⟨b0, b1, b2, b3, b4, -⟩ := hn3.cells
        clear hbr hbw hn2 hn3
        by_cases hjl : j < cl.length
        · have hcm : j < (cl.map (Value.int .i64)).length := by simpa using hjl
          obtain ⟨g1, o1, cp1, e1, q1, u1⟩ := C1.out.at (by simp) j hcm
          obtain ⟨g2, o2, cp2, e2, q2, u3⟩ := C2.out.at (by simp) j hcm
          injection e1 with f1 f2 f3
          injection e2 with f4 f5 f6
          subst f1 f3 f4 f6
          replace u1 := (HBW.out.cell (p := ⟨g1, o1 + j, none⟩) q1).trans u1
          replace u3 := (HBW.out.cell (p := ⟨g2, o2 + j, none⟩) q2).trans u3
          rw [List.getElem_map] at u1 u3
          generalize cl[j]'hjl = xx at *
          have hi1 : (0 : Int) ≤ (j : Int) := by omega
          have hi2 : (j : Int) < (cl.length : Int) := by omega
          clear hcm
          by_cases h0 : j = 0
          · have hd1 : decide (0 < j) = false := by simp; omega
            have hd2 : decide ((0 : Int) < (j : Int)) = false := by simp; omega
            have hj1 : j ≤ 0 := by omega
            clear h0
            go_wp2_with fail
            go_quiet (fail)
            go_wp2_with fail
            go_roundw
            case rel => exact ⟨j + 1, by omega, by go_num, below_drewN HBR.out _⟩
            case measure => simp [intOf]; omega
          · have hpj : j - 1 < (pl.map Value.string).length := by rw [List.length_map]; omega
            obtain ⟨g3, o3, cp3, e3, q3, u5⟩ := P1.out.at (by simp) (j - 1) hpj
            obtain ⟨g4, o4, cp4, e4, q4, u6⟩ := P2.out.at (by simp) (j - 1) hpj
            injection e3 with f1 f2 f3
            injection e4 with f4 f5 f6
            subst f1 f3 f4 f6
            replace u5 := (HBW.out.cell (p := ⟨g3, o3 + (j - 1), none⟩) q3).trans u5
            replace u6 := (HBW.out.cell (p := ⟨g4, o4 + (j - 1), none⟩) q4).trans u6
            rw [List.getElem_map] at u5 u6
            have hpl : j - 1 < pl.length := by simpa using hpj
            generalize pl[j - 1]'hpl = yy at *
            have hd1 : decide (0 < j) = true := by simp; omega
            have hd2 : decide ((0 : Int) < (j : Int)) = true := by simp; omega
            have hw1 : IntKind.i64.wrap ((j : Int) - 1) = ((j - 1 : Nat) : Int) := by rw [IntWalk.i64_in _ ⟨by omega, by omega⟩]; omega
            have hi3 : ((j - 1 : Nat) : Int) < (pl.length : Int) := by omega
            clear hpj h0
            generalize hjp : j - 1 = jp at *
            clear hjp
            go_wp2_with fail
            go_quiet (fail)
            go_wp2_with fail
            go_roundw
            case rel => exact ⟨j + 1, by omega, by go_num, below_drewN HBR.out _⟩
            case measure => simp [intOf]; omega
        · have hi2 : ¬ (j : Int) < (cl.length : Int) := by omega
          go_wp2_with fail
          clear a0 a1 a2 a3 a4 b0 b1 b2 b3 b4 hi2 hjl hj
          go_loopw [7] (fun i wr => ∃ j : Nat, j ≤ ml.length ∧ i = .int .i64 j ∧ Below w2.heap.size w2 wr) (fun i _ => ml.length - (intOf i).toNat)
          case atStart => exact ⟨0, Nat.zero_le _, rfl, HBR.out⟩
          case round =>
            obtain ⟨j, hj, rfl, hbr⟩ := hrel
            have HBR := hid hbr
            obtain ⟨hbw, hn2, hn3⟩ := HL.out wr hbr
            have HBW := hid hbw
            obtain ⟨a0, a1, a2, a3, a4, -⟩ := hn2.cells
            obtain ⟨b0, b1, b2, b3, b4, -⟩ := hn3.cells
            clear hbr hbw hn2 hn3
            by_cases hjl : j < ml.length
            · obtain ⟨g1, o1, cp1, e1, q1, u1, u2, u5⟩ := M1.out.at j hjl
              obtain ⟨g2, o2, cp2, e2, q2, u3, u4, u6⟩ := M2.out.at j hjl
              injection e1 with f1 f2 f3
              injection e2 with f4 f5 f6
              subst f1 f3 f4 f6
              replace u1 := (HBW.out.cell (p := ⟨g1, o1 + j * 3, none⟩) q1).trans u1
              replace u2 := (HBW.out.cell (p := ⟨g1, o1 + j * 3 + 1, none⟩) q1).trans u2
              replace u5 := (HBW.out.cell (p := ⟨g1, o1 + j * 3 + 2, none⟩) q1).trans u5
              replace u3 := (HBW.out.cell (p := ⟨g2, o2 + j * 3, none⟩) q2).trans u3
              replace u4 := (HBW.out.cell (p := ⟨g2, o2 + j * 3 + 1, none⟩) q2).trans u4
              replace u6 := (HBW.out.cell (p := ⟨g2, o2 + j * 3 + 2, none⟩) q2).trans u6
              generalize ml[j]'hjl = xx at *
              obtain ⟨kk, kb, vb⟩ := xx
              simp only at u1 u2 u3 u4 u5 u6
              have hi1 : (0 : Int) ≤ (j : Int) := by omega
              have hi2 : (j : Int) < (ml.length : Int) := by omega
              go_wp2_with fail
              go_quiet (fail)
              go_wp2_with fail
              go_roundw
              case rel => exact ⟨j + 1, by omega, by go_num, below_drewN HBR.out _⟩
              case measure => simp [intOf]; omega
            · have hi2 : ¬ (j : Int) < (ml.length : Int) := by omega
              go_wp2_with fail
              go_ret
              exact ⟨rfl, HBW.out⟩
end Go.Proofs.Ytolgpnaoaodepaa
/- A branch that siltkeep's node makes: its block, and the three rows that it owns. -/
namespace Go.Proofs.Ytolgpnaoaodepaa
open Go.RowKit

/-- append(v, c), c a change that lies in a block of its own, as a step of a region that draws. -/
theorem stepApC (w : World) {ops : Array Oper} {o : Oper} {a : Act} {K : Act → World → Prop} {Q : Exit → Act → World → Prop} {E : Prop} (hgd : o.guard = none) (sl x : Operand)
    (ho : o.op = Op.call { callee := Callee.builtin Builtin.append, args := #[sl, x], argTypes := #[32, 32] }) (B : Nat) (v : Value) (l : List (Int × ByteArray × ByteArray)) (hs : a.eval sl = v) (hown : OwnsC B w v l)
    (c : Int × ByteArray × ByteArray) (g : Nat) (hx : a.eval x = .slice (some ⟨g, 0, none⟩) 1 1) (hcell : w.heap[g]? = some (.cells #[.int .i64 c.1, .string c.2.1, .string c.2.2] 52 (0, 0))) (hb : l.length + 1 ≤ 1000000000) (hB : B ≤ w.heap.size)
    (h : ∀ (v' : Value) (w' : World), OwnsC B w' v' (l ++ [c]) → w.grownBy w' v.ownBlock → (v'.ownBlock = v.ownBlock ∨ ∃ k, w.heap.size ≤ k ∧ v'.ownBlock = some k) → K (a.put o.dst v') w') : if Region.wanted o (yielded ops a.tmps) = true then Oper.wp Try.prog o a w K Q else E := by
  have hw : Region.wanted o (yielded ops a.tmps) = true := by simp [Region.wanted, hgd]
  rw [if_pos hw]
  obtain ⟨i, hi, hz0, hz1, hz2⟩ := info_parts info_change
  obtain ⟨v', w', hrun, ho', hg, _, hat⟩ := run_append_own_at (P := Try.prog) w B 32 o.type 52 i (.agg #[.int .i64 0, .string ⟨#[]⟩, .string ⟨#[]⟩]) 3 40 Try.underlying32 hi hz0 hz1 hz2 rfl (by decide) v l.length (ccells l) hown ⟨g, 0, none⟩ 1 1 [.int .i64 c.1, .string c.2.1, .string c.2.2] rfl (fun j u hj => by
    rw [add_off, Nat.zero_add]
    unfold World.cell?
    rw [hcell]
    simpa using hj) (one3 _ _ _) (by unfold maxLen; omega) (by omega) hB
  have hK : K (a.put o.dst v') w' := by
    refine h v' w' ?_ hg (hat.imp_right fun e => ⟨w.heap.size, Nat.le_refl _, e⟩)
    unfold OwnsC
    rw [List.length_append, ccells_snoc]
    exact ho'
  unfold Oper.wp
  simp [execOp, ho, resolve, invoke, builtin, hs, hx, hrun, Result.andThen]
  exact hK

/-- A branch in the block behind the one behind ws, and its rows, which the call owns. -/
structure BrN (ws wr : World) (cl : List Nat) (pl : List ByteArray) (ml : List (Int × ByteArray × ByteArray)) (vc vp vm : Value) : Prop where
  var : NodeB wr (ws.heap.size + 1) (.int .i64 2) (.slice none 0 0) vc vp vm
  kids : wr.ownsRow ws.heap.size 3 1 vc cl.length (ncells cl)
  pivs : OwnsS ws.heap.size wr vp pl
  chgs : OwnsC ws.heap.size wr vm ml
  cp : Apart vc vp
  cm : Apart vc vm
  pm : Apart vp vm
  nc : vc.ownBlock ≠ some (ws.heap.size + 1)
  np : vp.ownBlock ≠ some (ws.heap.size + 1)
  nm : vm.ownBlock ≠ some (ws.heap.size + 1)
  bel : Below ws.heap.size ws wr
  lt : ws.heap.size + 2 ≤ wr.heap.size
theorem BrN.below {ws wr wx : World} {cl : List Nat} {pl : List ByteArray} {ml : List (Int × ByteArray × ByteArray)} {vc vp vm : Value} (h : BrN ws wr cl pl ml vc vp vm) (hb : Below wr.heap.size wr wx) : BrN ws wx cl pl ml vc vp vm := by
  have h1 := h.lt; have h3 := hb.size
  exact ⟨h.var.keep hb, row_below h.kids hb (Nat.le_refl _), row_below h.pivs hb (Nat.le_refl _), row_below h.chgs hb (Nat.le_refl _), h.cp, h.cm, h.pm, h.nc, h.np, h.nm, h.bel.trans (hb.mono (by omega)), by omega⟩
theorem hat_ne {v v' : Value} {n k : Nat} (h : v.ownBlock ≠ some k) (hk : k < n) (hat : v'.ownBlock = v.ownBlock ∨ ∃ j, n ≤ j ∧ v'.ownBlock = some j) : v'.ownBlock ≠ some k := by
  rcases hat with e | ⟨j, hj, e⟩
  · rw [e]; exact h
  · rw [e]; intro e'; have : j = k := by simpa using e'
    omega
theorem row_set2 {B : Nat} {w : World} {v : Value} {T : TypeId} {s n : Nat} {xs : List Value} (h : w.ownsRow B T s v n xs) {b i : Nat} (hb : v.ownBlock ≠ some b) (u : Value) : (w.setCell ⟨b, i, none⟩ u).ownsRow B T s v n xs := World.ownsRow.kept h (but_set b i w u) (.inr hb)
theorem BrN.apC {ws wr w' : World} {cl : List Nat} {pl : List ByteArray} {ml : List (Int × ByteArray × ByteArray)} {vc vp vm v' : Value} {n : Nat} (h : BrN ws wr cl pl ml vc vp vm) (ho : w'.ownsRow ws.heap.size 3 1 v' (cl.length + 1) (ncells cl ++ [.int .i64 (n : Int)])) (hg : wr.grownBy w' vc.ownBlock) (hat : v'.ownBlock = vc.ownBlock ∨ ∃ k, wr.heap.size ≤ k ∧ v'.ownBlock = some k) :
    NodeB w' (ws.heap.size + 1) (.int .i64 2) (.slice none 0 0) vc vp vm ∧ BrN ws (w'.setCell ⟨ws.heap.size + 1, 2, none⟩ v') (cl ++ [n]) pl ml v' vp vm := by
  have hlt := h.lt
  obtain ⟨o2, ap2, bel2⟩ := rows_apart h.pivs h.kids (by omega) h.cp.symm hg hat
  obtain ⟨o3, ap3, -⟩ := rows_apart h.chgs h.kids (by omega) h.cm.symm hg hat
  have hv : NodeB w' (ws.heap.size + 1) (.int .i64 2) (.slice none 0 0) vc vp vm := (hg.block _ (by omega) (fun e => h.nc e.symm)).trans h.var
  have hne := hat_ne h.nc (by omega) hat
  have hsz := bel2.size
  refine ⟨hv, hv.set2 v', ?_, row_set2 o2 h.np _, row_set2 o3 h.nm _, ap2.symm, ap3.symm, h.pm, hne, h.np, h.nm, (h.bel.trans (bel2.mono (by omega))).setCell (p := ⟨ws.heap.size + 1, 2, none⟩) (by simp) _, by simp [World.setCell]; omega⟩
  have e : ncells (cl ++ [n]) = ncells cl ++ [.int .i64 (n : Int)] := by simp [ncells]
  rw [e, List.length_append]
  exact row_set2 ho hne _
theorem BrN.apP {ws wr w' : World} {cl : List Nat} {pl : List ByteArray} {ml : List (Int × ByteArray × ByteArray)} {vc vp vm v' : Value} {s : ByteArray} (h : BrN ws wr cl pl ml vc vp vm) (ho : OwnsS ws.heap.size w' v' (pl ++ [s])) (hg : wr.grownBy w' vp.ownBlock) (hat : v'.ownBlock = vp.ownBlock ∨ ∃ k, wr.heap.size ≤ k ∧ v'.ownBlock = some k) :
    NodeB w' (ws.heap.size + 1) (.int .i64 2) (.slice none 0 0) vc vp vm ∧ BrN ws (w'.setCell ⟨ws.heap.size + 1, 3, none⟩ v') cl (pl ++ [s]) ml vc v' vm := by
  have hlt := h.lt
  obtain ⟨o2, ap2, bel2⟩ := rows_apart h.kids h.pivs (by omega) h.cp hg hat
  obtain ⟨o3, ap3, -⟩ := rows_apart h.chgs h.pivs (by omega) h.pm.symm hg hat
  have hv : NodeB w' (ws.heap.size + 1) (.int .i64 2) (.slice none 0 0) vc vp vm := (hg.block _ (by omega) (fun e => h.np e.symm)).trans h.var
  have hne := hat_ne h.np (by omega) hat
  have hsz := bel2.size
  exact ⟨hv, hv.set3 v', row_set2 o2 h.nc _, row_set2 ho hne _, row_set2 o3 h.nm _, ap2, h.cm, ap3.symm, h.nc, hne, h.nm, (h.bel.trans (bel2.mono (by omega))).setCell (p := ⟨ws.heap.size + 1, 3, none⟩) (by simp) _, by simp [World.setCell]; omega⟩
theorem BrN.apM {ws wr w' : World} {cl : List Nat} {pl : List ByteArray} {ml : List (Int × ByteArray × ByteArray)} {vc vp vm v' : Value} {c : Int × ByteArray × ByteArray} (h : BrN ws wr cl pl ml vc vp vm) (ho : OwnsC ws.heap.size w' v' (ml ++ [c])) (hg : wr.grownBy w' vm.ownBlock) (hat : v'.ownBlock = vm.ownBlock ∨ ∃ k, wr.heap.size ≤ k ∧ v'.ownBlock = some k) :
    NodeB w' (ws.heap.size + 1) (.int .i64 2) (.slice none 0 0) vc vp vm ∧ BrN ws (w'.setCell ⟨ws.heap.size + 1, 4, none⟩ v') cl pl (ml ++ [c]) vc vp v' := by
  have hlt := h.lt
  obtain ⟨o2, ap2, bel2⟩ := rows_apart h.kids h.chgs (by omega) h.cm hg hat
  obtain ⟨o3, ap3, -⟩ := rows_apart h.pivs h.chgs (by omega) h.pm hg hat
  have hv : NodeB w' (ws.heap.size + 1) (.int .i64 2) (.slice none 0 0) vc vp vm := (hg.block _ (by omega) (fun e => h.nm e.symm)).trans h.var
  have hne := hat_ne h.nm (by omega) hat
  have hsz := bel2.size
  exact ⟨hv, hv.set4 v', row_set2 o2 h.nc _, row_set2 o3 h.np _, row_set2 ho hne _, h.cp, ap2, ap3, h.nc, h.np, hne, (h.bel.trans (bel2.mono (by omega))).setCell (p := ⟨ws.heap.size + 1, 4, none⟩) (by simp) _, by simp [World.setCell]; omega⟩
end Go.Proofs.Ytolgpnaoaodepaa
