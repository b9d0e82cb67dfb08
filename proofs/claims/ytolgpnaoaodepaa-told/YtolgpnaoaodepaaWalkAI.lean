/- The walk of pages' readLeaf. -/
import Derived.Test.YtolgpnaoaodepaaWalkAH
namespace Go.Proofs.Ytolgpnaoaodepaa.Pr
open Pg
/-- Basements from the i-th on. -/
def basesR (ks : List (List UInt8)) : Nat → List (List UInt8) → Option (List (List UInt8 × List UInt8))
  | _, [] => some []
  | i, s :: r => (basementR ks i s).bind fun l => (basesR ks (i + 1) r).map (l ++ ·)
def leafR (page : List UInt8) : Option (List (List UInt8 × List UInt8)) := (headR page).bind fun h => (cutR page h.1).bind fun cs => basesR h.2 0 cs
theorem basementR_pos {ks : List (List UInt8)} {i : Nat} {s : List UInt8} {l : List (List UInt8 × List UInt8)} (h : basementR ks i s = some l) : 1 ≤ l.length := by
  unfold basementR at h
  simp only [Option.bind_eq_some_iff] at h
  obtain ⟨c, _, l', _, h3⟩ := h
  split at h3
  · rename_i hb
    simp only [Option.some.injEq] at h3
    subst h3
    unfold basOk at hb
    simp only [Bool.and_eq_true, decide_eq_true_eq] at hb
    exact hb.1.1.1.1
  · simp at h3
end Go.Proofs.Ytolgpnaoaodepaa.Pr
namespace Go.Proofs.Ytolgpnaoaodepaa
open Go.RowKit
def lfO (o : Option (List (List UInt8 × List UInt8))) : Option (Int × List (List UInt8 × List UInt8) × List Nat × List (List UInt8) × List (Int × List UInt8 × List UInt8)) := o.map fun x => (1, x, [], [], [])
theorem icells_len (l : List (ByteArray × ByteArray)) : (icells l).length = l.length * 2 := by
  induction l with
  | nil => rfl
  | cons x r ih => rw [show icells (x :: r) = .string x.1 :: .string x.2 :: icells r from rfl, List.length_cons, List.length_cons, List.length_cons, ih]; omega
theorem icells_one (l : List (ByteArray × ByteArray)) : ∀ u ∈ icells l, u.oneCell' = true := by
  intro u hu
  unfold icells at hu
  obtain ⟨x, _, hx⟩ := List.mem_flatMap.1 hu
  simp at hx
  rcases hx with rfl | rfl <;> rfl
theorem icells_app (l r : List (ByteArray × ByteArray)) : icells (l ++ r) = icells l ++ icells r := by simp [icells]
theorem plain_app (l r : List (ByteArray × ByteArray)) : plain (l ++ r) = plain l ++ plain r := by simp [plain]
/-- append(v, x...), x a row of items, as a step of a region that draws. -/
theorem stepApI (w : World) {ops : Array Oper} {o : Oper} {a : Act} {K : Act → World → Prop} {Q : Exit → Act → World → Prop} {E : Prop} (hgd : o.guard = none) (sl x : Operand)
    (ho : o.op = Op.call { callee := Callee.builtin Builtin.append, args := #[sl, x], argTypes := #[30, 30] }) (B : Nat) (v : Value) (l : List (ByteArray × ByteArray)) (hs : a.eval sl = v) (hown : OwnsI B w v l)
    (xl : List (ByteArray × ByteArray)) (g cap : Nat) (hx : a.eval x = .slice (some ⟨g, 0, none⟩) xl.length cap) (hcell : ∀ j u, (icells xl)[j]? = some u → w.cell? ((⟨g, 0, none⟩ : Addr).add j) = some u) (hb : l.length + xl.length ≤ 1000000000) (hB : B ≤ w.heap.size)
    (h : ∀ (v' : Value) (w' : World), OwnsI B w' v' (l ++ xl) → w.grownBy w' v.ownBlock → K (a.put o.dst v') w') : if Region.wanted o (yielded ops a.tmps) = true then Oper.wp Try.prog o a w K Q else E := by
  have hw : Region.wanted o (yielded ops a.tmps) = true := by simp [Region.wanted, hgd]
  rw [if_pos hw]
  obtain ⟨i, hi, hz0, hz1, hz2⟩ := info_parts info_item
  obtain ⟨v', w', hrun, ho', hg, _, _⟩ := run_append_own_at (P := Try.prog) w B 30 o.type 43 i (.agg #[.string ⟨#[]⟩, .string ⟨#[]⟩]) 2 32 Try.underlying30 hi hz0 hz1 hz2 rfl (by decide) v l.length (icells l) hown ⟨g, 0, none⟩ xl.length cap (icells xl) (icells_len xl) hcell (icells_one xl) (by unfold maxLen; omega) (by omega) hB
  have hK : K (a.put o.dst v') w' := by
    refine h v' w' ?_ hg
    unfold OwnsI
    rw [List.length_append, icells_app]
    exact ho'
  unfold Oper.wp
  simp [execOp, ho, resolve, invoke, builtin, hs, hx, hrun, Result.andThen]
  exact hK
theorem but_of_below {b : Nat} {w w' : World} (h : Below w.heap.size w w') : But b w w' := but_below h

set_option maxHeartbeats 4000000 in
set_option maxRecDepth 20000 in
theorem readLeaf_any (t : List UInt8) (w : World) :
    Calls Try.prog 63 #[.string ⟨t.toArray⟩] w fun r w' => NodeQ w (lfO (Pr.leafR t)) r w' := by
  go_enter Try.func63, Try.ntmps63
  go_wp2_with fail
  have HN0 := hid (nodeB_new w (.int .i64 0) (.slice none 0 0) (.slice none 0 0) (.slice none 0 0) (.slice none 0 0))
  have HB0 := hid ((Below.refl w.heap.size w).alloc (Nat.le_refl _) (.cells #[.int .i64 0, .slice none 0 0, .slice none 0 0, .slice none 0 0, .slice none 0 0] 34))
  have hs0 : w.heap.size < (w.alloc (.cells #[.int .i64 0, .slice none 0 0, .slice none 0 0, .slice none 0 0, .slice none 0 0] 34)).heap.size := by simp
  generalize w.alloc (.cells #[.int .i64 0, .slice none 0 0, .slice none 0 0, .slice none 0 0, .slice none 0 0] 34) = w0 at *
  refine (leafHead_any t _).mono ?_
  rintro r w1 ⟨hb1, ⟨hn, rfl⟩ | ⟨ss, fs, v1, hh, rfl, hlh, hsf, hf4, hf12⟩⟩
  · have HT : Hid (lfO (Pr.leafR t) = none) := by show _ = _; unfold Pr.leafR; rw [hn]; rfl
    have HB1 := hid (HB0.out.trans (hb1.mono (by omega)))
    clear hb1 hn
    unfold gaveUp
    go_wp2_with fail
    exact ⟨rfl, HB1.out, .inl ⟨HT.out, rfl⟩⟩
  have HT1 : Hid (Pr.leafR t = (Pr.cutR t ss).bind fun cs => Pr.basesR (lists fs) 0 cs) := by
    show _ = _; unfold Pr.leafR; rw [hh]; rfl
  obtain ⟨vs, vf, rfl, h1, h2⟩ := id hlh
  obtain ⟨sa, ca, rfl, -, -⟩ := id h1
  obtain ⟨fa, cf, rfl, -, -⟩ := id h2
  have BA := (Below.refl w1.heap.size w1).alloc (Nat.le_refl _) (.cells #[.slice sa ss.length ca, .slice fa fs.length cf] 71)
  have HN1 := hid (HN0.out.keep hb1)
  have hw1 := hb1.size
  have hs1 : w1.heap.size < (w1.alloc (.cells #[.slice sa ss.length ca, .slice fa fs.length cf] 71)).heap.size := by simp
  have HLH1 := hid hlh
  have HIS := hid (h1.below BA)
  have HX2 := hid BA
  have HB1 := hid (HB0.out.trans (hb1.mono (by omega)))
  have HVAR : Hid ((w1.alloc (.cells #[.slice sa ss.length ca, .slice fa fs.length cf] 71)).heap[w1.heap.size]? = some (.cells #[.slice sa ss.length ca, .slice fa fs.length cf] 71 (0, 0))) := heap_alloc_new _ _
  have hssl : ss.length ≤ 4 := by omega
  have HSF := hid hsf
  clear hb1 hh hlh BA hsf hf12 h1 h2 HB0 HN0
  go_wp2_with fail
  have hs2e : (w1.alloc (.cells #[.slice sa ss.length ca, .slice fa fs.length cf] 71)).heap.size = w1.heap.size + 1 := by simp
  rw [← hs2e]
  clear hs2e
  generalize w1.alloc (.cells #[.slice sa ss.length ca, .slice fa fs.length cf] 71) = w2 at *
  have BA := (Below.refl w2.heap.size w2).alloc (Nat.le_refl _) (.cells #[.int .i64 1, .slice none 0 0, .slice none 0 0, .slice none 0 0, .slice none 0 0] 34)
  have HM3 := hid (nodeB_new w2 (.int .i64 1) (.slice none 0 0) (.slice none 0 0) (.slice none 0 0) (.slice none 0 0))
  have HX3 := hid (HX2.out.trans (BA.mono (by omega)))
  have HIS3 := hid (HIS.out.below BA)
  have HV3 := hid ((BA.block w1.heap.size (by omega)).trans HVAR.out)
  have hs3 : w2.heap.size < (w2.alloc (.cells #[.int .i64 1, .slice none 0 0, .slice none 0 0, .slice none 0 0, .slice none 0 0] 34)).heap.size := by simp
  generalize w2.alloc (.cells #[.int .i64 1, .slice none 0 0, .slice none 0 0, .slice none 0 0, .slice none 0 0] 34) = w3 at *
  generalize w2.heap.size = nb at *
  clear BA HX2 HIS HVAR
  refine (cutBody_any t _ ss _ HIS3.out (by omega)).mono ?_
  rintro r w4 ⟨hb4, ⟨hn, rfl⟩ | ⟨cl, v4, hc4, rfl, ho4⟩⟩
  · have HT : Hid (lfO (Pr.leafR t) = none) := by show _ = _; rw [HT1.out, hn]; rfl
    have HB4 := hid (HB1.out.trans ((HX3.out.trans (hb4.mono (by omega))).mono (by omega)))
    clear hb4 hn
    unfold gaveUp
    go_wp2_with fail
    exact ⟨rfl, HB4.out, .inl ⟨HT.out, rfl⟩⟩
  have HT4 : Hid (Pr.leafR t = Pr.basesR (lists fs) 0 (lists cl)) := by show _ = _; rw [HT1.out, hc4]; rfl
  have hcl : cl.length = ss.length := by have := (Pr.cutR_is hc4).2.2; rw [← this]; simp [lists]
  have HX4 := hid (HX3.out.trans (hb4.mono (by omega)))
  have HM4 := hid (HM3.out.keep hb4)
  have HV4 := hid ((hb4.block w1.heap.size (by omega)).trans HV3.out)
  have HO4 := hid ho4
  have hs4 := hb4.size
  have hcl4 : cl.length ≤ fs.length := by have := HSF.out; omega
  obtain ⟨xa, xc, rfl⟩ := ho4.shape
  clear hb4 hc4 ho4 HIS3 HX3 HM3 HV3 HT1 hcl
  go_wp2_with fail
  go_loopw [15] (fun i wr => ∃ (k : Nat) (il : List (ByteArray × ByteArray)) (vi : Value), k ≤ cl.length ∧ i = .int .i64 k ∧ il.length ≤ 255 * k ∧ NodeB wr nb (.int .i64 1) vi (.slice none 0 0) (.slice none 0 0) (.slice none 0 0) ∧ OwnsI w4.heap.size wr vi il ∧ But nb w4 wr ∧ (Pr.basesR (lists fs) k (lists (cl.drop k))).map (plain il ++ ·) = Pr.basesR (lists fs) 0 (lists cl)) (fun i _ => cl.length - (intOf i).toNat)
  case atStart => exact ⟨0, [], _, Nat.zero_le _, rfl, by simp, HM4.out, World.ownsRow_nil _ _ _ _, but_refl _ _, by simp [plain]⟩
  case round =>
    obtain ⟨k, il, vi, hk, rfl, hil, hm, ho, hb, heq⟩ := hrel
    have HM := hid hm
    have HO := hid ho
    have HBT := hid hb
    have HEQ := hid heq
    have hsr := hb.size
    obtain ⟨ia, ic, rfl⟩ := rowShape ho
    have HXR := hid (but_to_below HX4.out hb (by omega) (by omega))
    have HVR := hid ((hb.block w1.heap.size (by omega) (by simp; omega)).trans HV4.out)
    have HNR := hid ((HN1.out.below HX4.out (by omega)).but hb (by omega))
    have d0 : wr.cell? ⟨w1.heap.size, 0, none⟩ = some (.slice sa ss.length ca) := by unfold World.cell?; rw [HVR.out]; rfl
    have d1 : wr.cell? ⟨w1.heap.size, 1, none⟩ = some (.slice fa fs.length cf) := by unfold World.cell?; rw [HVR.out]; rfl
    obtain ⟨m0, m1, m2, m3, m4, z0, z1, -⟩ := hm.cells
    have hnl := hm.lt
    clear hm ho hb heq
    by_cases hkl : k < cl.length
    · obtain ⟨g, cap, hge, hg1, hg2, hg3⟩ := HO4.out.shape_pos (by omega)
      injection hge with e1 e2 e3
      subst e1 e3
      have c0 : wr.cell? ⟨g, k, none⟩ = some (.string (cl[k]'hkl)) := by
        have := HO4.out.cellAt k (cl[k]'hkl) (List.getElem?_eq_getElem hkl)
        rw [← this]; unfold World.cell?; rw [HBT.out.block g (by omega) (by simp; omega)]
      have HNX : Hid (lists (cl.drop k) = (cl[k]'hkl).data.toList :: lists (cl.drop (k + 1))) := by
        show _ = _; rw [List.drop_eq_getElem_cons hkl]; rfl
      generalize cl[k]'hkl = sx at *
      have hi1 : (0 : Int) ≤ (k : Int) := by omega
      have hi2 : (k : Int) < (cl.length : Int) := by omega
      have HLD : Hid (IsLH wr.drew (.agg #[.slice sa ss.length ca, .slice fa fs.length cf]) ss fs) := HLH1.out.below HXR.out.drew
      rw [HNX.out, Pr.basesR] at HEQ
      cases hbr : Pr.basementR (lists fs) k sx.data.toList with
      | none =>
        have HT : Hid (lfO (Pr.leafR t) = none) := by show _ = _; rw [HT4.out, ← HEQ.out, hbr]; rfl
        have HC := hid (bas_no _ ss fs k sx wr.drew HLD.out (by omega) (by omega) hbr)
        clear hbr
        go_wp2_with fail
        go_region_dies
        all_goals
          refine HC.out.mono ?_
          rintro r w5 ⟨rfl, hb5⟩
          have HB5 := hid (HB1.out.trans ((HXR.out.trans ((below_drew hb5).mono (by show w1.heap.size ≤ wr.heap.size; omega))).mono (by omega)))
          clear hb5
          unfold gaveUp
          go_wp2_with fail
          exact ⟨rfl, HB5.out, .inl ⟨HT.out, rfl⟩⟩
      | some p =>
        have hp1 := Pr.basementR_pos hbr
        have HEQ2 : Hid ((Pr.basesR (lists fs) (k + 1) (lists (cl.drop (k + 1)))).map (fun r => plain il ++ (p ++ r)) = Pr.basesR (lists fs) 0 (lists cl)) := by
          show _ = _; rw [← HEQ.out, hbr]; simp only [Option.bind_some, Option.map_map]; rfl
        have HC := hid (bas_yes _ ss fs k sx wr.drew HLD.out (by omega) (by omega) hbr)
        clear hbr HEQ
        go_wp2_with fail
        go_region_law (first
          | (refine stepApI _ (by rfl) (.tmp 21) (.tmp 25) (by rfl) w4.heap.size (.slice ia il.length ic) il (by simp [Act.eval]) HOI5.out l g5 cap5 (by simp [Act.eval]) HCL5.out (by omega) (by omega) ?_
             intro v6 w6 ho6 hg6
             obtain ⟨a6, c6, rfl⟩ := rowShape ho6
             generalize hl6 : (il ++ l).length = n6 at *
             have HO6 := hid ho6
             have HG6 := hid hg6
             have HM6 : Hid (NodeB w6 nb (.int .i64 1) (.slice ia il.length ic) (.slice none 0 0) (.slice none 0 0) (.slice none 0 0)) := (hg6.block nb (by have := HM5.out.lt; omega) (fun e => by have := (World.ownsRow.lt HOI5.out nb e.symm).1; omega)).trans HM5.out
             obtain ⟨q0, q1, -, -, -, y0, y1, -⟩ := HM6.out.cells
             have HBT6 := hid (but_grown HBT5.out HOI5.out (Nat.le_refl _) hg6)
             clear ho6 hg6)
          | (go_simp
             refine HC.out.mono ?_
             rintro r w5 ⟨l, v5, hpl, rfl, ho5, hl255, hls, hb5⟩
             have hb5' := below_drew hb5
             have HOI5 : Hid (OwnsI w4.heap.size w5 (.slice ia il.length ic) il) := row_below HO.out hb5' (Nat.le_refl _)
             have HM5 := hid (HM.out.keep hb5')
             have HBT5 := hid (but_trans HBT.out (but_below (b := nb) hb5'))
             have hs5 : wr.heap.size ≤ w5.heap.size := hb5'.size
             have hl1 : 1 ≤ l.length := by have : (plain l).length = l.length := by simp [plain]
                                           rw [hpl] at hp1; omega
             have HPL := hid hpl
             obtain ⟨g5, cap5, rfl, hx5, hy5, hw5, hia⟩ := ho5.isItems.resolve_left (by rintro ⟨_, _, _, rfl⟩; simp at hl1)
             have HCL5 : Hid (∀ j u, (icells l)[j]? = some u → w5.cell? ((⟨g5, 0, none⟩ : Addr).add j) = some u) := World.ownsRow.cells ho5 rfl
             obtain ⟨q0, q1, q2, q3, q4, y0, y1, -⟩ := HM5.out.cells
             have HV5 := hid ((hb5'.block w1.heap.size (by show w1.heap.size < wr.heap.size; omega)).trans HVR.out)
             have d0' : w5.cell? ⟨w1.heap.size, 0, none⟩ = some (.slice sa ss.length ca) := by unfold World.cell?; rw [HV5.out]; rfl
             have d1' : w5.cell? ⟨w1.heap.size, 1, none⟩ = some (.slice fa fs.length cf) := by unfold World.cell?; rw [HV5.out]; rfl
             clear hls hb5 hb5' hpl hia))
        all_goals
          have HM7 := hid (HM6.out.set1 (.slice a6 n6 c6))
          have HO7 := hid (row_set (B := w4.heap.size) HO6.out (b := nb) (i := 1) (by omega) (.slice a6 n6 c6))
          have HB7 := hid (but_trans HBT6.out (but_set nb 1 w6 (.slice a6 n6 c6)))
          have hn6 : (il ++ l).length ≤ 255 * (k + 1) := by rw [List.length_append]; omega
          clear hl6
          go_wp2_with fail
          go_roundw
          case rel => exact ⟨k + 1, il ++ l, _, by omega, by go_num, hn6, HM7.out, HO7.out, HB7.out, by rw [← HEQ2.out, HPL.out, plain_app]; simp only [List.append_assoc]⟩
          case measure => simp [intOf]; omega
    · have HT : Hid (lfO (Pr.leafR t) = some (1, plain il, [], lists [], plainCh [])) := by
        show _ = _; rw [HT4.out, ← HEQ.out, List.drop_eq_nil_of_le (by omega)]; simp [lists, Pr.basesR, lfO, plainCh]
      have HBF := hid (below_put (HB1.out.trans (HXR.out.mono (by omega))) (Nat.le_refl w.heap.size) (.int .i64 1) (.slice ia il.length ic) (.slice none 0 0) (.slice none 0 0) (.slice none 0 0))
      have HNF := hid (HNR.out.put (.int .i64 1) (.slice ia il.length ic) (.slice none 0 0) (.slice none 0 0) (.slice none 0 0))
      have HOF := hid (row_shrink (row_put HO.out (b := w.heap.size) (by omega) (.int .i64 1) (.slice ia il.length ic) (.slice none 0 0) (.slice none 0 0) (.slice none 0 0)) (C := w.heap.size) (by omega))
      obtain ⟨r0, r1, r2, r3, r4, y0, y1, y2, y3, y4⟩ := HNR.out.cells
      have hil2 : il.length ≤ 1020 := by omega
      go_wp2_with fail
      refine bodyPost_ret (v := .agg #[.int .i64 1, .slice ia il.length ic, .slice none 0 0, .slice none 0 0, .slice none 0 0]) ?_ rfl ⟨HBF.out, .inr ⟨1, il, [], [], [], _, HT.out, rfl, _, _, _, _, rfl, HOF.out, World.ownsRow_nil _ _ _ _, World.ownsRow_nil _ _ _ _, World.ownsRow_nil _ _ _ _, hil2, by simp, by simp, by simp⟩⟩
      obtain ⟨q0, q1, q2, q3, q4⟩ := nodeB_result HNF.out
      unfold put5 at q0 q1 q2 q3 q4
      simp [results, Try.results63, go_sem, q0, q1, q2, q3, q4]
end Go.Proofs.Ytolgpnaoaodepaa
