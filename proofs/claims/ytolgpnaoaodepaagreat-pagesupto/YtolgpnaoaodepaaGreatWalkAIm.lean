/- The walk of pages' readLeaf. -/
import Derived.Test.YtolgpnaoaodepaaGreatWalkAFm
namespace Go.Proofs.YtolgpnaoaodepaaGreat.Pr
open Pg
/-- Basements from the i-th on. -/
def basesR (ks : List (List UInt8)) : Nat → List (List UInt8) → Option (List (List UInt8 × List UInt8))
  | _, [] => some []
  | i, s :: r => (basementR ks i s).bind fun l => (basesR ks (i + 1) r).map (l ++ ·)
def leafR (page : List UInt8) : Option (List (List UInt8 × List UInt8)) := (headR page).bind fun h => (cutR page h.1).bind fun cs => basesR h.2 0 cs
theorem basementR_pos {ks : List (List UInt8)} {i : Nat} {s : List UInt8} {l : List (List UInt8 × List UInt8)} (h : basementR ks i s = some l) : 1 ≤ l.length := by
  unfold basementR at h
  simp only [Option.bind_eq_some_iff] at h
  obtain ⟨c, _, l', _, h3⟩ := h
  split at h3
  · rename_i hb
    simp only [Option.some.injEq] at h3
    subst h3
    unfold basOk at hb
    simp only [Bool.and_eq_true, decide_eq_true_eq] at hb
    exact hb.1.1.1.1
  · simp at h3
end Go.Proofs.YtolgpnaoaodepaaGreat.Pr
namespace Go.Proofs.YtolgpnaoaodepaaGreat
open Go.RowKit
def lfO (o : Option (List (List UInt8 × List UInt8))) : Option (Int × List (List UInt8 × List UInt8) × List Nat × List (List UInt8) × List (Int × List UInt8 × List UInt8)) := o.map fun x => (1, x, [], [], [])
theorem icells_len (l : List (ByteArray × ByteArray)) : (icells l).length = l.length * 2 := by
  induction l with
  | nil => rfl
  | cons x r ih => rw [show icells (x :: r) = .string x.1 :: .string x.2 :: icells r from rfl, List.length_cons, List.length_cons, List.length_cons, ih]; omega
theorem icells_one (l : List (ByteArray × ByteArray)) : ∀ u ∈ icells l, u.oneCell' = true := by
  intro u hu
  unfold icells at hu
  obtain ⟨x, _, hx⟩ := List.mem_flatMap.1 hu
  simp at hx
  rcases hx with rfl | rfl <;> rfl
theorem icells_app (l r : List (ByteArray × ByteArray)) : icells (l ++ r) = icells l ++ icells r := by simp [icells]
theorem plain_app (l r : List (ByteArray × ByteArray)) : plain (l ++ r) = plain l ++ plain r := by simp [plain]
/-- append(v, x...), x a row of items, as a step of a region that draws. -/
theorem stepApI (w : World) {ops : Array Oper} {o : Oper} {a : Act} {K : Act → World → Prop} {Q : Exit → Act → World → Prop} {E : Prop} (hgd : o.guard = none) (sl x : Operand)
    (ho : o.op = Op.call { callee := Callee.builtin Builtin.append, args := #[sl, x], argTypes := #[30, 30] }) (B : Nat) (v : Value) (l : List (ByteArray × ByteArray)) (hs : a.eval sl = v) (hown : OwnsI B w v l)
    (xl : List (ByteArray × ByteArray)) (g cap : Nat) (hx : a.eval x = .slice (some ⟨g, 0, none⟩) xl.length cap) (hcell : ∀ j u, (icells xl)[j]? = some u → w.cell? ((⟨g, 0, none⟩ : Addr).add j) = some u) (hb : l.length + xl.length ≤ 1000000000) (hB : B ≤ w.heap.size)
    (h : ∀ (v' : Value) (w' : World), OwnsI B w' v' (l ++ xl) → w.grownBy w' v.ownBlock → K (a.put o.dst v') w') : if Region.wanted o (yielded ops a.tmps) = true then Oper.wp Tryz.prog o a w K Q else E := by
  have hw : Region.wanted o (yielded ops a.tmps) = true := by simp [Region.wanted, hgd]
  rw [if_pos hw]
  obtain ⟨i, hi, hz0, hz1, hz2⟩ := info_parts info_item
  obtain ⟨v', w', hrun, ho', hg, _, _⟩ := run_append_own_at (P := Tryz.prog) w B 30 o.type 51 i (.agg #[.string ⟨#[]⟩, .string ⟨#[]⟩]) 2 32 Tryz.underlying30 hi hz0 hz1 hz2 rfl (by decide) v l.length (icells l) hown ⟨g, 0, none⟩ xl.length cap (icells xl) (icells_len xl) hcell (icells_one xl) (by unfold maxLen; omega) (by omega) hB
  have hK : K (a.put o.dst v') w' := by
    refine h v' w' ?_ hg
    unfold OwnsI
    rw [List.length_append, icells_app]
    exact ho'
  unfold Oper.wp
  simp [execOp, ho, resolve, invoke, builtin, hs, hx, hrun, Result.andThen]
  exact hK
theorem but_of_below {b : Nat} {w w' : World} (h : Below w.heap.size w w') : But b w w' := but_below h

set_option maxHeartbeats 4000000 in
set_option maxRecDepth 20000 in
theorem readLeaf_any (t : List UInt8) (w : World) :
    Calls Tryz.prog 201 #[.string ⟨t.toArray⟩] w fun r w' => NodeQ w (lfO (Pr.leafR t)) r w' := by
  go_enter Tryz.func201, Tryz.ntmps201
  go_wp2_with fail
  have HN0 := hid (nodeB_new w (.int .i64 0) (.slice none 0 0) (.slice none 0 0) (.slice none 0 0) (.slice none 0 0))
  have HB0 := hid ((Below.refl w.heap.size w).alloc (Nat.le_refl _) (.cells #[.int .i64 0, .slice none 0 0, .slice none 0 0, .slice none 0 0, .slice none 0 0] 79))
  have hs0 : w.heap.size < (w.alloc (.cells #[.int .i64 0, .slice none 0 0, .slice none 0 0, .slice none 0 0, .slice none 0 0] 79)).heap.size := by simp
  generalize w.alloc (.cells #[.int .i64 0, .slice none 0 0, .slice none 0 0, .slice none 0 0, .slice none 0 0] 79) = w0 at *
  refine (leafHead_any t _).mono ?_
  rintro r w1 ⟨hb1, ⟨hn, rfl⟩ | ⟨ss, fs, v1, hh, rfl, hlh, hsf, hf4, hf12⟩⟩
  · have HT : Hid (lfO (Pr.leafR t) = none) := by show _ = _; unfold Pr.leafR; rw [hn]; rfl
    have HB1 := hid (HB0.out.trans (hb1.mono (by omega)))
    clear hb1 hn
    unfold gaveUp
    go_wp2_with fail
    exact ⟨rfl, HB1.out, .inl ⟨HT.out, rfl⟩⟩
  have HT1 : Hid (Pr.leafR t = (Pr.cutR t ss).bind fun cs => Pr.basesR (lists fs) 0 cs) := by
    show _ = _; unfold Pr.leafR; rw [hh]; rfl
  obtain ⟨vs, vf, rfl, h1, h2⟩ := id hlh
  obtain ⟨sa, ca, rfl, -, -⟩ := id h1
  obtain ⟨fa, cf, rfl, -, -⟩ := id h2
  have BA := (Below.refl w1.heap.size w1).alloc (Nat.le_refl _) (.cells #[.slice sa ss.length ca, .slice fa fs.length cf] 233)
  have HN1 := hid (HN0.out.keep hb1)
  have hw1 := hb1.size
  have hs1 : w1.heap.size < (w1.alloc (.cells #[.slice sa ss.length ca, .slice fa fs.length cf] 233)).heap.size := by simp
  have HLH1 := hid hlh
  have HIS := hid (h1.below BA)
  have HX2 := hid BA
  have HB1 := hid (HB0.out.trans (hb1.mono (by omega)))
  have HVAR : Hid ((w1.alloc (.cells #[.slice sa ss.length ca, .slice fa fs.length cf] 233)).heap[w1.heap.size]? = some (.cells #[.slice sa ss.length ca, .slice fa fs.length cf] 233 (0, 0))) := heap_alloc_new _ _
  have hssl : ss.length ≤ 4 := by omega
  have HSF := hid hsf
  clear hb1 hh hlh BA hsf hf12 h1 h2 HB0 HN0
  go_wp2_with fail
  have hs2e : (w1.alloc (.cells #[.slice sa ss.length ca, .slice fa fs.length cf] 233)).heap.size = w1.heap.size + 1 := by simp
  rw [← hs2e]
  clear hs2e
  generalize w1.alloc (.cells #[.slice sa ss.length ca, .slice fa fs.length cf] 233) = w2 at *
  have BA := (Below.refl w2.heap.size w2).alloc (Nat.le_refl _) (.cells #[.int .i64 1, .slice none 0 0, .slice none 0 0, .slice none 0 0, .slice none 0 0] 79)
  have HM3 := hid (nodeB_new w2 (.int .i64 1) (.slice none 0 0) (.slice none 0 0) (.slice none 0 0) (.slice none 0 0))
  have HX3 := hid (HX2.out.trans (BA.mono (by omega)))
  have HIS3 := hid (HIS.out.below BA)
  have HV3 := hid ((BA.block w1.heap.size (by omega)).trans HVAR.out)
  have hs3 : w2.heap.size < (w2.alloc (.cells #[.int .i64 1, .slice none 0 0, .slice none 0 0, .slice none 0 0, .slice none 0 0] 79)).heap.size := by simp
  generalize w2.alloc (.cells #[.int .i64 1, .slice none 0 0, .slice none 0 0, .slice none 0 0, .slice none 0 0] 79) = w3 at *
  generalize w2.heap.size = nb at *
  clear BA HX2 HIS HVAR
  refine (cutBody_any t _ ss _ HIS3.out (by omega)).mono ?_
  rintro r w4 ⟨hb4, ⟨hn, rfl⟩ | ⟨cl, v4, hc4, rfl, ho4⟩⟩
  · have HT : Hid (lfO (Pr.leafR t) = none) := by show _ = _; rw [HT1.out, hn]; rfl
    have HB4 := hid (HB1.out.trans ((HX3.out.trans (hb4.mono (by omega))).mono (by omega)))
    clear hb4 hn
    unfold gaveUp
    go_wp2_with fail
    exact ⟨rfl, HB4.out, .inl ⟨HT.out, rfl⟩⟩
  have HT4 : Hid (Pr.leafR t = Pr.basesR (lists fs) 0 (lists cl)) := by show _ = _; rw [HT1.out, hc4]; rfl
  have hcl : cl.length = ss.length := by have := (Pr.cutR_is hc4).2.2; rw [← this]; simp [lists]
  have HX4 := hid (HX3.out.trans (hb4.mono (by omega)))
  have HM4 := hid (HM3.out.keep hb4)
  have HV4 := hid ((hb4.block w1.heap.size (by omega)).trans HV3.out)
  have HO4 := hid ho4
  have hs4 := hb4.size
  have hcl4 : cl.length ≤ fs.length := by have := HSF.out; omega
  obtain ⟨xa, xc, rfl⟩ := ho4.shape
  clear hb4 hc4 ho4 HIS3 HX3 HM3 HV3 HT1 hcl
  go_wp2_with fail
  go_loopw [15] (fun i wr => ∃ (k : Nat) (il : List (ByteArray × ByteArray)) (vi : Value), k ≤ cl.length ∧ i = .int .i64 k ∧ il.length ≤ 255 * k ∧ NodeB wr nb (.int .i64 1) vi (.slice none 0 0) (.slice none 0 0) (.slice none 0 0) ∧ OwnsI w4.heap.size wr vi il ∧ But nb w4 wr ∧ (Pr.basesR (lists fs) k (lists (cl.drop k))).map (plain il ++ ·) = Pr.basesR (lists fs) 0 (lists cl)) (fun i _ => cl.length - (intOf i).toNat)
  case atStart => exact ⟨0, [], _, Nat.zero_le _, rfl, by simp, HM4.out, World.ownsRow_nil _ _ _ _, but_refl _ _, by simp [plain]⟩
  case round =>
    obtain ⟨k, il, vi, hk, rfl, hil, hm, ho, hb, heq⟩ := hrel
    have HM := hid hm
    have HO := hid ho
    have HBT := hid hb
    have HEQ := hid heq
    have hsr := hb.size
    obtain ⟨ia, ic, rfl⟩ := rowShape ho
    have HXR := hid (but_to_below HX4.out hb (by omega) (by omega))
    have HVR := hid ((hb.block w1.heap.size (by omega) (by simp; omega)).trans HV4.out)
    have HNR := hid ((HN1.out.below HX4.out (by omega)).but hb (by omega))
    have d0 : wr.cell? ⟨w1.heap.size, 0, none⟩ = some (.slice sa ss.length ca) := by unfold World.cell?; rw [HVR.out]; rfl
    have d1 : wr.cell? ⟨w1.heap.size, 1, none⟩ = some (.slice fa fs.length cf) := by unfold World.cell?; rw [HVR.out]; rfl
    obtain ⟨m0, m1, m2, m3, m4, z0, z1, -⟩ := hm.cells
    have hnl := hm.lt
    clear hm ho hb heq
    by_cases hkl : k < cl.length
    · obtain ⟨g, cap, hge, hg1, hg2, hg3⟩ := HO4.out.shape_pos (by omega)
      injection hge with e1 e2 e3
      subst e1 e3
      have c0 : wr.cell? ⟨g, k, none⟩ = some (.string (cl[k]'hkl)) := by
        have := HO4.out.cellAt k (cl[k]'hkl) (List.getElem?_eq_getElem hkl)
        rw [← this]; unfold World.cell?; rw [HBT.out.block g (by omega) (by simp; omega)]
      have HNX : Hid (lists (cl.drop k) = (cl[k]'hkl).data.toList :: lists (cl.drop (k + 1))) := by
        show _ = _; rw [List.drop_eq_getElem_cons hkl]; rfl
      generalize cl[k]'hkl = sx at *
      have hi1 : (0 : Int) ≤ (k : Int) := by omega
      have hi2 : (k : Int) < (cl.length : Int) := by omega
      have HLD : Hid (IsLH wr.drew (.agg #[.slice sa ss.length ca, .slice fa fs.length cf]) ss fs) := HLH1.out.below HXR.out.drew
      rw [HNX.out, Pr.basesR] at HEQ
      cases hbr : Pr.basementR (lists fs) k sx.data.toList with
      | none =>
        have HT : Hid (lfO (Pr.leafR t) = none) := by show _ = _; rw [HT4.out, ← HEQ.out, hbr]; rfl
        have HC := hid (bas_no _ ss fs k sx wr.drew HLD.out (by omega) (by omega) hbr)
        clear hbr
        go_wp2_with fail
        go_region_dies
        all_goals
          refine HC.out.mono ?_
          rintro r w5 ⟨rfl, hb5⟩
          have HB5 := hid (HB1.out.trans ((HXR.out.trans ((below_drew hb5).mono (by show w1.heap.size ≤ wr.heap.size; omega))).mono (by omega)))
          clear hb5
          unfold gaveUp
          go_wp2_with fail
          exact ⟨rfl, HB5.out, .inl ⟨HT.out, rfl⟩⟩
      | some p =>
        have hp1 := Pr.basementR_pos hbr
        have HEQ2 : Hid ((Pr.basesR (lists fs) (k + 1) (lists (cl.drop (k + 1)))).map (fun r => plain il ++ (p ++ r)) = Pr.basesR (lists fs) 0 (lists cl)) := by
          show _ = _; rw [← HEQ.out, hbr]; simp only [Option.bind_some, Option.map_map]; rfl
        have HC := hid (bas_yes _ ss fs k sx wr.drew HLD.out (by omega) (by omega) hbr)
        clear hbr HEQ
        go_wp2_with fail
        go_region_law (first
          | (refine stepApI _ (by rfl) (.tmp 21) (.tmp 25) (by rfl) w4.heap.size (.slice ia il.length ic) il (by simp [Act.eval]) HOI5.out l g5 cap5 (by simp [Act.eval]) HCL5.out (by omega) (by omega) ?_
             intro v6 w6 ho6 hg6
             obtain ⟨a6, c6, rfl⟩ := rowShape ho6
             generalize hl6 : (il ++ l).length = n6 at *
             have HO6 := hid ho6
             have HG6 := hid hg6
             have HM6 : Hid (NodeB w6 nb (.int .i64 1) (.slice ia il.length ic) (.slice none 0 0) (.slice none 0 0) (.slice none 0 0)) := (hg6.block nb (by have := HM5.out.lt; omega) (fun e => by have := (World.ownsRow.lt HOI5.out nb e.symm).1; omega)).trans HM5.out
             obtain ⟨q0, q1, -, -, -, y0, y1, -⟩ := HM6.out.cells
             have HBT6 := hid (but_grown HBT5.out HOI5.out (Nat.le_refl _) hg6)
             clear ho6 hg6)
          | (go_simp
             refine HC.out.mono ?_
             rintro r w5 ⟨l, v5, hpl, rfl, ho5, hl255, hls, hb5⟩
             have hb5' := below_drew hb5
             have HOI5 : Hid (OwnsI w4.heap.size w5 (.slice ia il.length ic) il) := row_below HO.out hb5' (Nat.le_refl _)
             have HM5 := hid (HM.out.keep hb5')
             have HBT5 := hid (but_trans HBT.out (but_below (b := nb) hb5'))
             have hs5 : wr.heap.size ≤ w5.heap.size := hb5'.size
             have hl1 : 1 ≤ l.length := by have : (plain l).length = l.length := by simp [plain]
                                           rw [hpl] at hp1; omega
             have HPL := hid hpl
             obtain ⟨g5, cap5, rfl, hx5, hy5, hw5, hia⟩ := ho5.isItems.resolve_left (by rintro ⟨_, _, _, rfl⟩; simp at hl1)
             have HCL5 : Hid (∀ j u, (icells l)[j]? = some u → w5.cell? ((⟨g5, 0, none⟩ : Addr).add j) = some u) := World.ownsRow.cells ho5 rfl
             obtain ⟨q0, q1, q2, q3, q4, y0, y1, -⟩ := HM5.out.cells
             have HV5 := hid ((hb5'.block w1.heap.size (by show w1.heap.size < wr.heap.size; omega)).trans HVR.out)
             have d0' : w5.cell? ⟨w1.heap.size, 0, none⟩ = some (.slice sa ss.length ca) := by unfold World.cell?; rw [HV5.out]; rfl
             have d1' : w5.cell? ⟨w1.heap.size, 1, none⟩ = some (.slice fa fs.length cf) := by unfold World.cell?; rw [HV5.out]; rfl
             clear hls hb5 hb5' hpl hia))
        all_goals
          have HM7 := hid (HM6.out.set1 (.slice a6 n6 c6))
          have HO7 := hid (row_set (B := w4.heap.size) HO6.out (b := nb) (i := 1) (by omega) (.slice a6 n6 c6))
          have HB7 := hid (but_trans HBT6.out (but_set nb 1 w6 (.slice a6 n6 c6)))
          have hn6 : (il ++ l).length ≤ 255 * (k + 1) := by rw [List.length_append]; omega
          clear hl6
          go_wp2_with fail
          go_roundw
          case rel => exact ⟨k + 1, il ++ l, _, by omega, by go_num, hn6, HM7.out, HO7.out, HB7.out, by rw [← HEQ2.out, HPL.out, plain_app]; simp only [List.append_assoc]⟩
          case measure => simp [intOf]; omega
    · have HT : Hid (lfO (Pr.leafR t) = some (1, plain il, [], lists [], plainCh [])) := by
        show _ = _; rw [HT4.out, ← HEQ.out, List.drop_eq_nil_of_le (by omega)]; simp [lists, Pr.basesR, lfO, plainCh]
      have HBF := hid (below_put (HB1.out.trans (HXR.out.mono (by omega))) (Nat.le_refl w.heap.size) (.int .i64 1) (.slice ia il.length ic) (.slice none 0 0) (.slice none 0 0) (.slice none 0 0))
      have HNF := hid (HNR.out.put (.int .i64 1) (.slice ia il.length ic) (.slice none 0 0) (.slice none 0 0) (.slice none 0 0))
      have HOF := hid (row_shrink (row_put HO.out (b := w.heap.size) (by omega) (.int .i64 1) (.slice ia il.length ic) (.slice none 0 0) (.slice none 0 0) (.slice none 0 0)) (C := w.heap.size) (by omega))
      obtain ⟨r0, r1, r2, r3, r4, y0, y1, y2, y3, y4⟩ := HNR.out.cells
      have hil2 : il.length ≤ 1020 := by omega
      go_wp2_with fail
      refine bodyPost_ret (v := .agg #[.int .i64 1, .slice ia il.length ic, .slice none 0 0, .slice none 0 0, .slice none 0 0]) ?_ rfl ⟨HBF.out, .inr ⟨1, il, [], [], [], _, HT.out, rfl, _, _, _, _, rfl, HOF.out, World.ownsRow_nil _ _ _ _, World.ownsRow_nil _ _ _ _, World.ownsRow_nil _ _ _ _, hil2, by simp, by simp, by simp⟩⟩
      obtain ⟨q0, q1, q2, q3, q4⟩ := nodeB_result HNF.out
      unfold put5 at q0 q1 q2 q3 q4
      simp [results, Tryz.results201, go_sem, q0, q1, q2, q3, q4]
end Go.Proofs.YtolgpnaoaodepaaGreat
/- The walks of pages' readEither and Read. -/
namespace Go.Proofs.YtolgpnaoaodepaaGreat.Pr
open Pg
abbrev NodeT := Int × List (List UInt8 × List UInt8) × List Nat × List (List UInt8) × List (Int × List UInt8 × List UInt8)
def eitherR (t : List UInt8) : Option NodeT := if t.take 3 = [83, 50, 73] then brO (branchR t) else lfO (leafR t)
def wellT (n : NodeT) : Bool := well n.1 n.2.1 (n.2.2.1.map Int.ofNat) n.2.2.2.1 n.2.2.2.2
def pageT (n : NodeT) : List UInt8 := page n.1 n.2.1 (n.2.2.1.map Int.ofNat) n.2.2.2.1 n.2.2.2.2
def readR (t : List UInt8) : Option NodeT := (eitherR t).bind fun n => if wellT n = true then (if pageT n = t then some n else none) else none
theorem readR_is {t : List UInt8} {n : NodeT} (h : readR t = some n) : wellT n = true ∧ pageT n = t := by
  unfold readR at h
  rw [Option.bind_eq_some_iff] at h
  obtain ⟨m, _, h2⟩ := h
  by_cases h3 : wellT m = true
  · rw [if_pos h3] at h2
    by_cases h4 : pageT m = t
    · rw [if_pos h4] at h2; simp only [Option.some.injEq] at h2; subst h2; exact ⟨h3, h4⟩
    · rw [if_neg h4] at h2; simp at h2
  · rw [if_neg h3] at h2; simp at h2
end Go.Proofs.YtolgpnaoaodepaaGreat.Pr
namespace Go.Proofs.YtolgpnaoaodepaaGreat
open Go.RowKit
theorem NodeV.isNode {B : Nat} {w : World} {v : Value} {kd : Int} {il : List (ByteArray × ByteArray)} {cl : List Nat} {pl : List ByteArray} {ml : List (Int × ByteArray × ByteArray)} (h : NodeV B w v kd il cl pl ml) : IsNode w v kd il (cl.map Int.ofNat) pl ml := by
  obtain ⟨v1, v2, v3, v4, e, h1, h2, h3, h4, b1, b2, b3, b4⟩ := h
  refine ⟨v1, v2, v3, v4, e, ownsI_items h1, by omega, ?_, ?_, h4.isChs (by omega)⟩
  · have := ownsRow.isRow h2 (by omega)
    rw [List.length_map, List.map_map]
    exact this
  · exact ownsRow.isRow h3 (by omega)
theorem NodeV.put {B : Nat} {w : World} {v : Value} {kd : Int} {il : List (ByteArray × ByteArray)} {cl : List Nat} {pl : List ByteArray} {ml : List (Int × ByteArray × ByteArray)} (h : NodeV B w v kd il cl pl ml) {b : Nat} (hb : b < B) (u0 u1 u2 u3 u4 : Value) : NodeV B (put5 w b u0 u1 u2 u3 u4) v kd il cl pl ml := by
  obtain ⟨v1, v2, v3, v4, e, h1, h2, h3, h4, b1⟩ := h
  exact ⟨v1, v2, v3, v4, e, row_put h1 hb _ _ _ _ _, row_put h2 hb _ _ _ _ _, row_put h3 hb _ _ _ _ _, row_put h4 hb _ _ _ _ _, b1⟩
theorem NodeV.below {B : Nat} {w w' : World} {v : Value} {kd : Int} {il : List (ByteArray × ByteArray)} {cl : List Nat} {pl : List ByteArray} {ml : List (Int × ByteArray × ByteArray)} (h : NodeV B w v kd il cl pl ml) (hb : Below w.heap.size w w') : NodeV B w' v kd il cl pl ml := by
  obtain ⟨v1, v2, v3, v4, e, h1, h2, h3, h4, b1⟩ := h
  exact ⟨v1, v2, v3, v4, e, row_below h1 hb (Nat.le_refl _), row_below h2 hb (Nat.le_refl _), row_below h3 hb (Nat.le_refl _), row_below h4 hb (Nat.le_refl _), b1⟩
theorem NodeV.shrink {B C : Nat} {w : World} {v : Value} {kd : Int} {il : List (ByteArray × ByteArray)} {cl : List Nat} {pl : List ByteArray} {ml : List (Int × ByteArray × ByteArray)} (h : NodeV B w v kd il cl pl ml) (hc : C ≤ B) : NodeV C w v kd il cl pl ml := by
  obtain ⟨v1, v2, v3, v4, e, h1, h2, h3, h4, b1⟩ := h
  exact ⟨v1, v2, v3, v4, e, row_shrink h1 hc, row_shrink h2 hc, row_shrink h3 hc, row_shrink h4 hc, b1⟩
theorem NodeV.shape {B : Nat} {w : World} {v : Value} {kd : Int} {il : List (ByteArray × ByteArray)} {cl : List Nat} {pl : List ByteArray} {ml : List (Int × ByteArray × ByteArray)} (h : NodeV B w v kd il cl pl ml) : ∃ a1 c1 a2 c2 a3 c3 a4 c4, v = .agg #[.int .i64 kd, .slice a1 il.length c1, .slice a2 cl.length c2, .slice a3 pl.length c3, .slice a4 ml.length c4] := by
  obtain ⟨v1, v2, v3, v4, e, h1, h2, h3, h4, b1⟩ := h
  obtain ⟨a1, c1, rfl⟩ := rowShape h1
  obtain ⟨a2, c2, rfl⟩ := rowShape h2
  obtain ⟨a3, c3, rfl⟩ := rowShape h3
  obtain ⟨a4, c4, rfl⟩ := rowShape h4
  exact ⟨a1, c1, a2, c2, a3, c3, a4, c4, e⟩

set_option maxHeartbeats 1000000 in
theorem prefixLite (t : List UInt8) (w : World) :
    Calls Tryz.prog 243 #[.string ⟨t.toArray⟩, .string ⟨#[83, 50, 73]⟩] w fun r w' => r = .returned (.bool (decide (t.take 3 = [83, 50, 73]))) ∧ w' = w := by
  have hz := size_mk t
  generalize hres : decide (t.take 3 = [83, 50, 73]) = res
  have HR := hid hres
  clear hres
  go_enter Tryz.func243, Tryz.ntmps243
  by_cases h3 : 3 ≤ t.length
  · have hi : (3 : Int) ≤ (t.length : Int) := by omega
    have he := ext_take t 3
    go_wp2_with fail
    go_ret
    refine ⟨?_, rfl⟩
    rw [← HR.out]
    show Ending.returned (.bool (t.take 3 == [83, 50, 73])) = _
    rw [show (t.take 3 == [83, 50, 73]) = decide (t.take 3 = [83, 50, 73]) from Bool.eq_iff_iff.2 (by simp)]
  · have hi : ¬ (3 : Int) ≤ (t.length : Int) := by omega
    have HF : Hid (res = false) := by
      show _ = _; rw [← HR.out]; exact decide_eq_false fun e => by have := congrArg List.length e; rw [List.length_take] at this; simp at this; omega
    go_wp2_with fail
    go_ret
    exact ⟨by rw [HF.out]; rfl, rfl⟩
set_option maxHeartbeats 1000000 in
theorem prefix_any (t : List UInt8) (w : World) :
    Calls Tryz.prog 199 #[.string ⟨t.toArray⟩, .string ⟨#[83, 50, 73]⟩] w fun r w' => r = .returned (.bool (decide (t.take 3 = [83, 50, 73]))) ∧ w' = w := by
  have HC := hid (prefixLite t w)
  generalize decide (t.take 3 = [83, 50, 73]) = res at *
  go_enter Tryz.func199, Tryz.ntmps199
  go_wp2_with fail
  refine HC.out.mono ?_
  rintro r w1 ⟨rfl, rfl⟩
  go_wp2_with fail
  go_ret
  exact ⟨rfl, rfl⟩
/-- The end of a function that gives a node's value on, by its result's cell. -/
theorem node_end {w w1 : World} {o : Option Pr.NodeT} {kd : Int} {il : List (ByteArray × ByteArray)} {cl : List Nat} {pl : List ByteArray} {ml : List (Int × ByteArray × ByteArray)} {a1 a2 a3 a4 : Value} {B : Nat}
    (hb : Below w.heap.size w w1) (ho : o = some (kd, plain il, cl, lists pl, plainCh ml)) (hn : NodeV B w1 (.agg #[.int .i64 kd, a1, a2, a3, a4]) kd il cl pl ml) (hB : w.heap.size < B) :
    NodeQ w o (.returned (.agg #[.int .i64 kd, a1, a2, a3, a4])) (put5 w1 w.heap.size (.int .i64 kd) a1 a2 a3 a4) :=
  ⟨below_put hb (Nat.le_refl _) _ _ _ _ _, .inr ⟨kd, il, cl, pl, ml, _, ho, rfl, (hn.put hB _ _ _ _ _).shrink (Nat.le_of_lt hB)⟩⟩

set_option maxHeartbeats 2000000 in
set_option maxRecDepth 20000 in
theorem readEither_any (t : List UInt8) (w : World) :
    Calls Tryz.prog 143 #[.string ⟨t.toArray⟩] w fun r w' => NodeQ w (Pr.eitherR t) r w' := by
  go_enter Tryz.func143, Tryz.ntmps143
  go_wp2_with fail
  have HN0 := hid (nodeB_new w (.int .i64 0) (.slice none 0 0) (.slice none 0 0) (.slice none 0 0) (.slice none 0 0))
  have HB0 := hid ((Below.refl w.heap.size w).alloc (Nat.le_refl _) (.cells #[.int .i64 0, .slice none 0 0, .slice none 0 0, .slice none 0 0, .slice none 0 0] 79))
  have hs0 : w.heap.size < (w.alloc (.cells #[.int .i64 0, .slice none 0 0, .slice none 0 0, .slice none 0 0, .slice none 0 0] 79)).heap.size := by simp
  generalize w.alloc (.cells #[.int .i64 0, .slice none 0 0, .slice none 0 0, .slice none 0 0, .slice none 0 0] 79) = w0 at *
  refine (prefix_any t _).mono ?_
  rintro r w1 ⟨rfl, rfl⟩
  by_cases hp : t.take 3 = [83, 50, 73]
  · have HE : Hid (Pr.eitherR t = brO (Pr.branchR t)) := by show _ = _; unfold Pr.eitherR; rw [if_pos hp]
    rw [decide_eq_true hp]
    clear hp
    go_wp2_with fail
    refine (readBranch_any t _).mono ?_
    rintro r w2 ⟨hb2, ⟨hn, rfl⟩ | ⟨kd, il, cl, pl, ml, v, hs, rfl, hv⟩⟩
    · have HF : Hid (Pr.eitherR t = none) := HE.out.trans hn
      have HB2 := hid (HB0.out.trans (hb2.mono (by omega)))
      clear hb2 hn
      unfold gaveUp
      go_wp2_with fail
      exact ⟨rfl, HB2.out, .inl ⟨HF.out, rfl⟩⟩
    · have HF := hid (HE.out.trans hs)
      have HB2 := hid (HB0.out.trans (hb2.mono (by omega)))
      have HN2 := hid (HN0.out.keep hb2)
      obtain ⟨a1, c1, a2, c2, a3, c3, a4, c4, rfl⟩ := hv.shape
      have HV := hid hv
      have HEND := hid (node_end HB2.out HF.out HV.out (by omega))
      have HNF := hid (HN2.out.put (.int .i64 kd) (.slice a1 il.length c1) (.slice a2 cl.length c2) (.slice a3 pl.length c3) (.slice a4 ml.length c4))
      obtain ⟨r0, r1, r2, r3, r4, y0, y1, y2, y3, y4⟩ := HN2.out.cells
      clear hb2 hs hv
      go_wp2_with fail
      refine bodyPost_ret (v := .agg #[.int .i64 kd, .slice a1 il.length c1, .slice a2 cl.length c2, .slice a3 pl.length c3, .slice a4 ml.length c4]) ?_ rfl HEND.out
      obtain ⟨q0, q1, q2, q3, q4⟩ := nodeB_result HNF.out
      unfold put5 at q0 q1 q2 q3 q4
      simp [results, Tryz.results143, go_sem, q0, q1, q2, q3, q4]
  · have HE : Hid (Pr.eitherR t = lfO (Pr.leafR t)) := by show _ = _; unfold Pr.eitherR; rw [if_neg hp]
    rw [decide_eq_false hp]
    clear hp
    go_wp2_with fail
    refine (readLeaf_any t _).mono ?_
    rintro r w2 ⟨hb2, ⟨hn, rfl⟩ | ⟨kd, il, cl, pl, ml, v, hs, rfl, hv⟩⟩
    · have HF : Hid (Pr.eitherR t = none) := HE.out.trans hn
      have HB2 := hid (HB0.out.trans (hb2.mono (by omega)))
      clear hb2 hn
      unfold gaveUp
      go_wp2_with fail
      exact ⟨rfl, HB2.out, .inl ⟨HF.out, rfl⟩⟩
    · have HF := hid (HE.out.trans hs)
      have HB2 := hid (HB0.out.trans (hb2.mono (by omega)))
      have HN2 := hid (HN0.out.keep hb2)
      obtain ⟨a1, c1, a2, c2, a3, c3, a4, c4, rfl⟩ := hv.shape
      have HV := hid hv
      have HEND := hid (node_end HB2.out HF.out HV.out (by omega))
      have HNF := hid (HN2.out.put (.int .i64 kd) (.slice a1 il.length c1) (.slice a2 cl.length c2) (.slice a3 pl.length c3) (.slice a4 ml.length c4))
      obtain ⟨r0, r1, r2, r3, r4, y0, y1, y2, y3, y4⟩ := HN2.out.cells
      clear hb2 hs hv
      go_wp2_with fail
      refine bodyPost_ret (v := .agg #[.int .i64 kd, .slice a1 il.length c1, .slice a2 cl.length c2, .slice a3 pl.length c3, .slice a4 ml.length c4]) ?_ rfl HEND.out
      obtain ⟨q0, q1, q2, q3, q4⟩ := nodeB_result HNF.out
      unfold put5 at q0 q1 q2 q3 q4
      simp [results, Tryz.results143, go_sem, q0, q1, q2, q3, q4]

set_option maxHeartbeats 2000000 in
set_option maxRecDepth 20000 in
theorem pagesRead_any (t : List UInt8) (w : World) :
    Calls Tryz.prog 83 #[.string ⟨t.toArray⟩] w fun r w' => NodeQ w (Pr.readR t) r w' := by
  go_enter Tryz.func83, Tryz.ntmps83
  go_wp2_with fail
  have HN0 := hid (nodeB_new w (.int .i64 0) (.slice none 0 0) (.slice none 0 0) (.slice none 0 0) (.slice none 0 0))
  have HB0 := hid ((Below.refl w.heap.size w).alloc (Nat.le_refl _) (.cells #[.int .i64 0, .slice none 0 0, .slice none 0 0, .slice none 0 0, .slice none 0 0] 79))
  have hs0 : w.heap.size < (w.alloc (.cells #[.int .i64 0, .slice none 0 0, .slice none 0 0, .slice none 0 0, .slice none 0 0] 79)).heap.size := by simp
  generalize w.alloc (.cells #[.int .i64 0, .slice none 0 0, .slice none 0 0, .slice none 0 0, .slice none 0 0] 79) = w0 at *
  refine (readEither_any t _).mono ?_
  rintro r w1 ⟨hb1, ⟨hn, rfl⟩ | ⟨kd, il, cl, pl, ml, v, hs, rfl, hv⟩⟩
  · have HF : Hid (Pr.readR t = none) := by show _ = _; unfold Pr.readR; rw [hn]; rfl
    have HB1 := hid (HB0.out.trans (hb1.mono (by omega)))
    clear hb1 hn
    unfold gaveUp
    go_wp2_with fail
    exact ⟨rfl, HB1.out, .inl ⟨HF.out, rfl⟩⟩
  have HF : Hid (Pr.readR t = if Pg.well kd (plain il) (cl.map Int.ofNat) (lists pl) (plainCh ml) = true then (if Pg.page kd (plain il) (cl.map Int.ofNat) (lists pl) (plainCh ml) = t then some (kd, plain il, cl, lists pl, plainCh ml) else none) else none) := by
    show _ = _; unfold Pr.readR; rw [hs]; rfl
  have HB1 := hid (HB0.out.trans (hb1.mono (by omega)))
  have HN1 := hid (HN0.out.keep hb1)
  obtain ⟨a1, c1, a2, c2, a3, c3, a4, c4, rfl⟩ := hv.shape
  have BA := (Below.refl w1.heap.size w1).alloc (Nat.le_refl _) (.cells #[.int .i64 kd, .slice a1 il.length c1, .slice a2 cl.length c2, .slice a3 pl.length c3, .slice a4 ml.length c4] 79)
  have HM2 := hid (nodeB_new w1 (.int .i64 kd) (.slice a1 il.length c1) (.slice a2 cl.length c2) (.slice a3 pl.length c3) (.slice a4 ml.length c4))
  have HB2 := hid (HB1.out.trans (BA.mono (by have := hb1.size; omega)))
  have HN2 := hid (HN1.out.keep BA)
  have HV2 := hid (hv.below BA)
  have hs1 := hb1.size
  have hs2 : w1.heap.size < (w1.alloc (.cells #[.int .i64 kd, .slice a1 il.length c1, .slice a2 cl.length c2, .slice a3 pl.length c3, .slice a4 ml.length c4] 79)).heap.size := by simp
  clear hb1 hs hv BA HB1 HN1 HN0 HB0
  have HIN := hid HV2.out.isNode
  go_wp2_with fail
  generalize w1.alloc (.cells #[.int .i64 kd, .slice a1 il.length c1, .slice a2 cl.length c2, .slice a3 pl.length c3, .slice a4 ml.length c4] 79) = w2 at *
  generalize w1.heap.size = nb at *
  refine (isNode_any _ kd il (cl.map Int.ofNat) pl ml _ HIN.out).mono ?_
  rintro r w3 ⟨rfl, hb3⟩
  have HB3 := hid (HB2.out.trans (hb3.mono (by omega)))
  have HN3 := hid (HN2.out.keep hb3)
  have HM3 := hid (HM2.out.keep hb3)
  have HV3 := hid (HV2.out.below hb3)
  have HIN3 := hid (HIN.out.below hb3)
  have hs3 := hb3.size
  obtain ⟨m0, m1, m2, m3, m4, -⟩ := HM3.out.cells
  clear hb3 HB2 HN2 HM2 HV2 HIN
  cases hw : Pg.well kd (plain il) (cl.map Int.ofNat) (lists pl) (plainCh ml)
  · have HF2 : Hid (Pr.readR t = none) := by show _ = _; rw [HF.out, hw]; rfl
    clear hw
    go_wp2_with fail
    refine (unless_no _).mono ?_
    rintro r w4 ⟨rfl, rfl⟩
    unfold gaveUp
    go_wp2_with fail
    exact ⟨rfl, HB3.out, .inl ⟨HF2.out, rfl⟩⟩
  · have HW := hid hw
    rw [hw, if_pos rfl] at HF
    clear hw
    go_wp2_with fail
    refine (pagesWrite_any _ kd il (cl.map Int.ofNat) pl ml _ HIN3.out HW.out).mono ?_
    rintro r w4 ⟨rfl, hb4⟩
    have HB4 := hid (HB3.out.trans (hb4.mono (by omega)))
    have HN4 := hid (HN3.out.keep hb4)
    have HM4 := hid (HM3.out.keep hb4)
    have HV4 := hid (HV3.out.below hb4)
    clear hb4 m0 m1 m2 m3 m4
    generalize Pg.page kd (plain il) (cl.map Int.ofNat) (lists pl) (plainCh ml) = pg at *
    obtain ⟨m0, m1, m2, m3, m4, -⟩ := HM4.out.cells
    obtain ⟨r0, r1, r2, r3, r4, y0, y1, y2, y3, y4⟩ := HN4.out.cells
    by_cases he : pg = t
    · rw [if_pos he] at HF
      subst he
      have HEND := hid (node_end HB4.out HF.out HV4.out (by omega))
      have HNF := hid (HN4.out.put (.int .i64 kd) (.slice a1 il.length c1) (.slice a2 cl.length c2) (.slice a3 pl.length c3) (.slice a4 ml.length c4))
      go_wp2_with fail
      refine (unless_yes _).mono ?_
      rintro r w5 ⟨rfl, rfl⟩
      go_wp2_with fail
      refine bodyPost_ret (v := .agg #[.int .i64 kd, .slice a1 il.length c1, .slice a2 cl.length c2, .slice a3 pl.length c3, .slice a4 ml.length c4]) ?_ rfl HEND.out
      obtain ⟨q0, q1, q2, q3, q4⟩ := nodeB_result HNF.out
      unfold put5 at q0 q1 q2 q3 q4
      simp [results, Tryz.results83, go_sem, q0, q1, q2, q3, q4]
    · rw [if_neg he] at HF
      have hne : (pg == t) = false := by simpa using he
      go_wp2_with fail
      refine (unless_no _).mono ?_
      rintro r w5 ⟨rfl, rfl⟩
      unfold gaveUp
      go_wp2_with fail
      exact ⟨rfl, HB4.out, .inl ⟨HF.out, rfl⟩⟩
end Go.Proofs.YtolgpnaoaodepaaGreat
/- Plain mathematics: a leaf's page, part by part; what is written is read. -/
namespace Go.Proofs.YtolgpnaoaodepaaGreat.Pr
open Pg
abbrev Its := List (List UInt8 × List UInt8)
/-- Items, four by four. -/
def partsN : Nat → Its → List Its
  | 0, _ => []
  | f + 1, l => if l = [] then [] else l.take 4 :: partsN f (l.drop 4)
def parts (l : Its) : List Its := partsN (many l.length) l
def sec1 (p : Its) : List UInt8 := section_ [98] (basement p)
def secs (ps : List Its) : List (List UInt8) := ps.map sec1
def first1 (p : Its) : List UInt8 := (p.map (·.1)).getD 0 []
def firsts (ps : List Its) : List (List UInt8) := ps.map first1
theorem lt_tr {a b c : List UInt8} (h : a < b) (h2 : b < c) : a < c := List.lt_trans h h2
theorem lt_ir (a : List UInt8) : ¬ a < a := List.lt_irrefl a
theorem lt_tri (a b : List UInt8) (h : ¬ a < b) : b < a ∨ a = b := by
  rcases List.le_iff_lt_or_eq.1 (List.not_lt.1 h) with h | h
  · exact .inl h
  · exact .inr h.symm
theorem parts_ne : ∀ (f : Nat) (l : Its), ∀ p ∈ partsN f l, p ≠ [] ∧ p.length ≤ 4
  | 0, _, p, h => by simp [partsN] at h
  | f + 1, l, p, h => by
    rw [partsN] at h
    split at h
    · simp at h
    · rename_i hl
      rcases List.mem_cons.1 h with rfl | h
      · refine ⟨?_, by rw [List.length_take]; omega⟩
        intro e
        have := congrArg List.length e
        rw [List.length_take] at this
        have h0 : l.length ≠ 0 := fun e => hl (List.length_eq_zero_iff.1 e)
        rw [List.length_nil] at this
        omega
      · exact parts_ne f _ p h
theorem parts_flat : ∀ (f : Nat) (l : Its), l.length ≤ 4 * f → (partsN f l).flatten = l
  | 0, l, h => by
    have : l = [] := List.length_eq_zero_iff.1 (by omega)
    subst this; rfl
  | f + 1, l, h => by
    rw [partsN]
    split
    · rename_i hl; subst hl; rfl
    · rw [List.flatten_cons, parts_flat f (l.drop 4) (by rw [List.length_drop]; omega), List.take_append_drop]
theorem parts_len : ∀ (f : Nat) (l : Its), (partsN f l).length ≤ f
  | 0, l => by simp [partsN]
  | f + 1, l => by
    rw [partsN]
    split
    · simp
    · rw [List.length_cons]; have := parts_len f (l.drop 4); omega
theorem parts_many : ∀ (f : Nat) (l : Its), f = many l.length → (partsN f l).length = f
  | 0, l, _ => by simp [partsN]
  | f + 1, l, h => by
    have hl : l ≠ [] := by rintro rfl; simp [many] at h
    have hp : 0 < l.length := List.length_pos_iff.2 hl
    rw [partsN, if_neg hl, List.length_cons, parts_many f (l.drop 4) (by rw [List.length_drop]; unfold many at *; omega)]
theorem entries_is : ∀ (f : Nat) (l : Its), entries f l = heads ((secs (partsN f l)).map List.length) (firsts (partsN f l))
  | 0, l => by simp [entries, partsN, secs, firsts, heads]
  | f + 1, l => by
    rw [entries, partsN]
    by_cases hl : l = []
    · rw [if_pos hl, if_pos hl]; simp [secs, firsts, heads]
    · rw [if_neg hl, if_neg hl]
      match l, hl with
      | (k, v) :: r, _ =>
        simp only [secs, firsts, List.map_cons, heads]
        rw [entries_is f]
        rfl
theorem bases_is : ∀ (f : Nat) (l : Its), bases f l = (secs (partsN f l)).flatten
  | 0, l => by simp [bases, partsN, secs]
  | f + 1, l => by
    rw [bases, partsN]
    by_cases hl : l = []
    · rw [if_pos hl, if_pos hl]; simp [secs]
    · rw [if_neg hl, if_neg hl, bases_is f]
      simp only [secs, List.map_cons, List.flatten_cons]
      rfl
theorem leaf_is (l : Its) : leaf l = headW ((secs (parts l)).map List.length) (firsts (parts l)) ++ (secs (parts l)).flatten := by
  unfold leaf headW parts
  rw [entries_is, bases_is]
  congr 5
  simp only [secs, List.length_map, parts_many _ _ rfl]
/-- Items may be, and their keys rise. -/
def Fine (l : Its) : Prop := (∀ x ∈ l, isKey x.1.length = true ∧ x.2.length ≤ 16) ∧ l.Pairwise fun x y => x.1 < y.1
theorem rises_tr {p : Option (List UInt8)} {a b : List UInt8} (h : rises p a = true) (h2 : a < b) : rises p b = true := by
  cases p with
  | none => rfl
  | some q => simp only [rises, decide_eq_true_eq] at *; exact lt_tr h h2
theorem okList_iff : ∀ (l : Its) (p : Option (List UInt8)), okList l p = true ↔ Fine l ∧ ∀ x ∈ l, rises p x.1 = true
  | [], p => by simp [okList, Fine]
  | y :: r, p => by
    have ih := okList_iff r (some y.1)
    simp only [okList, Bool.and_eq_true, decide_eq_true_eq, ih, Fine]
    constructor
    · rintro ⟨⟨⟨h1, h2⟩, h3⟩, ⟨h4, h5⟩, h6⟩
      refine ⟨⟨?_, ?_⟩, ?_⟩
      · intro x hx
        rcases List.mem_cons.1 hx with rfl | hx
        · exact ⟨h1, h2⟩
        · exact h4 x hx
      · refine List.pairwise_cons.2 ⟨fun x hx => ?_, h5⟩
        have := h6 x hx
        simpa [rises] using this
      · intro x hx
        rcases List.mem_cons.1 hx with rfl | hx
        · exact h3
        · exact rises_tr h3 (by have := h6 x hx; simpa [rises] using this)
    · rintro ⟨⟨h1, h2⟩, h3⟩
      obtain ⟨h4, h5⟩ := List.pairwise_cons.1 h2
      refine ⟨⟨⟨(h1 y (by simp)).1, (h1 y (by simp)).2⟩, h3 y (by simp)⟩, ⟨fun x hx => h1 x (by simp [hx]), h5⟩, fun x hx => ?_⟩
      simp only [rises, decide_eq_true_eq]
      exact h4 x hx
theorem okPivots_iff : ∀ (l : List (List UInt8)) (p : Option (List UInt8)), okPivots l p = true ↔ ((∀ x ∈ l, isKey x.length = true) ∧ l.Pairwise (· < ·)) ∧ ∀ x ∈ l, rises p x = true
  | [], p => by simp [okPivots]
  | y :: r, p => by
    have ih := okPivots_iff r (some y)
    simp only [okPivots, Bool.and_eq_true, ih]
    constructor
    · rintro ⟨⟨h1, h3⟩, ⟨h4, h5⟩, h6⟩
      refine ⟨⟨?_, ?_⟩, ?_⟩
      · intro x hx
        rcases List.mem_cons.1 hx with rfl | hx
        · exact h1
        · exact h4 x hx
      · refine List.pairwise_cons.2 ⟨fun x hx => ?_, h5⟩
        have := h6 x hx
        simpa [rises] using this
      · intro x hx
        rcases List.mem_cons.1 hx with rfl | hx
        · exact h3
        · exact rises_tr h3 (by have := h6 x hx; simpa [rises] using this)
    · rintro ⟨⟨h1, h2⟩, h3⟩
      obtain ⟨h4, h5⟩ := List.pairwise_cons.1 h2
      refine ⟨⟨h1 y (by simp), h3 y (by simp)⟩, ⟨fun x hx => h1 x (by simp [hx]), h5⟩, fun x hx => ?_⟩
      simp only [rises, decide_eq_true_eq]
      exact h4 x hx
theorem ok_fine (l : Its) : okFrom none l = true ↔ Fine l := by
  unfold okFrom; rw [okList_iff]; simp [rises]
theorem Fine.sub {a l : Its} (h : Fine l) (hs : a.Sublist l) : Fine a := ⟨fun x hx => h.1 x (hs.subset hx), h.2.sublist hs⟩
/-- Parts that may be: none is empty, none too long, and all of them together are fine. -/
def Parts (ps : List Its) : Prop := (∀ p ∈ ps, p ≠ [] ∧ p.length ≤ 4) ∧ Fine ps.flatten
theorem first_mem {p : Its} (h : p ≠ []) : ∃ x ∈ p, x.1 = first1 p := by
  match p, h with
  | x :: r, _ => exact ⟨x, by simp, rfl⟩
theorem first_le {p : Its} (hf : Fine p) {x : List UInt8 × List UInt8} (hx : x ∈ p) : ¬ x.1 < first1 p := by
  match p, hx with
  | y :: r, hx =>
    rcases List.mem_cons.1 hx with rfl | hx
    · exact lt_ir _
    · intro h
      have := (List.pairwise_cons.1 hf.2).1 x hx
      exact lt_ir _ (lt_tr h this)
theorem Parts.tail {p : Its} {ps : List Its} (h : Parts (p :: ps)) : Parts ps := ⟨fun q hq => h.1 q (by simp [hq]), h.2.sub (by rw [List.flatten_cons]; exact List.sublist_append_right _ _)⟩
theorem Parts.head {p : Its} {ps : List Its} (h : Parts (p :: ps)) : Fine p := h.2.sub (by rw [List.flatten_cons]; exact List.sublist_append_left _ _)
theorem Parts.across {p : Its} {ps : List Its} (h : Parts (p :: ps)) : ∀ x ∈ p, ∀ y ∈ ps.flatten, x.1 < y.1 := by
  have := h.2.2
  rw [List.flatten_cons, List.pairwise_append] at this
  exact this.2.2
theorem firsts_fine : ∀ (ps : List Its), Parts ps → okPivots (firsts ps) none = true := by
  intro ps h
  rw [okPivots_iff]
  refine ⟨⟨?_, ?_⟩, fun x _ => rfl⟩
  · intro x hx
    obtain ⟨p, hp, rfl⟩ := List.mem_map.1 hx
    obtain ⟨y, hy, e⟩ := first_mem (h.1 p hp).1
    rw [← e]
    exact (h.2.1 y (List.mem_flatten.2 ⟨p, hp, hy⟩)).1
  · induction ps with
    | nil => simp [firsts]
    | cons p ps ih =>
      rw [firsts, List.map_cons]
      refine List.pairwise_cons.2 ⟨fun k hk => ?_, ih h.tail⟩
      obtain ⟨q, hq, rfl⟩ := List.mem_map.1 hk
      obtain ⟨x, hx, e⟩ := first_mem (h.1 p (by simp)).1
      obtain ⟨y, hy, e2⟩ := first_mem (h.1 q (by simp [hq])).1
      rw [← e, ← e2]
      exact h.across x hx y (List.mem_flatten.2 ⟨q, hq, hy⟩)
theorem sec1_read {p : Its} (h4 : p.length ≤ 4) (hf : Fine p) : secR 98 (sec1 p) = some (basement p) := by
  have hk : ∀ x ∈ p, x.1.length ≤ 12 ∧ x.2.length ≤ 16 := fun x hx => ⟨isKey_le (hf.1 x hx).1, (hf.1 x hx).2⟩
  have := basement_len p hk
  exact secR_section 98 _ (by omega)
theorem last_mem {p : Its} (h : p ≠ []) : ∃ x ∈ p, x.1 = (p.map (·.1)).getD (p.length - 1) [] := by
  have hp : 0 < p.length := List.length_pos_iff.2 h
  have hl : p.length - 1 < p.length := by omega
  refine ⟨p[p.length - 1]'hl, List.getElem_mem _, ?_⟩
  rw [List.getD_eq_getElem?_getD, List.getElem?_map, List.getElem?_eq_getElem hl]
  rfl
theorem bas_at (a : List Its) (p : Its) (b : List Its) (h : Parts (a ++ p :: b)) : basementR (firsts (a ++ p :: b)) a.length (sec1 p) = some p := by
  have hp := h.1 p (by simp)
  have hf : Fine p := h.2.sub (by rw [List.flatten_append, List.flatten_cons]; exact (List.sublist_append_left _ _).trans (List.sublist_append_right _ _))
  have hk : ∀ x ∈ p, x.1.length ≤ 12 ∧ x.2.length ≤ 16 := fun x hx => ⟨isKey_le (hf.1 x hx).1, (hf.1 x hx).2⟩
  unfold basementR
  rw [sec1_read hp.2 hf]
  simp only [Option.bind_some]
  rw [basR_basement p (by omega) hk]
  simp only [Option.bind_some]
  rw [if_pos]
  unfold basOk
  simp only [Bool.and_eq_true, decide_eq_true_eq, Bool.or_eq_true, Bool.not_eq_true', decide_eq_false_iff_not]
  refine ⟨⟨⟨⟨?_, hp.2⟩, (ok_fine p).2 hf⟩, ?_⟩, ?_⟩
  · exact Nat.succ_le_of_lt (List.length_pos_iff.2 hp.1)
  · show first1 p = _
    unfold firsts
    rw [List.getD_eq_getElem?_getD, List.getElem?_map, List.getElem?_append_right (Nat.le_refl _)]
    simp
  · match b, h with
    | [], _ => left; simp [firsts]
    | q :: b', h =>
      right
      have hq := h.1 q (by simp)
      obtain ⟨x, hx, ex⟩ := last_mem hp.1
      obtain ⟨y, hy, ey⟩ := first_mem hq.1
      have e : (firsts (a ++ p :: q :: b')).getD (a.length + 1) [] = first1 q := by
        unfold firsts
        rw [List.getD_eq_getElem?_getD, List.getElem?_map, List.getElem?_append_right (by omega)]
        simp
      rw [e, ← ex, ← ey]
      have h2 : Parts (p :: q :: b') := ⟨fun r hr => h.1 r (List.mem_append.2 (.inr hr)), h.2.sub (by rw [List.flatten_append]; exact List.sublist_append_right _ _)⟩
      exact h2.across x hx y (List.mem_flatten.2 ⟨q, by simp, hy⟩)
theorem bases_at : ∀ (b a : List Its), Parts (a ++ b) → basesR (firsts (a ++ b)) a.length (secs b) = some b.flatten
  | [], a, h => by simp [secs, basesR]
  | p :: b, a, h => by
    have ih := bases_at b (a ++ [p]) (by rw [List.append_assoc]; exact h)
    rw [List.append_assoc, List.length_append] at ih
    rw [secs, List.map_cons, basesR, bas_at a p b h]
    simp only [Option.bind_some]
    have ih' : basesR (firsts (a ++ p :: b)) (a.length + 1) (List.map sec1 b) = some b.flatten := ih
    rw [ih']
    simp
theorem parts_fine {l : Its} (h : Fine l) : Parts (parts l) := by
  refine ⟨fun p hp => parts_ne _ _ p hp, ?_⟩
  rw [parts, parts_flat _ _ (by unfold many; omega)]
  exact h
theorem secs_small {ps : List Its} (h : Parts ps) : ∀ s ∈ (secs ps).map List.length, s < 65536 := by
  intro s hs
  obtain ⟨c, hc, rfl⟩ := List.mem_map.1 hs
  obtain ⟨p, hp, rfl⟩ := List.mem_map.1 hc
  have hf : Fine p := h.2.sub (List.sublist_flatten_of_mem hp)
  have hk : ∀ x ∈ p, x.1.length ≤ 12 ∧ x.2.length ≤ 16 := fun x hx => ⟨isKey_le (hf.1 x hx).1, (hf.1 x hx).2⟩
  have h1 := basement_len p hk
  have h2 := (h.1 p hp).2
  have h3 := section_len [98] (basement p) (by omega)
  have h4 : ([98] : List UInt8).length = 1 := rfl
  unfold sec1
  omega
theorem headR_leaf {l : Its} (h : Fine l) (h16 : l.length ≤ 16) : headR (leaf l) = some ((secs (parts l)).map List.length, firsts (parts l)) := by
  rw [leaf_is]
  have hp := parts_fine h
  have hl : (parts l).length ≤ 4 := by have := parts_len (many l.length) l; unfold parts; unfold many at *; omega
  exact headR_headW _ _ _ (by simp [secs, firsts]) (by simpa [secs] using hl) (secs_small hp) (firsts_fine _ hp)
theorem cutR_leaf {l : Its} (h : Fine l) (h16 : l.length ≤ 16) : cutR (leaf l) ((secs (parts l)).map List.length) = some (secs (parts l)) := by
  rw [leaf_is]
  have hp := parts_fine h
  have hl : (parts l).length ≤ 4 := by have := parts_len (many l.length) l; unfold parts; unfold many at *; omega
  refine cutR_flat _ _ (headW_len _ _ (by simp [secs, firsts]) (by simpa [secs] using hl) (okPivots_sz _ _ (firsts_fine _ hp)))
theorem leafR_leaf {l : Its} (h : Fine l) (h16 : l.length ≤ 16) : leafR (leaf l) = some l := by
  unfold leafR
  rw [headR_leaf h h16]
  simp only [Option.bind_some]
  rw [cutR_leaf h h16]
  simp only [Option.bind_some]
  have := bases_at (parts l) [] (by simpa using parts_fine h)
  rw [List.nil_append] at this
  rw [show ([] : List Its).length = 0 from rfl] at this
  rw [this, parts, parts_flat _ _ (by unfold many; omega)]
theorem valueOf_no : ∀ (a b : Its) (key : List UInt8), (∀ x ∈ a, x.1 ≠ key) → valueOf key (a ++ b) = valueOf key b
  | [], b, key, _ => rfl
  | x :: a, b, key, h => by
    rw [List.cons_append, valueOf, if_neg (h x (by simp)), valueOf_no a b key (fun y hy => h y (by simp [hy]))]
theorem valueOf_none (a : Its) (key : List UInt8) (h : ∀ x ∈ a, x.1 ≠ key) : valueOf key a = none := by
  have := valueOf_no a [] key h
  rw [List.append_nil] at this; rw [this]; rfl
theorem valueOf_left : ∀ (a b : Its) (key : List UInt8), (∀ x ∈ b, x.1 ≠ key) → valueOf key (a ++ b) = valueOf key a
  | [], b, key, h => by rw [List.nil_append]; exact valueOf_none b key h
  | x :: a, b, key, h => by
    rw [List.cons_append, valueOf, valueOf]
    split
    · rfl
    · exact valueOf_left a b key h
theorem findN_spec (ks : List (List UInt8)) (key : List UInt8) : ∀ n, (∀ k : Nat, findN ks key n < (k : Int) → k < n → key < ks.getD k []) ∧ (∀ j : Nat, findN ks key n = (j : Int) → ¬ key < ks.getD j [])
  | 0 => ⟨fun k _ h => by omega, fun j h => by rw [findN] at h; omega⟩
  | n + 1 => by
    have ih := findN_spec ks key n
    rw [findN]
    by_cases hl : key < ks.getD n []
    · rw [if_pos hl]
      refine ⟨fun k h1 h2 => ?_, ih.2⟩
      by_cases hk : k = n
      · subst hk; exact hl
      · exact ih.1 k h1 (by omega)
    · rw [if_neg hl]
      refine ⟨fun k h1 h2 => by omega, fun j h => ?_⟩
      have : j = n := by omega
      subst this; exact hl
theorem firsts_get {ps : List Its} {k : Nat} (h : k < ps.length) : (firsts ps).getD k [] = first1 (ps[k]'h) := by
  unfold firsts
  rw [List.getD_eq_getElem?_getD, List.getElem?_map, List.getElem?_eq_getElem h]; rfl
/-- In which part a key lies, if it lies in one. -/
theorem find_parts {ps : List Its} (h : Parts ps) (key : List UInt8) : (findN (firsts ps) key ps.length < 0 ∧ valueOf key ps.flatten = none) ∨ ∃ a p b, ps = a ++ p :: b ∧ findN (firsts ps) key ps.length = (a.length : Int) ∧ valueOf key ps.flatten = valueOf key p := by
  obtain ⟨s1, s2⟩ := findN_spec (firsts ps) key ps.length
  have hlt := findN_lt (firsts ps) key ps.length
  by_cases hneg : findN (firsts ps) key ps.length < 0
  · refine .inl ⟨hneg, valueOf_none _ _ fun x hx => ?_⟩
    obtain ⟨p, hp, hx⟩ := List.mem_flatten.1 hx
    obtain ⟨k, hk, rfl⟩ := List.getElem_of_mem hp
    have h1 := s1 k (by omega) hk
    rw [firsts_get hk] at h1
    intro e
    have hf : Fine (ps[k]'hk) := h.2.sub (List.sublist_flatten_of_mem (List.getElem_mem hk))
    exact first_le hf hx (by rw [e]; exact h1)
  · obtain ⟨j, hj⟩ : ∃ j : Nat, findN (firsts ps) key ps.length = (j : Int) := ⟨(findN (firsts ps) key ps.length).toNat, by omega⟩
    have hjl : j < ps.length := by omega
    have h2 := s2 j hj
    rw [firsts_get hjl] at h2
    have e : ps = ps.take j ++ (ps[j]'hjl) :: ps.drop (j + 1) := by
      rw [← List.drop_eq_getElem_cons hjl, List.take_append_drop]
    have hlen : (ps.take j).length = j := by rw [List.length_take]; omega
    refine .inr ⟨ps.take j, ps[j]'hjl, ps.drop (j + 1), e, by rw [hj, hlen], ?_⟩
    have e2 : ps.flatten = (ps.take j).flatten ++ ((ps[j]'hjl) ++ (ps.drop (j + 1)).flatten) := by
      conv => lhs; rw [e]
      rw [List.flatten_append, List.flatten_cons]
    rw [e2, valueOf_no, valueOf_left]
    · intro x hx
      obtain ⟨p, hp, hx⟩ := List.mem_flatten.1 hx
      obtain ⟨i, hi, rfl⟩ := List.getElem_of_mem hp
      rw [List.length_drop] at hi
      rw [List.getElem_drop] at hx
      have hk : j + 1 + i < ps.length := by omega
      have h1 := s1 (j + 1 + i) (by omega) hk
      rw [firsts_get hk] at h1
      intro e
      have hf : Fine (ps[j + 1 + i]'hk) := h.2.sub (List.sublist_flatten_of_mem (List.getElem_mem hk))
      exact first_le hf hx (by rw [e]; exact h1)
    · intro x hx e3
      have hpw := h.2.2
      rw [e2, List.pairwise_append] at hpw
      obtain ⟨y, hy, ey⟩ := first_mem (h.1 _ (List.getElem_mem hjl)).1
      have := hpw.2.2 x hx y (List.mem_append.2 (.inl hy))
      rw [e3, ey] at this
      exact h2 this
theorem secs_get (a : List Its) (p : Its) (b : List Its) : (secs (a ++ p :: b)).getD a.length [] = sec1 p := by
  unfold secs
  rw [List.getD_eq_getElem?_getD, List.getElem?_map, List.getElem?_append_right (Nat.le_refl _)]
  simp
theorem fetchR_leaf {l : Its} (h : Fine l) (h16 : l.length ≤ 16) (key : List UInt8) : fetchR (leaf l) key = some (valueOf key l) := by
  have hp := parts_fine h
  have hfl : (parts l).flatten = l := parts_flat _ _ (by unfold many; omega)
  unfold fetchR
  rw [headR_leaf h h16]
  simp only [Option.bind_some]
  rw [cutR_leaf h h16]
  simp only [Option.bind_some, show (firsts (parts l)).length = (parts l).length by simp [firsts]]
  rcases find_parts hp key with ⟨h1, h2⟩ | ⟨a, p, b, e, h1, h2⟩
  · rw [if_pos h1, ← h2, hfl]
  · rw [if_neg (by omega), h1, Int.toNat_natCast]
    rw [hfl] at h2
    rw [h2]
    rw [e] at hp ⊢
    rw [secs_get, bas_at a p b hp]
    rfl
end Go.Proofs.YtolgpnaoaodepaaGreat.Pr
