/- The walk of pages' readLeaf. -/
import Derived.Test.YtolgpnaoaodepaaWalkAFm
namespace Go.Proofs.Ytolgpnaoaodepaa.Pr
open Pg
/-- Basements from the i-th on. -/
def basesR (ks : List (List UInt8)) : Nat → List (List UInt8) → Option (List (List UInt8 × List UInt8))
  | _, [] => some []
  | i, s :: r => (basementR ks i s).bind fun l => (basesR ks (i + 1) r).map (l ++ ·)
def leafR (page : List UInt8) : Option (List (List UInt8 × List UInt8)) := (headR page).bind fun h => (cutR page h.1).bind fun cs => basesR h.2 0 cs
theorem basementR_pos {ks : List (List UInt8)} {i : Nat} {s : List UInt8} {l : List (List UInt8 × List UInt8)} (h : basementR ks i s = some l) : 1 ≤ l.length := by
  unfold basementR at h
  simp only [Option.bind_eq_some_iff] at h
  obtain ⟨c, _, l', _, h3⟩ := h
  split at h3
  · rename_i hb
    simp only [Option.some.injEq] at h3
    subst h3
    unfold basOk at hb
    simp only [Bool.and_eq_true, decide_eq_true_eq] at hb
    exact hb.1.1.1.1
  · simp at h3
end Go.Proofs.Ytolgpnaoaodepaa.Pr
namespace Go.Proofs.Ytolgpnaoaodepaa
open Go.RowKit
def lfO (o : Option (List (List UInt8 × List UInt8))) : Option (Int × List (List UInt8 × List UInt8) × List Nat × List (List UInt8) × List (Int × List UInt8 × List UInt8)) := o.map fun x => (1, x, [], [], [])
theorem icells_len (l : List (ByteArray × ByteArray)) : (icells l).length = l.length * 2 := by
  induction l with
  | nil => rfl
  | cons x r ih => rw [show icells (x :: r) = .string x.1 :: .string x.2 :: icells r from rfl, List.length_cons, List.length_cons, List.length_cons, ih]; omega
theorem icells_one (l : List (ByteArray × ByteArray)) : ∀ u ∈ icells l, u.oneCell' = true := by
  intro u hu
  unfold icells at hu
  obtain ⟨x, _, hx⟩ := List.mem_flatMap.1 hu
  simp at hx
  rcases hx with rfl | rfl <;> rfl
theorem icells_app (l r : List (ByteArray × ByteArray)) : icells (l ++ r) = icells l ++ icells r := by simp [icells]
theorem plain_app (l r : List (ByteArray × ByteArray)) : plain (l ++ r) = plain l ++ plain r := by simp [plain]
/-- append(v, x...), x a row of items, as a step of a region that draws. -/
theorem stepApI (w : World) {ops : Array Oper} {o : Oper} {a : Act} {K : Act → World → Prop} {Q : Exit → Act → World → Prop} {E : Prop} (hgd : o.guard = none) (sl x : Operand)
    (ho : o.op = Op.call { callee := Callee.builtin Builtin.append, args := #[sl, x], argTypes := #[30, 30] }) (B : Nat) (v : Value) (l : List (ByteArray × ByteArray)) (hs : a.eval sl = v) (hown : OwnsI B w v l)
    (xl : List (ByteArray × ByteArray)) (g cap : Nat) (hx : a.eval x = .slice (some ⟨g, 0, none⟩) xl.length cap) (hcell : ∀ j u, (icells xl)[j]? = some u → w.cell? ((⟨g, 0, none⟩ : Addr).add j) = some u) (hb : l.length + xl.length ≤ 1000000000) (hB : B ≤ w.heap.size)
    (h : ∀ (v' : Value) (w' : World), OwnsI B w' v' (l ++ xl) → w.grownBy w' v.ownBlock → K (a.put o.dst v') w') : if Region.wanted o (yielded ops a.tmps) = true then Oper.wp Try.prog o a w K Q else E := by
  have hw : Region.wanted o (yielded ops a.tmps) = true := by simp [Region.wanted, hgd]
  rw [if_pos hw]
  obtain ⟨i, hi, hz0, hz1, hz2⟩ := info_parts info_item
  obtain ⟨v', w', hrun, ho', hg, _, _⟩ := run_append_own_at (P := Try.prog) w B 30 o.type 43 i (.agg #[.string ⟨#[]⟩, .string ⟨#[]⟩]) 2 32 Try.underlying30 hi hz0 hz1 hz2 rfl (by decide) v l.length (icells l) hown ⟨g, 0, none⟩ xl.length cap (icells xl) (icells_len xl) hcell (icells_one xl) (by unfold maxLen; omega) (by omega) hB
  have hK : K (a.put o.dst v') w' := by
    refine h v' w' ?_ hg
    unfold OwnsI
    rw [List.length_append, icells_app]
    exact ho'
  unfold Oper.wp
  simp [execOp, ho, resolve, invoke, builtin, hs, hx, hrun, Result.andThen]
  exact hK
theorem but_of_below {b : Nat} {w w' : World} (h : Below w.heap.size w w') : But b w w' := but_below h

set_option maxHeartbeats 4000000 in
set_option maxRecDepth 20000 in
theorem readLeaf_any (t : List UInt8) (w : World) :
    Calls Try.prog 63 #[.string ⟨t.toArray⟩] w fun r w' => NodeQ w (lfO (Pr.leafR t)) r w' := by
  go_enter Try.func63, Try.ntmps63
  go_wp2_with fail
  have HN0 := hid (nodeB_new w (.int .i64 0) (.slice none 0 0) (.slice none 0 0) (.slice none 0 0) (.slice none 0 0))
  have HB0 := hid ((Below.refl w.heap.size w).alloc (Nat.le_refl _) (.cells #[.int .i64 0, .slice none 0 0, .slice none 0 0, .slice none 0 0, .slice none 0 0] 34))
  have hs0 : w.heap.size < (w.alloc (.cells #[.int .i64 0, .slice none 0 0, .slice none 0 0, .slice none 0 0, .slice none 0 0] 34)).heap.size := by simp
  generalize w.alloc (.cells #[.int .i64 0, .slice none 0 0, .slice none 0 0, .slice none 0 0, .slice none 0 0] 34) = w0 at *
  refine (leafHead_any t _).mono ?_
  rintro r w1 ⟨hb1, ⟨hn, rfl⟩ | ⟨ss, fs, v1, hh, rfl, hlh, hsf, hf4, hf12⟩⟩
  · have HT : Hid (lfO (Pr.leafR t) = none) := by show _ = _; unfold Pr.leafR; rw [hn]; rfl
    have HB1 := hid (HB0.out.trans (hb1.mono (by omega)))
    clear hb1 hn
    unfold gaveUp
    go_wp2_with fail
    exact ⟨rfl, HB1.out, .inl ⟨HT.out, rfl⟩⟩
  have HT1 : Hid (Pr.leafR t = (Pr.cutR t ss).bind fun cs => Pr.basesR (lists fs) 0 cs) := by
    show _ = _; unfold Pr.leafR; rw [hh]; rfl
  obtain ⟨vs, vf, rfl, h1, h2⟩ := id hlh
  obtain ⟨sa, ca, rfl, -, -⟩ := id h1
  obtain ⟨fa, cf, rfl, -, -⟩ := id h2
  have BA := (Below.refl w1.heap.size w1).alloc (Nat.le_refl _) (.cells #[.slice sa ss.length ca, .slice fa fs.length cf] 71)
  have HN1 := hid (HN0.out.keep hb1)
  have hw1 := hb1.size
  have hs1 : w1.heap.size < (w1.alloc (.cells #[.slice sa ss.length ca, .slice fa fs.length cf] 71)).heap.size := by simp
  have HLH1 := hid hlh
  have HIS := hid (h1.below BA)
  have HX2 := hid BA
  have HB1 := hid (HB0.out.trans (hb1.mono (by omega)))
  have HVAR : Hid ((w1.alloc (.cells #[.slice sa ss.length ca, .slice fa fs.length cf] 71)).heap[w1.heap.size]? = some (.cells #[.slice sa ss.length ca, .slice fa fs.length cf] 71 (0, 0))) := heap_alloc_new _ _
  have hssl : ss.length ≤ 4 := by omega
  have HSF := hid hsf
  clear hb1 hh hlh BA hsf hf12 h1 h2 HB0 HN0
  go_wp2_with fail
  have hs2e : (w1.alloc (.cells #[.slice sa ss.length ca, .slice fa fs.length cf] 71)).heap.size = w1.heap.size + 1 := by simp
  rw [← hs2e]
  clear hs2e
  generalize w1.alloc (.cells #[.slice sa ss.length ca, .slice fa fs.length cf] 71) = w2 at *
  have BA := (Below.refl w2.heap.size w2).alloc (Nat.le_refl _) (.cells #[.int .i64 1, .slice none 0 0, .slice none 0 0, .slice none 0 0, .slice none 0 0] 34)
  have HM3 := hid (nodeB_new w2 (.int .i64 1) (.slice none 0 0) (.slice none 0 0) (.slice none 0 0) (.slice none 0 0))
  have HX3 := hid (HX2.out.trans (BA.mono (by omega)))
  have HIS3 := hid (HIS.out.below BA)
  have HV3 := hid ((BA.block w1.heap.size (by omega)).trans HVAR.out)
  have hs3 : w2.heap.size < (w2.alloc (.cells #[.int .i64 1, .slice none 0 0, .slice none 0 0, .slice none 0 0, .slice none 0 0] 34)).heap.size := by simp
  generalize w2.alloc (.cells #[.int .i64 1, .slice none 0 0, .slice none 0 0, .slice none 0 0, .slice none 0 0] 34) = w3 at *
  generalize w2.heap.size = nb at *
  clear BA HX2 HIS HVAR
  refine (cutBody_any t _ ss _ HIS3.out (by omega)).mono ?_
  rintro r w4 ⟨hb4, ⟨hn, rfl⟩ | ⟨cl, v4, hc4, rfl, ho4⟩⟩
  · have HT : Hid (lfO (Pr.leafR t) = none) := by show _ = _; rw [HT1.out, hn]; rfl
    have HB4 := hid (HB1.out.trans ((HX3.out.trans (hb4.mono (by omega))).mono (by omega)))
    clear hb4 hn
    unfold gaveUp
    go_wp2_with fail
    exact ⟨rfl, HB4.out, .inl ⟨HT.out, rfl⟩⟩
  have HT4 : Hid (Pr.leafR t = Pr.basesR (lists fs) 0 (lists cl)) := by show _ = _; rw [HT1.out, hc4]; rfl
  have hcl : cl.length = ss.length := by have := (Pr.cutR_is hc4).2.2; rw [← this]; simp [lists]
  have HX4 := hid (HX3.out.trans (hb4.mono (by omega)))
  have HM4 := hid (HM3.out.keep hb4)
  have HV4 := hid ((hb4.block w1.heap.size (by omega)).trans HV3.out)
  have HO4 := hid ho4
  have hs4 := hb4.size
  have hcl4 : cl.length ≤ fs.length := by have := HSF.out; omega
  obtain ⟨xa, xc, rfl⟩ := ho4.shape
  clear hb4 hc4 ho4 HIS3 HX3 HM3 HV3 HT1 hcl
  go_wp2_with fail
  go_loopw [15] (fun i wr => ∃ (k : Nat) (il : List (ByteArray × ByteArray)) (vi : Value), k ≤ cl.length ∧ i = .int .i64 k ∧ il.length ≤ 255 * k ∧ NodeB wr nb (.int .i64 1) vi (.slice none 0 0) (.slice none 0 0) (.slice none 0 0) ∧ OwnsI w4.heap.size wr vi il ∧ But nb w4 wr ∧ (Pr.basesR (lists fs) k (lists (cl.drop k))).map (plain il ++ ·) = Pr.basesR (lists fs) 0 (lists cl)) (fun i _ => cl.length - (intOf i).toNat)
  case atStart => exact ⟨0, [], _, Nat.zero_le _, rfl, by simp, HM4.out, World.ownsRow_nil _ _ _ _, but_refl _ _, by simp [plain]⟩
  case round =>
    obtain ⟨k, il, vi, hk, rfl, hil, hm, ho, hb, heq⟩ := hrel
    have HM := hid hm
    have HO := hid ho
    have HBT := hid hb
    have HEQ := hid heq
    have hsr := hb.size
    obtain ⟨ia, ic, rfl⟩ := rowShape ho
    have HXR := hid (but_to_below HX4.out hb (by omega) (by omega))
    have HVR := hid ((hb.block w1.heap.size (by omega) (by simp; omega)).trans HV4.out)
    have HNR := hid ((HN1.out.below HX4.out (by omega)).but hb (by omega))
    have d0 : wr.cell? ⟨w1.heap.size, 0, none⟩ = some (.slice sa ss.length ca) := by unfold World.cell?; rw [HVR.out]; rfl
    have d1 : wr.cell? ⟨w1.heap.size, 1, none⟩ = some (.slice fa fs.length cf) := by unfold World.cell?; rw [HVR.out]; rfl
    obtain ⟨m0, m1, m2, m3, m4, z0, z1, -⟩ := hm.cells
    have hnl := hm.lt
    clear hm ho hb heq
    by_cases hkl : k < cl.length
    · obtain ⟨g, cap, hge, hg1, hg2, hg3⟩ := HO4.out.shape_pos (by omega)
      injection hge with e1 e2 e3
      subst e1 e3
      have c0 : wr.cell? ⟨g, k, none⟩ = some (.string (cl[k]'hkl)) := by
        have := HO4.out.cellAt k (cl[k]'hkl) (List.getElem?_eq_getElem hkl)
        rw [← this]; unfold World.cell?; rw [HBT.out.block g (by omega) (by simp; omega)]
      have HNX : Hid (lists (cl.drop k) = (cl[k]'hkl).data.toList :: lists (cl.drop (k + 1))) := by
        show _ = _; rw [List.drop_eq_getElem_cons hkl]; rfl
      generalize cl[k]'hkl = sx at *
      have hi1 : (0 : Int) ≤ (k : Int) := by omega
      have hi2 : (k : Int) < (cl.length : Int) := by omega
      have HLD : Hid (IsLH wr.drew (.agg #[.slice sa ss.length ca, .slice fa fs.length cf]) ss fs) := HLH1.out.below HXR.out.drew
      rw [HNX.out, Pr.basesR] at HEQ
      cases hbr : Pr.basementR (lists fs) k sx.data.toList with
      | none =>
        have HT : Hid (lfO (Pr.leafR t) = none) := by show _ = _; rw [HT4.out, ← HEQ.out, hbr]; rfl
        have HC := hid (bas_no _ ss fs k sx wr.drew HLD.out (by omega) (by omega) hbr)
        clear hbr
        go_wp2_with fail
        go_region_dies
        all_goals
          refine HC.out.mono ?_
          rintro r w5 ⟨rfl, hb5⟩
          have HB5 := hid (HB1.out.trans ((HXR.out.trans ((below_drew hb5).mono (by show w1.heap.size ≤ wr.heap.size; omega))).mono (by omega)))
          clear hb5
          unfold gaveUp
          go_wp2_with fail
          exact ⟨rfl, HB5.out, .inl ⟨HT.out, rfl⟩⟩
      | some p =>
        have hp1 := Pr.basementR_pos hbr
        have HEQ2 : Hid ((Pr.basesR (lists fs) (k + 1) (lists (cl.drop (k + 1)))).map (fun r => plain il ++ (p ++ r)) = Pr.basesR (lists fs) 0 (lists cl)) := by
          show _ = _; rw [← HEQ.out, hbr]; simp only [Option.bind_some, Option.map_map]; rfl
        have HC := hid (bas_yes _ ss fs k sx wr.drew HLD.out (by omega) (by omega) hbr)
        clear hbr HEQ
        go_wp2_with fail
        go_region_law (first
          | (refine stepApI _ (by rfl) (.tmp 21) (.tmp 25) (by rfl) w4.heap.size (.slice ia il.length ic) il (by simp [Act.eval]) HOI5.out l g5 cap5 (by simp [Act.eval]) HCL5.out (by omega) (by omega) ?_
             intro v6 w6 ho6 hg6
             obtain ⟨a6, c6, rfl⟩ := rowShape ho6
             generalize hl6 : (il ++ l).length = n6 at *
             have HO6 := hid ho6
             have HG6 := hid hg6
             have HM6 : Hid (NodeB w6 nb (.int .i64 1) (.slice ia il.length ic) (.slice none 0 0) (.slice none 0 0) (.slice none 0 0)) := (hg6.block nb (by have := HM5.out.lt; omega) (fun e => by have := (World.ownsRow.lt HOI5.out nb e.symm).1; omega)).trans HM5.out
             obtain ⟨q0, q1, -, -, -, y0, y1, -⟩ := HM6.out.cells
             have HBT6 := hid (but_grown HBT5.out HOI5.out (Nat.le_refl _) hg6)
             clear ho6 hg6)
          | (go_simp
             refine HC.out.mono ?_
             rintro r w5 ⟨l, v5, hpl, rfl, ho5, hl255, hls, hb5⟩
             have hb5' := below_drew hb5
             have HOI5 : Hid (OwnsI w4.heap.size w5 (.slice ia il.length ic) il) := row_below HO.out hb5' (Nat.le_refl _)
             have HM5 := hid (HM.out.keep hb5')
             have HBT5 := hid (but_trans HBT.out (but_below (b := nb) hb5'))
             have hs5 : wr.heap.size ≤ w5.heap.size := hb5'.size
             have hl1 : 1 ≤ l.length := by have : (plain l).length = l.length := by simp [plain]
                                           rw [hpl] at hp1; omega
             have HPL := hid hpl
             obtain ⟨g5, cap5, rfl, hx5, hy5, hw5, hia⟩ := ho5.isItems.resolve_left (by rintro ⟨_, _, _, rfl⟩; simp at hl1)
             have HCL5 : Hid (∀ j u, (icells l)[j]? = some u → w5.cell? ((⟨g5, 0, none⟩ : Addr).add j) = some u) := World.ownsRow.cells ho5 rfl
             obtain ⟨q0, q1, q2, q3, q4, y0, y1, -⟩ := HM5.out.cells
             have HV5 := hid ((hb5'.block w1.heap.size (by show w1.heap.size < wr.heap.size; omega)).trans HVR.out)
             have d0' : w5.cell? ⟨w1.heap.size, 0, none⟩ = some (.slice sa ss.length ca) := by unfold World.cell?; rw [HV5.out]; rfl
             have d1' : w5.cell? ⟨w1.heap.size, 1, none⟩ = some (.slice fa fs.length cf) := by unfold World.cell?; rw [HV5.out]; rfl
             clear hls hb5 hb5' hpl hia))
        all_goals
          have HM7 := hid (HM6.out.set1 (.slice a6 n6 c6))
          have HO7 := hid (row_set (B := w4.heap.size) HO6.out (b := nb) (i := 1) (by omega) (.slice a6 n6 c6))
          have HB7 := hid (but_trans HBT6.out (but_set nb 1 w6 (.slice a6 n6 c6)))
          have hn6 : (il ++ l).length ≤ 255 * (k + 1) := by rw [List.length_append]; omega
          clear hl6
          go_wp2_with fail
          go_roundw
          case rel => exact ⟨k + 1, il ++ l, _, by omega, by go_num, hn6, HM7.out, HO7.out, HB7.out, by rw [← HEQ2.out, HPL.out, plain_app]; simp only [List.append_assoc]⟩
          case measure => simp [intOf]; omega
    · have HT : Hid (lfO (Pr.leafR t) = some (1, plain il, [], lists [], plainCh [])) := by
        show _ = _; rw [HT4.out, ← HEQ.out, List.drop_eq_nil_of_le (by omega)]; simp [lists, Pr.basesR, lfO, plainCh]
      have HBF := hid (below_put (HB1.out.trans (HXR.out.mono (by omega))) (Nat.le_refl w.heap.size) (.int .i64 1) (.slice ia il.length ic) (.slice none 0 0) (.slice none 0 0) (.slice none 0 0))
      have HNF := hid (HNR.out.put (.int .i64 1) (.slice ia il.length ic) (.slice none 0 0) (.slice none 0 0) (.slice none 0 0))
      have HOF := hid (row_shrink (row_put HO.out (b := w.heap.size) (by omega) (.int .i64 1) (.slice ia il.length ic) (.slice none 0 0) (.slice none 0 0) (.slice none 0 0)) (C := w.heap.size) (by omega))
      obtain ⟨r0, r1, r2, r3, r4, y0, y1, y2, y3, y4⟩ := HNR.out.cells
      have hil2 : il.length ≤ 1020 := by omega
      go_wp2_with fail
      refine bodyPost_ret (v := .agg #[.int .i64 1, .slice ia il.length ic, .slice none 0 0, .slice none 0 0, .slice none 0 0]) ?_ rfl ⟨HBF.out, .inr ⟨1, il, [], [], [], _, HT.out, rfl, _, _, _, _, rfl, HOF.out, World.ownsRow_nil _ _ _ _, World.ownsRow_nil _ _ _ _, World.ownsRow_nil _ _ _ _, hil2, by simp, by simp, by simp⟩⟩
      obtain ⟨q0, q1, q2, q3, q4⟩ := nodeB_result HNF.out
      unfold put5 at q0 q1 q2 q3 q4
      simp [results, Try.results63, go_sem, q0, q1, q2, q3, q4]
end Go.Proofs.Ytolgpnaoaodepaa
/- The walks of pages' readEither and Read. -/
namespace Go.Proofs.Ytolgpnaoaodepaa.Pr
open Pg
abbrev NodeT := Int × List (List UInt8 × List UInt8) × List Nat × List (List UInt8) × List (Int × List UInt8 × List UInt8)
def eitherR (t : List UInt8) : Option NodeT := if t.take 3 = [83, 50, 73] then brO (branchR t) else lfO (leafR t)
def wellT (n : NodeT) : Bool := well n.1 n.2.1 (n.2.2.1.map Int.ofNat) n.2.2.2.1 n.2.2.2.2
def pageT (n : NodeT) : List UInt8 := page n.1 n.2.1 (n.2.2.1.map Int.ofNat) n.2.2.2.1 n.2.2.2.2
def readR (t : List UInt8) : Option NodeT := (eitherR t).bind fun n => if wellT n = true then (if pageT n = t then some n else none) else none
theorem readR_is {t : List UInt8} {n : NodeT} (h : readR t = some n) : wellT n = true ∧ pageT n = t := by
  unfold readR at h
  rw [Option.bind_eq_some_iff] at h
  obtain ⟨m, _, h2⟩ := h
  by_cases h3 : wellT m = true
  · rw [if_pos h3] at h2
    by_cases h4 : pageT m = t
    · rw [if_pos h4] at h2; simp only [Option.some.injEq] at h2; subst h2; exact ⟨h3, h4⟩
    · rw [if_neg h4] at h2; simp at h2
  · rw [if_neg h3] at h2; simp at h2
end Go.Proofs.Ytolgpnaoaodepaa.Pr
namespace Go.Proofs.Ytolgpnaoaodepaa
open Go.RowKit
theorem NodeV.isNode {B : Nat} {w : World} {v : Value} {kd : Int} {il : List (ByteArray × ByteArray)} {cl : List Nat} {pl : List ByteArray} {ml : List (Int × ByteArray × ByteArray)} (h : NodeV B w v kd il cl pl ml) : IsNode w v kd il (cl.map Int.ofNat) pl ml := by
  obtain ⟨v1, v2, v3, v4, e, h1, h2, h3, h4, b1, b2, b3, b4⟩ := h
  refine ⟨v1, v2, v3, v4, e, ownsI_items h1, by omega, ?_, ?_, h4.isChs (by omega)⟩
  · have := ownsRow.isRow h2 (by omega)
    rw [List.length_map, List.map_map]
    exact this
  · exact ownsRow.isRow h3 (by omega)
theorem NodeV.put {B : Nat} {w : World} {v : Value} {kd : Int} {il : List (ByteArray × ByteArray)} {cl : List Nat} {pl : List ByteArray} {ml : List (Int × ByteArray × ByteArray)} (h : NodeV B w v kd il cl pl ml) {b : Nat} (hb : b < B) (u0 u1 u2 u3 u4 : Value) : NodeV B (put5 w b u0 u1 u2 u3 u4) v kd il cl pl ml := by
  obtain ⟨v1, v2, v3, v4, e, h1, h2, h3, h4, b1⟩ := h
  exact ⟨v1, v2, v3, v4, e, row_put h1 hb _ _ _ _ _, row_put h2 hb _ _ _ _ _, row_put h3 hb _ _ _ _ _, row_put h4 hb _ _ _ _ _, b1⟩
theorem NodeV.below {B : Nat} {w w' : World} {v : Value} {kd : Int} {il : List (ByteArray × ByteArray)} {cl : List Nat} {pl : List ByteArray} {ml : List (Int × ByteArray × ByteArray)} (h : NodeV B w v kd il cl pl ml) (hb : Below w.heap.size w w') : NodeV B w' v kd il cl pl ml := by
  obtain ⟨v1, v2, v3, v4, e, h1, h2, h3, h4, b1⟩ := h
  exact ⟨v1, v2, v3, v4, e, row_below h1 hb (Nat.le_refl _), row_below h2 hb (Nat.le_refl _), row_below h3 hb (Nat.le_refl _), row_below h4 hb (Nat.le_refl _), b1⟩
theorem NodeV.shrink {B C : Nat} {w : World} {v : Value} {kd : Int} {il : List (ByteArray × ByteArray)} {cl : List Nat} {pl : List ByteArray} {ml : List (Int × ByteArray × ByteArray)} (h : NodeV B w v kd il cl pl ml) (hc : C ≤ B) : NodeV C w v kd il cl pl ml := by
  obtain ⟨v1, v2, v3, v4, e, h1, h2, h3, h4, b1⟩ := h
  exact ⟨v1, v2, v3, v4, e, row_shrink h1 hc, row_shrink h2 hc, row_shrink h3 hc, row_shrink h4 hc, b1⟩
theorem NodeV.shape {B : Nat} {w : World} {v : Value} {kd : Int} {il : List (ByteArray × ByteArray)} {cl : List Nat} {pl : List ByteArray} {ml : List (Int × ByteArray × ByteArray)} (h : NodeV B w v kd il cl pl ml) : ∃ a1 c1 a2 c2 a3 c3 a4 c4, v = .agg #[.int .i64 kd, .slice a1 il.length c1, .slice a2 cl.length c2, .slice a3 pl.length c3, .slice a4 ml.length c4] := by
  obtain ⟨v1, v2, v3, v4, e, h1, h2, h3, h4, b1⟩ := h
  obtain ⟨a1, c1, rfl⟩ := rowShape h1
  obtain ⟨a2, c2, rfl⟩ := rowShape h2
  obtain ⟨a3, c3, rfl⟩ := rowShape h3
  obtain ⟨a4, c4, rfl⟩ := rowShape h4
  exact ⟨a1, c1, a2, c2, a3, c3, a4, c4, e⟩

set_option maxHeartbeats 1000000 in
theorem prefixLite (t : List UInt8) (w : World) :
    Calls Try.prog 78 #[.string ⟨t.toArray⟩, .string ⟨#[83, 50, 73]⟩] w fun r w' => r = .returned (.bool (decide (t.take 3 = [83, 50, 73]))) ∧ w' = w := by
  have hz := size_mk t
  generalize hres : decide (t.take 3 = [83, 50, 73]) = res
  have HR := hid hres
  clear hres
  go_enter Try.func78, Try.ntmps78
  by_cases h3 : 3 ≤ t.length
  · have hi : (3 : Int) ≤ (t.length : Int) := by omega
    have he := ext_take t 3
    go_wp2_with fail
    go_ret
    refine ⟨?_, rfl⟩
    rw [← HR.out]
    show Ending.returned (.bool (t.take 3 == [83, 50, 73])) = _
    rw [show (t.take 3 == [83, 50, 73]) = decide (t.take 3 = [83, 50, 73]) from Bool.eq_iff_iff.2 (by simp)]
  · have hi : ¬ (3 : Int) ≤ (t.length : Int) := by omega
    have HF : Hid (res = false) := by
      show _ = _; rw [← HR.out]; exact decide_eq_false fun e => by have := congrArg List.length e; rw [List.length_take] at this; simp at this; omega
    go_wp2_with fail
    go_ret
    exact ⟨by rw [HF.out]; rfl, rfl⟩
set_option maxHeartbeats 1000000 in
theorem prefix_any (t : List UInt8) (w : World) :
    Calls Try.prog 61 #[.string ⟨t.toArray⟩, .string ⟨#[83, 50, 73]⟩] w fun r w' => r = .returned (.bool (decide (t.take 3 = [83, 50, 73]))) ∧ w' = w := by
  have HC := hid (prefixLite t w)
  generalize decide (t.take 3 = [83, 50, 73]) = res at *
  go_enter Try.func61, Try.ntmps61
  go_wp2_with fail
  refine HC.out.mono ?_
  rintro r w1 ⟨rfl, rfl⟩
  go_wp2_with fail
  go_ret
  exact ⟨rfl, rfl⟩
/-- The end of a function that gives a node's value on, by its result's cell. -/
theorem node_end {w w1 : World} {o : Option Pr.NodeT} {kd : Int} {il : List (ByteArray × ByteArray)} {cl : List Nat} {pl : List ByteArray} {ml : List (Int × ByteArray × ByteArray)} {a1 a2 a3 a4 : Value} {B : Nat}
    (hb : Below w.heap.size w w1) (ho : o = some (kd, plain il, cl, lists pl, plainCh ml)) (hn : NodeV B w1 (.agg #[.int .i64 kd, a1, a2, a3, a4]) kd il cl pl ml) (hB : w.heap.size < B) :
    NodeQ w o (.returned (.agg #[.int .i64 kd, a1, a2, a3, a4])) (put5 w1 w.heap.size (.int .i64 kd) a1 a2 a3 a4) :=
  ⟨below_put hb (Nat.le_refl _) _ _ _ _ _, .inr ⟨kd, il, cl, pl, ml, _, ho, rfl, (hn.put hB _ _ _ _ _).shrink (Nat.le_of_lt hB)⟩⟩

set_option maxHeartbeats 2000000 in
set_option maxRecDepth 20000 in
theorem readEither_any (t : List UInt8) (w : World) :
    Calls Try.prog 42 #[.string ⟨t.toArray⟩] w fun r w' => NodeQ w (Pr.eitherR t) r w' := by
  go_enter Try.func42, Try.ntmps42
  go_wp2_with fail
  have HN0 := hid (nodeB_new w (.int .i64 0) (.slice none 0 0) (.slice none 0 0) (.slice none 0 0) (.slice none 0 0))
  have HB0 := hid ((Below.refl w.heap.size w).alloc (Nat.le_refl _) (.cells #[.int .i64 0, .slice none 0 0, .slice none 0 0, .slice none 0 0, .slice none 0 0] 34))
  have hs0 : w.heap.size < (w.alloc (.cells #[.int .i64 0, .slice none 0 0, .slice none 0 0, .slice none 0 0, .slice none 0 0] 34)).heap.size := by simp
  generalize w.alloc (.cells #[.int .i64 0, .slice none 0 0, .slice none 0 0, .slice none 0 0, .slice none 0 0] 34) = w0 at *
  refine (prefix_any t _).mono ?_
  rintro r w1 ⟨rfl, rfl⟩
  by_cases hp : t.take 3 = [83, 50, 73]
  · have HE : Hid (Pr.eitherR t = brO (Pr.branchR t)) := by show _ = _; unfold Pr.eitherR; rw [if_pos hp]
    rw [decide_eq_true hp]
    clear hp
    go_wp2_with fail
    refine (readBranch_any t _).mono ?_
    rintro r w2 ⟨hb2, ⟨hn, rfl⟩ | ⟨kd, il, cl, pl, ml, v, hs, rfl, hv⟩⟩
    · have HF : Hid (Pr.eitherR t = none) := HE.out.trans hn
      have HB2 := hid (HB0.out.trans (hb2.mono (by omega)))
      clear hb2 hn
      unfold gaveUp
      go_wp2_with fail
      exact ⟨rfl, HB2.out, .inl ⟨HF.out, rfl⟩⟩
    · have HF := hid (HE.out.trans hs)
      have HB2 := hid (HB0.out.trans (hb2.mono (by omega)))
      have HN2 := hid (HN0.out.keep hb2)
      obtain ⟨a1, c1, a2, c2, a3, c3, a4, c4, rfl⟩ := hv.shape
      have HV := hid hv
      have HEND := hid (node_end HB2.out HF.out HV.out (by omega))
      have HNF := hid (HN2.out.put (.int .i64 kd) (.slice a1 il.length c1) (.slice a2 cl.length c2) (.slice a3 pl.length c3) (.slice a4 ml.length c4))
      obtain ⟨r0, r1, r2, r3, r4, y0, y1, y2, y3, y4⟩ := HN2.out.cells
      clear hb2 hs hv
      go_wp2_with fail
      refine bodyPost_ret (v := .agg #[.int .i64 kd, .slice a1 il.length c1, .slice a2 cl.length c2, .slice a3 pl.length c3, .slice a4 ml.length c4]) ?_ rfl HEND.out
      obtain ⟨q0, q1, q2, q3, q4⟩ := nodeB_result HNF.out
      unfold put5 at q0 q1 q2 q3 q4
      simp [results, Try.results42, go_sem, q0, q1, q2, q3, q4]
  · have HE : Hid (Pr.eitherR t = lfO (Pr.leafR t)) := by show _ = _; unfold Pr.eitherR; rw [if_neg hp]
    rw [decide_eq_false hp]
    clear hp
    go_wp2_with fail
    refine (readLeaf_any t _).mono ?_
    rintro r w2 ⟨hb2, ⟨hn, rfl⟩ | ⟨kd, il, cl, pl, ml, v, hs, rfl, hv⟩⟩
    · have HF : Hid (Pr.eitherR t = none) := HE.out.trans hn
      have HB2 := hid (HB0.out.trans (hb2.mono (by omega)))
      clear hb2 hn
      unfold gaveUp
      go_wp2_with fail
      exact ⟨rfl, HB2.out, .inl ⟨HF.out, rfl⟩⟩
    · have HF := hid (HE.out.trans hs)
      have HB2 := hid (HB0.out.trans (hb2.mono (by omega)))
      have HN2 := hid (HN0.out.keep hb2)
      obtain ⟨a1, c1, a2, c2, a3, c3, a4, c4, rfl⟩ := hv.shape
      have HV := hid hv
      have HEND := hid (node_end HB2.out HF.out HV.out (by omega))
      have HNF := hid (HN2.out.put (.int .i64 kd) (.slice a1 il.length c1) (.slice a2 cl.length c2) (.slice a3 pl.length c3) (.slice a4 ml.length c4))
      obtain ⟨r0, r1, r2, r3, r4, y0, y1, y2, y3, y4⟩ := HN2.out.cells
      clear hb2 hs hv
      go_wp2_with fail
      refine bodyPost_ret (v := .agg #[.int .i64 kd, .slice a1 il.length c1, .slice a2 cl.length c2, .slice a3 pl.length c3, .slice a4 ml.length c4]) ?_ rfl HEND.out
      obtain ⟨q0, q1, q2, q3, q4⟩ := nodeB_result HNF.out
      unfold put5 at q0 q1 q2 q3 q4
      simp [results, Try.results42, go_sem, q0, q1, q2, q3, q4]

set_option maxHeartbeats 2000000 in
set_option maxRecDepth 20000 in
theorem pagesRead_any (t : List UInt8) (w : World) :
    Calls Try.prog 28 #[.string ⟨t.toArray⟩] w fun r w' => NodeQ w (Pr.readR t) r w' := by
  go_enter Try.func28, Try.ntmps28
  go_wp2_with fail
  have HN0 := hid (nodeB_new w (.int .i64 0) (.slice none 0 0) (.slice none 0 0) (.slice none 0 0) (.slice none 0 0))
  have HB0 := hid ((Below.refl w.heap.size w).alloc (Nat.le_refl _) (.cells #[.int .i64 0, .slice none 0 0, .slice none 0 0, .slice none 0 0, .slice none 0 0] 34))
  have hs0 : w.heap.size < (w.alloc (.cells #[.int .i64 0, .slice none 0 0, .slice none 0 0, .slice none 0 0, .slice none 0 0] 34)).heap.size := by simp
  generalize w.alloc (.cells #[.int .i64 0, .slice none 0 0, .slice none 0 0, .slice none 0 0, .slice none 0 0] 34) = w0 at *
  refine (readEither_any t _).mono ?_
  rintro r w1 ⟨hb1, ⟨hn, rfl⟩ | ⟨kd, il, cl, pl, ml, v, hs, rfl, hv⟩⟩
  · have HF : Hid (Pr.readR t = none) := by show _ = _; unfold Pr.readR; rw [hn]; rfl
    have HB1 := hid (HB0.out.trans (hb1.mono (by omega)))
    clear hb1 hn
    unfold gaveUp
    go_wp2_with fail
    exact ⟨rfl, HB1.out, .inl ⟨HF.out, rfl⟩⟩
  have HF : Hid (Pr.readR t = if Pg.well kd (plain il) (cl.map Int.ofNat) (lists pl) (plainCh ml) = true then (if Pg.page kd (plain il) (cl.map Int.ofNat) (lists pl) (plainCh ml) = t then some (kd, plain il, cl, lists pl, plainCh ml) else none) else none) := by
    show _ = _; unfold Pr.readR; rw [hs]; rfl
  have HB1 := hid (HB0.out.trans (hb1.mono (by omega)))
  have HN1 := hid (HN0.out.keep hb1)
  obtain ⟨a1, c1, a2, c2, a3, c3, a4, c4, rfl⟩ := hv.shape
  have BA := (Below.refl w1.heap.size w1).alloc (Nat.le_refl _) (.cells #[.int .i64 kd, .slice a1 il.length c1, .slice a2 cl.length c2, .slice a3 pl.length c3, .slice a4 ml.length c4] 34)
  have HM2 := hid (nodeB_new w1 (.int .i64 kd) (.slice a1 il.length c1) (.slice a2 cl.length c2) (.slice a3 pl.length c3) (.slice a4 ml.length c4))
  have HB2 := hid (HB1.out.trans (BA.mono (by have := hb1.size; omega)))
  have HN2 := hid (HN1.out.keep BA)
  have HV2 := hid (hv.below BA)
  have hs1 := hb1.size
  have hs2 : w1.heap.size < (w1.alloc (.cells #[.int .i64 kd, .slice a1 il.length c1, .slice a2 cl.length c2, .slice a3 pl.length c3, .slice a4 ml.length c4] 34)).heap.size := by simp
  clear hb1 hs hv BA HB1 HN1 HN0 HB0
  have HIN := hid HV2.out.isNode
  go_wp2_with fail
  generalize w1.alloc (.cells #[.int .i64 kd, .slice a1 il.length c1, .slice a2 cl.length c2, .slice a3 pl.length c3, .slice a4 ml.length c4] 34) = w2 at *
  generalize w1.heap.size = nb at *
  refine (isNode_any _ kd il (cl.map Int.ofNat) pl ml _ HIN.out).mono ?_
  rintro r w3 ⟨rfl, hb3⟩
  have HB3 := hid (HB2.out.trans (hb3.mono (by omega)))
  have HN3 := hid (HN2.out.keep hb3)
  have HM3 := hid (HM2.out.keep hb3)
  have HV3 := hid (HV2.out.below hb3)
  have HIN3 := hid (HIN.out.below hb3)
  have hs3 := hb3.size
  obtain ⟨m0, m1, m2, m3, m4, -⟩ := HM3.out.cells
  clear hb3 HB2 HN2 HM2 HV2 HIN
  cases hw : Pg.well kd (plain il) (cl.map Int.ofNat) (lists pl) (plainCh ml)
  · have HF2 : Hid (Pr.readR t = none) := by show _ = _; rw [HF.out, hw]; rfl
    clear hw
    go_wp2_with fail
    refine (unless_no _).mono ?_
    rintro r w4 ⟨rfl, rfl⟩
    unfold gaveUp
    go_wp2_with fail
    exact ⟨rfl, HB3.out, .inl ⟨HF2.out, rfl⟩⟩
  · have HW := hid hw
    rw [hw, if_pos rfl] at HF
    clear hw
    go_wp2_with fail
    refine (pagesWrite_any _ kd il (cl.map Int.ofNat) pl ml _ HIN3.out HW.out).mono ?_
    rintro r w4 ⟨rfl, hb4⟩
    have HB4 := hid (HB3.out.trans (hb4.mono (by omega)))
    have HN4 := hid (HN3.out.keep hb4)
    have HM4 := hid (HM3.out.keep hb4)
    have HV4 := hid (HV3.out.below hb4)
    clear hb4 m0 m1 m2 m3 m4
    generalize Pg.page kd (plain il) (cl.map Int.ofNat) (lists pl) (plainCh ml) = pg at *
    obtain ⟨m0, m1, m2, m3, m4, -⟩ := HM4.out.cells
    obtain ⟨r0, r1, r2, r3, r4, y0, y1, y2, y3, y4⟩ := HN4.out.cells
    by_cases he : pg = t
    · rw [if_pos he] at HF
      subst he
      have HEND := hid (node_end HB4.out HF.out HV4.out (by omega))
      have HNF := hid (HN4.out.put (.int .i64 kd) (.slice a1 il.length c1) (.slice a2 cl.length c2) (.slice a3 pl.length c3) (.slice a4 ml.length c4))
      go_wp2_with fail
      refine (unless_yes _).mono ?_
      rintro r w5 ⟨rfl, rfl⟩
      go_wp2_with fail
      refine bodyPost_ret (v := .agg #[.int .i64 kd, .slice a1 il.length c1, .slice a2 cl.length c2, .slice a3 pl.length c3, .slice a4 ml.length c4]) ?_ rfl HEND.out
      obtain ⟨q0, q1, q2, q3, q4⟩ := nodeB_result HNF.out
      unfold put5 at q0 q1 q2 q3 q4
      simp [results, Try.results28, go_sem, q0, q1, q2, q3, q4]
    · rw [if_neg he] at HF
      have hne : (pg == t) = false := by simpa using he
      go_wp2_with fail
      refine (unless_no _).mono ?_
      rintro r w5 ⟨rfl, rfl⟩
      unfold gaveUp
      go_wp2_with fail
      exact ⟨rfl, HB4.out, .inl ⟨HF.out, rfl⟩⟩
end Go.Proofs.Ytolgpnaoaodepaa
/- The walks of silt's Read: its literal, Catch around it. -/
namespace Go.Proofs.Ytolgpnaoaodepaa
open Go.RowKit

set_option maxHeartbeats 1000000 in
theorem readLit_any (b : Nat) (t : List UInt8) (w : World) (h1 : w.cell? ⟨b, 0, none⟩ = some (.string ⟨t.toArray⟩)) (hl : b < w.heap.size) :
    Calls Try.prog 27 #[.pointer (some ⟨b, 0, none⟩)] w fun r w' => NodeQ w (Pr.readR t) r w' := by
  have HN0 := hid (nodeB_new w (.int .i64 0) (.slice none 0 0) (.slice none 0 0) (.slice none 0 0) (.slice none 0 0))
  have HB0 := hid ((Below.refl w.heap.size w).alloc (Nat.le_refl _) (.cells #[.int .i64 0, .slice none 0 0, .slice none 0 0, .slice none 0 0, .slice none 0 0] 34))
  have hs0 : w.heap.size < (w.alloc (.cells #[.int .i64 0, .slice none 0 0, .slice none 0 0, .slice none 0 0, .slice none 0 0] 34)).heap.size := by simp
  go_enter Try.func27, Try.ntmps27
  go_wp2_with fail
  generalize w.alloc (.cells #[.int .i64 0, .slice none 0 0, .slice none 0 0, .slice none 0 0, .slice none 0 0] 34) = w0 at *
  refine (pagesRead_any t _).mono ?_
  rintro r w2 ⟨hb2, ⟨hn, rfl⟩ | ⟨kd, il, cl, pl, ml, v, hs, rfl, hv⟩⟩
  · have HF := hid hn
    have HB2 := hid (HB0.out.trans (hb2.mono (by omega)))
    clear hb2 hn
    unfold gaveUp
    go_wp2_with fail
    exact ⟨rfl, HB2.out, .inl ⟨HF.out, rfl⟩⟩
  · have HF := hid hs
    have HB2 := hid (HB0.out.trans (hb2.mono (by omega)))
    have HN2 := hid (HN0.out.keep hb2)
    obtain ⟨a1, c1, a2, c2, a3, c3, a4, c4, rfl⟩ := hv.shape
    have HV := hid hv
    have HEND := hid (node_end HB2.out HF.out HV.out (by omega))
    have HNF := hid (HN2.out.put (.int .i64 kd) (.slice a1 il.length c1) (.slice a2 cl.length c2) (.slice a3 pl.length c3) (.slice a4 ml.length c4))
    obtain ⟨r0, r1, r2, r3, r4, y0, y1, y2, y3, y4⟩ := HN2.out.cells
    clear hb2 hs hv
    go_wp2_with fail
    refine bodyPost_ret (v := .agg #[.int .i64 kd, .slice a1 il.length c1, .slice a2 cl.length c2, .slice a3 pl.length c3, .slice a4 ml.length c4]) ?_ rfl HEND.out
    obtain ⟨q0, q1, q2, q3, q4⟩ := nodeB_result HNF.out
    unfold put5 at q0 q1 q2 q3 q4
    simp [results, Try.results27, go_sem, q0, q1, q2, q3, q4]

set_option maxHeartbeats 1000000 in
theorem catchN_panicking (b : Nat) (x : Int) (older : List PanicEntry) (w : World) (hc : w.cell? ⟨b, 0, none⟩ = some (.int .i64 x)) (hz : w.frozen? ⟨b, 0, none⟩ = false) (hp : b < w.heap.size) :
    CallsD Try.prog 41 #[.pointer (some ⟨b, 0, none⟩)] (.panicking ({ v := .iface 66 (.agg #[]), recovered := false } :: older)) w fun e u' w' =>
      e = .returned (.tuple #[]) ∧ u' = .panicking ({ v := .iface 66 (.agg #[]), recovered := true } :: older) ∧ w' = (w.setCell ⟨b, 0, none⟩ (.int .i64 2)).alloc (.cells #[] 66) := by
  refine callsD_of_wpS Try.func41 rfl fun c₀ cs hu => ?_
  apply wpS_seq
  apply wpS_region
  simp [wpOpsS, go_sem, recoverD, hu, Try.ntmps41, Exit.thenS]
  refine wpS_of_wp ?_
  rw [show (#[Value.pointer (some ⟨b, 0, none⟩)] ++ ((Array.replicate 14 undef).setIfInBounds 3 (Value.iface 66 (Value.agg #[]))).setIfInBounds 0 (Value.iface 66 (Value.agg #[]))) = #[Value.pointer (some ⟨b, 0, none⟩), Value.iface 66 (Value.agg #[]), undef, undef, Value.iface 66 (Value.agg #[]), undef, undef, undef, undef, undef, undef, undef, undef, undef, undef] from rfl]
  generalize hQ : (fun e a' w' => bodyPostS Try.prog Try.f41 c₀ cs _ e a' _ w') = Q
  have HQ := hid hQ
  clear hQ hu
  have hta := ta
  have hf2 : (w.alloc (.cells #[] 66)).frozen? ⟨b, 0, none⟩ = false := by rw [World.frozen?_alloc_old _ _ _ (by simp; omega)]; exact hz
  go_wp2_with fail
  rw [← HQ.out]
  simp [bodyPostS, results, Try.results41]

theorem catchN_idle (p : Addr) (w : World) :
    CallsD Try.prog 41 #[.pointer (some p)] .returning w fun e u' w' => e = .returned (.tuple #[]) ∧ u' = .returning ∧ w' = w := by
  refine callsD_of_wpS Try.func41 rfl fun c₀ cs hu => ?_
  apply wpS_seq
  apply wpS_region
  simp [wpOpsS, go_sem, recoverD, hu, Try.ntmps41, Exit.thenS]
  refine wpS_of_wp ?_
  rw [show (#[Value.pointer (some p)] ++ ((Array.replicate 14 undef).setIfInBounds 3 Value.nilIface).setIfInBounds 0 Value.nilIface) = #[Value.pointer (some p), Value.nilIface, undef, undef, Value.nilIface, undef, undef, undef, undef, undef, undef, undef, undef, undef, undef] from rfl]
  generalize hQ : (fun e a' w' => bodyPostS Try.prog Try.f41 c₀ cs _ e a' _ w') = Q
  have HQ := hid hQ
  have HU := hid hu
  clear hQ hu
  go_wp2_with fail
  rw [← HQ.out]
  have hu := HU.out
  cases c₀
  simp_all [bodyPostS, results, Try.results41]

def ReadQ (w : World) (o : Option Pr.NodeT) (r : Ending) (w' : World) : Prop := Below w.heap.size w w' ∧ ((o = none ∧ r = .returned (.tuple #[.agg #[.int .i64 0, .slice none 0 0, .slice none 0 0, .slice none 0 0, .slice none 0 0], .int .i64 2])) ∨ ∃ kd il cl pl ml v, o = some (kd, plain il, cl, lists pl, plainCh ml) ∧ r = .returned (.tuple #[v, .int .i64 0]) ∧ NodeV w.heap.size w' v kd il cl pl ml)
theorem NodeV.set {B : Nat} {w : World} {v : Value} {kd : Int} {il : List (ByteArray × ByteArray)} {cl : List Nat} {pl : List ByteArray} {ml : List (Int × ByteArray × ByteArray)} (h : NodeV B w v kd il cl pl ml) {b i : Nat} (hb : b < B) (u : Value) : NodeV B (w.setCell ⟨b, i, none⟩ u) v kd il cl pl ml := by
  obtain ⟨v1, v2, v3, v4, e, h1, h2, h3, h4, b1⟩ := h
  exact ⟨v1, v2, v3, v4, e, row_set h1 hb _, row_set h2 hb _, row_set h3 hb _, row_set h4 hb _, b1⟩
set_option maxHeartbeats 1000000 in
theorem readCatch_any (b : Nat) (t : List UInt8) (w : World) (h1 : w.cell? ⟨b, 0, none⟩ = some (.string ⟨t.toArray⟩)) (hl1 : b < w.heap.size) :
    Calls Try.prog 26 #[.func (.func 27) #[] #[.pointer (some ⟨b, 0, none⟩)]] w fun r w' => ReadQ w (Pr.readR t) r w' := by
  have hmf : ∀ (fn : Fn) (first cap : Array Value) (w : World), (Instr.makeFunc fn first cap).run Try.prog w = .ok (.func fn first cap) w := fun _ _ _ _ => rfl
  have HC := hid (readLit_any b t ((w.alloc (.cells #[.int .i64 0, .slice none 0 0, .slice none 0 0, .slice none 0 0, .slice none 0 0] 34)).alloc (.cells #[.int .i64 0] 25)) (by rw [World.cell?_alloc_past _ _ _ (by simp; omega), World.cell?_alloc_past _ _ _ hl1]; exact h1) (by simp; omega))
  have BA := (Below.refl w.heap.size w).alloc (Nat.le_refl _) (.cells #[.int .i64 0, .slice none 0 0, .slice none 0 0, .slice none 0 0, .slice none 0 0] 34)
  have HN := hid (nodeB_new w (.int .i64 0) (.slice none 0 0) (.slice none 0 0) (.slice none 0 0) (.slice none 0 0))
  have HN0 := hid (HN.out.keep ((Below.refl _ _).alloc (Nat.le_refl _) (.cells #[.int .i64 0] 25)))
  have HB0 := hid (BA.alloc (by simp) (.cells #[.int .i64 0] 25))
  have HE0 : Hid (((w.alloc (.cells #[.int .i64 0, .slice none 0 0, .slice none 0 0, .slice none 0 0, .slice none 0 0] 34)).alloc (.cells #[.int .i64 0] 25)).heap[w.heap.size + 1]? = some (.cells #[.int .i64 0] 25 (0, 0))) := by
    show _ = _
    rw [show w.heap.size + 1 = (w.alloc (.cells #[.int .i64 0, .slice none 0 0, .slice none 0 0, .slice none 0 0, .slice none 0 0] 34)).heap.size by simp]
    exact heap_alloc_new _ _
  have hs0 : w.heap.size + 2 ≤ ((w.alloc (.cells #[.int .i64 0, .slice none 0 0, .slice none 0 0, .slice none 0 0, .slice none 0 0] 34)).alloc (.cells #[.int .i64 0] 25)).heap.size := by simp
  clear h1 hl1 BA HN
  go_enter_defers Try.func26, Try.ntmps26
  go_wp2_with fail
  generalize (w.alloc (.cells #[.int .i64 0, .slice none 0 0, .slice none 0 0, .slice none 0 0, .slice none 0 0] 34)).alloc (.cells #[.int .i64 0] 25) = w0 at *
  refine HC.out.mono ?_
  rintro r w1 ⟨hb1, hcase⟩
  have hblk : w1.heap[w.heap.size + 1]? = some (.cells #[.int .i64 0] 25 (0, 0)) := (hb1.block _ (by omega)).trans HE0.out
  have hce : w1.cell? ⟨w.heap.size + 1, 0, none⟩ = some (.int .i64 0) := by unfold World.cell?; rw [hblk]; rfl
  have hfz : w1.frozen? ⟨w.heap.size + 1, 0, none⟩ = false := by unfold World.frozen?; rw [hblk]; rfl
  have hlt : w.heap.size + 1 < w1.heap.size := (Array.getElem?_eq_some_iff.1 hblk).1
  have HB1 := hid (HB0.out.trans (hb1.mono (by omega)))
  have HN1 := hid (HN0.out.keep hb1)
  have HCS := hid hcase
  clear hb1 hblk hcase HC
  rcases HCS.out with ⟨hn, rfl⟩ | ⟨kd, il, cl, pl, ml, v, hs, rfl, hv⟩
  · have HF := hid hn
    clear hn HCS
    unfold gaveUp
    go_wp2_with fail
    refine leaves_cons (f := 41) (args := #[.pointer (some ⟨w.heap.size + 1, 0, none⟩)]) (by simp) (by simp [go_sem]) ?_
    refine (catchN_panicking (w.heap.size + 1) 0 [] _ hce hfz hlt).mono ?_
    rintro e u' w'' ⟨rfl, rfl, rfl⟩
    have HBF := hid ((HB1.out.setCell (p := ⟨w.heap.size + 1, 0, none⟩) (by simp) (.int .i64 2)).alloc (by simp; omega) (.cells #[] 66))
    have HNF := hid ((HN1.out.but (but_set (w.heap.size + 1) 0 w1 (.int .i64 2)) (by omega)).keep ((Below.refl _ _).alloc (Nat.le_refl _) (.cells #[] 66)))
    have hx : ((w1.setCell ⟨w.heap.size + 1, 0, none⟩ (.int .i64 2)).alloc (.cells #[] 66)).cell? ⟨w.heap.size + 1, 0, none⟩ = some (.int .i64 2) := by
      rw [World.cell?_alloc_past _ _ _ (by simp; omega)]; exact World.cell?_setCell_same _ _ _ hce
    obtain ⟨q0, q1, q2, q3, q4⟩ := nodeB_result HNF.out
    simp [Leaves, settle, results, Try.results26, go_sem, hx, q0, q1, q2, q3, q4]
    exact ⟨HBF.out, .inl ⟨HF.out, rfl⟩⟩
  · have HF := hid hs
    obtain ⟨a1, c1, a2, c2, a3, c3, a4, c4, rfl⟩ := hv.shape
    have HV := hid hv
    obtain ⟨r0, r1, r2, r3, r4, y0, y1, y2, y3, y4⟩ := HN1.out.cells
    clear hs hv HCS
    have HB2 := hid (below_put HB1.out (Nat.le_refl _) (.int .i64 kd) (.slice a1 il.length c1) (.slice a2 cl.length c2) (.slice a3 pl.length c3) (.slice a4 ml.length c4))
    have HN2 := hid (HN1.out.put (.int .i64 kd) (.slice a1 il.length c1) (.slice a2 cl.length c2) (.slice a3 pl.length c3) (.slice a4 ml.length c4))
    have HV2 := hid (HV.out.put (b := w.heap.size) (by omega) (.int .i64 kd) (.slice a1 il.length c1) (.slice a2 cl.length c2) (.slice a3 pl.length c3) (.slice a4 ml.length c4))
    have hc2 : (put5 w1 w.heap.size (.int .i64 kd) (.slice a1 il.length c1) (.slice a2 cl.length c2) (.slice a3 pl.length c3) (.slice a4 ml.length c4)).cell? ⟨w.heap.size + 1, 0, none⟩ = some (.int .i64 0) := by
      unfold put5
      rw [← hce]
      unfold World.cell?
      rw [Below.heap_setCell _ _ _ _ (by simp), Below.heap_setCell _ _ _ _ (by simp), Below.heap_setCell _ _ _ _ (by simp), Below.heap_setCell _ _ _ _ (by simp), Below.heap_setCell _ _ _ _ (by simp)]
    go_wp2_with fail
    obtain ⟨w2, hw2⟩ : ∃ w2, w2 = put5 w1 w.heap.size (.int .i64 kd) (.slice a1 il.length c1) (.slice a2 cl.length c2) (.slice a3 pl.length c3) (.slice a4 ml.length c4) := ⟨_, rfl⟩
    rw [← hw2] at HB2 HN2 HV2 hc2
    unfold put5 at hw2
    rw [← hw2]
    clear hw2
    refine leaves_cons (f := 41) (args := #[.pointer (some ⟨w.heap.size + 1, 0, none⟩)]) (by simp) (by simp [go_sem]) ?_
    refine (catchN_idle ⟨w.heap.size + 1, 0, none⟩ _).mono ?_
    rintro e u' w'' ⟨rfl, rfl, rfl⟩
    have hx : (w2.setCell ⟨w.heap.size + 1, 0, none⟩ (.int .i64 0)).cell? ⟨w.heap.size + 1, 0, none⟩ = some (.int .i64 0) := World.cell?_setCell_same _ _ _ hc2
    have HBF := hid (HB2.out.setCell (p := ⟨w.heap.size + 1, 0, none⟩) (by simp) (.int .i64 0))
    have HNF := hid (HN2.out.but (but_set (w.heap.size + 1) 0 w2 (.int .i64 0)) (by omega))
    have HVF := hid ((HV2.out.set (b := w.heap.size + 1) (i := 0) (by omega) (.int .i64 0)).shrink (C := w.heap.size) (by omega))
    obtain ⟨q0, q1, q2, q3, q4⟩ := nodeB_result HNF.out
    simp [Leaves, settle, results, Try.results26, go_sem, hx, q0, q1, q2, q3, q4]
    exact ⟨HBF.out, .inr ⟨kd, il, cl, pl, ml, _, HF.out, rfl, HVF.out⟩⟩

set_option maxHeartbeats 1000000 in
theorem siltRead_any (t : List UInt8) (w : World) :
    Calls Try.prog 12 #[.string ⟨t.toArray⟩] w fun r w' => ReadQ w (Pr.readR t) r w' := by
  have hmf : ∀ (fn : Fn) (first cap : Array Value) (w : World), (Instr.makeFunc fn first cap).run Try.prog w = .ok (.func fn first cap) w := fun _ _ _ _ => rfl
  have HC := hid (readCatch_any w.heap.size t ((w.alloc (.cells #[.string ⟨t.toArray⟩] 9)).alloc (.cells #[.int .i64 0, .slice none 0 0, .slice none 0 0, .slice none 0 0, .slice none 0 0] 34)) (by rw [World.cell?_alloc_past _ _ _ (by simp)]; exact World.cell?_alloc_at _ _ _ 0 (by simp)) (by simp; omega))
  have BA := (Below.refl w.heap.size w).alloc (Nat.le_refl _) (.cells #[.string ⟨t.toArray⟩] 9)
  have HB0 := hid (BA.alloc (by simp) (.cells #[.int .i64 0, .slice none 0 0, .slice none 0 0, .slice none 0 0, .slice none 0 0] 34))
  have HN0 : Hid (NodeB ((w.alloc (.cells #[.string ⟨t.toArray⟩] 9)).alloc (.cells #[.int .i64 0, .slice none 0 0, .slice none 0 0, .slice none 0 0, .slice none 0 0] 34)) (w.heap.size + 1) (.int .i64 0) (.slice none 0 0) (.slice none 0 0) (.slice none 0 0) (.slice none 0 0)) := by
    have := nodeB_new (w.alloc (.cells #[.string ⟨t.toArray⟩] 9)) (.int .i64 0) (.slice none 0 0) (.slice none 0 0) (.slice none 0 0) (.slice none 0 0)
    rw [show (w.alloc (.cells #[.string ⟨t.toArray⟩] 9)).heap.size = w.heap.size + 1 by simp] at this
    exact this
  have hs0 : w.heap.size + 2 ≤ ((w.alloc (.cells #[.string ⟨t.toArray⟩] 9)).alloc (.cells #[.int .i64 0, .slice none 0 0, .slice none 0 0, .slice none 0 0, .slice none 0 0] 34)).heap.size := by simp
  clear BA
  go_enter Try.func12, Try.ntmps12
  go_wp2_with fail
  generalize (w.alloc (.cells #[.string ⟨t.toArray⟩] 9)).alloc (.cells #[.int .i64 0, .slice none 0 0, .slice none 0 0, .slice none 0 0, .slice none 0 0] 34) = w0 at *
  refine HC.out.mono ?_
  rintro r w1 ⟨hb1, hcase⟩
  have HB1 := hid (HB0.out.trans (hb1.mono (by omega)))
  have HN1 := hid (HN0.out.keep hb1)
  have HCS := hid hcase
  obtain ⟨r0, r1, r2, r3, r4, y0, y1, y2, y3, y4⟩ := HN1.out.cells
  clear hb1 hcase HC
  rcases HCS.out with ⟨hn, rfl⟩ | ⟨kd, il, cl, pl, ml, v, hs, rfl, hv⟩
  · have HF := hid hn
    have HBF := hid (below_put HB1.out (b := w.heap.size + 1) (by omega) (.int .i64 0) (.slice none 0 0) (.slice none 0 0) (.slice none 0 0) (.slice none 0 0))
    have HNF := hid (HN1.out.put (.int .i64 0) (.slice none 0 0) (.slice none 0 0) (.slice none 0 0) (.slice none 0 0))
    clear hn HCS
    go_wp2_with fail
    refine bodyPost_ret (v := .tuple #[.agg #[.int .i64 0, .slice none 0 0, .slice none 0 0, .slice none 0 0, .slice none 0 0], .int .i64 2]) ?_ rfl ⟨HBF.out, .inl ⟨HF.out, rfl⟩⟩
    obtain ⟨q0, q1, q2, q3, q4⟩ := nodeB_result HNF.out
    unfold put5 at q0 q1 q2 q3 q4
    simp [results, Try.results12, go_sem, q0, q1, q2, q3, q4]
  · have HF := hid hs
    obtain ⟨a1, c1, a2, c2, a3, c3, a4, c4, rfl⟩ := hv.shape
    have HBF := hid (below_put HB1.out (b := w.heap.size + 1) (by omega) (.int .i64 kd) (.slice a1 il.length c1) (.slice a2 cl.length c2) (.slice a3 pl.length c3) (.slice a4 ml.length c4))
    have HNF := hid (HN1.out.put (.int .i64 kd) (.slice a1 il.length c1) (.slice a2 cl.length c2) (.slice a3 pl.length c3) (.slice a4 ml.length c4))
    have HVF := hid ((hv.put (b := w.heap.size + 1) (by omega) (.int .i64 kd) (.slice a1 il.length c1) (.slice a2 cl.length c2) (.slice a3 pl.length c3) (.slice a4 ml.length c4)).shrink (C := w.heap.size) (by omega))
    clear hs hv HCS
    go_wp2_with fail
    refine bodyPost_ret (v := .tuple #[.agg #[.int .i64 kd, .slice a1 il.length c1, .slice a2 cl.length c2, .slice a3 pl.length c3, .slice a4 ml.length c4], .int .i64 0]) ?_ rfl ⟨HBF.out, .inr ⟨kd, il, cl, pl, ml, _, HF.out, rfl, HVF.out⟩⟩
    obtain ⟨q0, q1, q2, q3, q4⟩ := nodeB_result HNF.out
    unfold put5 at q0 q1 q2 q3 q4
    simp [results, Try.results12, go_sem, q0, q1, q2, q3, q4]
end Go.Proofs.Ytolgpnaoaodepaa
