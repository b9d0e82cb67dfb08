/- The walks of pages' childrenContent and changesContent. -/
import Derived.Test.YtolgpnaoaodepaaGreatWalkPm
namespace Go.Proofs.YtolgpnaoaodepaaGreat
open Go.RowKit

/-- append(v, b), b a byte that lies in a block of its own, as a step of a region that draws. -/
theorem stepAp1 (w : World) {ops : Array Oper} {o : Oper} {a : Act} {K : Act → World → Prop} {Q : Exit → Act → World → Prop} {E : Prop} (hgd : o.guard = none) (sl x : Operand)
    (ho : o.op = Op.call { callee := Callee.builtin Builtin.append, args := #[sl, x], argTypes := #[108, 108] }) (B : Nat) (v : Value) (l : List UInt8) (hs : a.eval sl = v) (hown : Owns B w v l)
    (b : UInt8) (g : Nat) (hx : a.eval x = .slice (some ⟨g, 0, none⟩) 1 1) (hcell : w.cell? ⟨g, 0, none⟩ = some (.int .u8 (b.toNat : Int))) (hb : l.length + 1 ≤ 1000000000) (hB : B ≤ w.heap.size)
    (h : ∀ (v' : Value) (w' : World), Owns B w' v' (l ++ [b]) → Grew w w' v v' → K (a.put o.dst v') w') : if Region.wanted o (yielded ops a.tmps) = true then Oper.wp Tryz.prog o a w K Q else E := by
  have hw : Region.wanted o (yielded ops a.tmps) = true := by simp [Region.wanted, hgd]
  rw [if_pos hw]
  obtain ⟨i, hi, hz0, hz1, hz2⟩ := info_parts info_u8
  obtain ⟨v', w', hrun, ho', hg, _, hat⟩ := run_append_own_at (P := Tryz.prog) w B 108 o.type 5 i (.int .u8 0) 1 1 Tryz.underlying108 hi hz0 hz1 hz2 rfl (by decide) v l.length (Lib.byteCells l) hown ⟨g, 0, none⟩ 1 1 (Lib.byteCells [b]) rfl (fun j u hj => by
    match j, hj with
    | 0, hj => simp [Lib.byteCells] at hj; subst hj; simpa [Addr.add] using hcell) (byteCells_one [b]) (by unfold maxLen; omega) (by omega) hB
  have hK : K (a.put o.dst v') w' := by
    refine h v' w' ?_ ⟨hg, hat.imp_right fun e => ⟨w.heap.size, Nat.le_refl _, e⟩⟩
    unfold Owns
    rw [List.length_append, Lib.byteCells_append]
    exact ho'
  unfold Oper.wp
  simp [execOp, ho, resolve, invoke, builtin, hs, hx, hrun, Result.andThen]
  exact hK

set_option maxHeartbeats 1000000 in
set_option maxRecDepth 100000 in
theorem children_any (v2 v3 : Value) (cl : List Nat) (pl : List ByteArray) (w : World) (h2 : IsRow w v2 cl.length (ncells cl)) (h3 : IsRow w v3 pl.length (pl.map .string)) (hc : cl.length ≤ 1000) (hp : pl.length ≤ 1000) (hcs : ∀ c ∈ cl, c ≤ 9223372036854775807) (hps : ∀ p ∈ pl, p.size ≤ 100000) :
    Calls Tryz.prog 181 #[v2, v3] w fun r w' => ∃ v', r = .returned v' ∧ Owns w.heap.size w' v' (Pg.pivotsC cl (lists pl)) ∧ Below w.heap.size w w' := by
  obtain ⟨a2, p2, rfl, -, hr2⟩ := h2
  obtain ⟨a3, p3, rfl, -, hr3⟩ := h3
  have H2 := hid hr2
  have H3 := hid hr3
  have HCS := hid hcs
  have HPS := hid hps
  clear hr2 hr3 hcs hps
  go_enter Tryz.func181, Tryz.ntmps181
  go_wp2_with fail
  go_loopw [5, 12] (fun u i wr => ∃ (k : Nat) (o : List UInt8), k ≤ cl.length ∧ i = .int .i64 k ∧ Owns w.heap.size wr u o ∧ Below w.heap.size w wr ∧ o.length ≤ 10 * k ∧ o ++ (cl.drop k).flatMap Pg.num = cl.flatMap Pg.num) (fun _ i _ => cl.length - (intOf i).toNat)
  case atStart => exact ⟨0, [], Nat.zero_le _, rfl, Owns.nil _ _, Below.refl _ _, by simp, rfl⟩
  case round =>
    obtain ⟨k, o, hk, rfl, ho, hb, hol, heq⟩ := hrel
    have HO := hid ho
    have HB := hid hb
    have HEQ := hid heq
    have hsz := hb.size
    clear ho hb heq
    by_cases hkl : k < cl.length
    · obtain ⟨b, off, hve, hbw, hcs⟩ := H2.out.resolve_left (by omega)
      subst hve
      have c0 := rowAtN (pl := cl) hcs HB.out hbw k hkl
      clear hcs
      have hcn := HCS.out _ (List.getElem_mem hkl)
      rw [List.drop_eq_getElem_cons hkl, List.flatMap_cons] at HEQ
      generalize cl[k]'hkl = c at *
      have hnl := num_short c hcn
      go_wp2_with fail
      refine (apNum_any w.heap.size u5 o c _ HO.out hsz (by omega) hcn).mono ?_
      rintro r w1 ⟨v1, rfl, ho1, hg1⟩
      have HO1 := hid ho1
      have HB1 := hid (HB.out.trans (hg1.below HO.out hsz))
      clear ho1 hg1
      go_wp2_with fail
      go_roundw
      case rel => exact ⟨k + 1, _, by omega, by go_num, HO1.out, HB1.out, by rw [List.length_append]; omega, by rw [← HEQ.out, List.append_assoc]⟩
      case measure => simp [intOf]; omega
    · have HE1 : Hid (o = cl.flatMap Pg.num) := by
        show _ = _; rw [← HEQ.out, List.drop_eq_nil_of_le (by omega)]; simp
      go_wp2_with fail
      go_loopw [5, 22] (fun u i wi => ∃ (j : Nat) (q : List UInt8), j ≤ pl.length ∧ i = .int .i64 j ∧ Owns w.heap.size wi u q ∧ Below w.heap.size w wi ∧ q.length ≤ 10000 + 200000 * j ∧ q ++ (lists (pl.drop j)).flatMap Pg.text = Pg.pivotsC cl (lists pl)) (fun _ i _ => pl.length - (intOf i).toNat)
      case atStart => exact ⟨0, o, Nat.zero_le _, rfl, HO.out, HB.out, by omega, by rw [HE1.out]; rfl⟩
      case round =>
        clear HO HB HEQ hsz HE1 hkl hol hk
        obtain ⟨j, q, hj, rfl, ho, hb, hql, heq⟩ := hrel
        have HO := hid ho
        have HB := hid hb
        have HEQ := hid heq
        have hsz := hb.size
        clear ho hb heq
        by_cases hjl : j < pl.length
        · obtain ⟨b, off, hve, hbw, hcs⟩ := H3.out.resolve_left (by omega)
          subst hve
          have c0 := rowAt (pl := pl) hcs HB.out hbw j hjl
          clear hcs
          have hps := HPS.out _ (List.getElem_mem hjl)
          have HNX : Hid (lists (pl.drop j) = (pl[j]'hjl).data.toList :: lists (pl.drop (j + 1))) := by
            show _ = _; rw [List.drop_eq_getElem_cons hjl]; rfl
          generalize pl[j]'hjl = p at *
          rw [HNX.out, List.flatMap_cons] at HEQ
          have htl := text_len p.data.toList (by rw [len_size]; omega)
          rw [len_size] at htl
          go_wp2_with fail
          refine (apText_any w.heap.size u5 q p _ HO.out hsz (by omega) (by omega)).mono ?_
          rintro r w1 ⟨v1, rfl, ho1, hg1⟩
          have HO1 := hid ho1
          have HB1 := hid (HB.out.trans (hg1.below HO.out hsz))
          clear ho1 hg1
          go_wp2_with fail
          go_roundw
          case rel => exact ⟨j + 1, _, by omega, by go_num, HO1.out, HB1.out, by rw [List.length_append]; omega, by rw [← HEQ.out, List.append_assoc]⟩
          case measure => simp [intOf]; omega
        · have HE2 : Hid (q = Pg.pivotsC cl (lists pl)) := by
            show _ = _; rw [← HEQ.out, List.drop_eq_nil_of_le (by omega)]; simp [lists]
          go_wp2_with fail
          go_ret
          exact ⟨_, rfl, by rw [← HE2.out]; exact HO.out, HB.out⟩

set_option maxHeartbeats 1000000 in
set_option maxRecDepth 100000 in
theorem changesC_any (v : Value) (l : List (Int × ByteArray × ByteArray)) (w : World) (hv : IsChs w v l) (hl : l.length ≤ 1000) (hks : ∀ c ∈ l, 0 ≤ c.1 ∧ c.1 ≤ 255 ∧ c.2.1.size ≤ 10000 ∧ c.2.2.size ≤ 10000) :
    Calls Tryz.prog 182 #[v] w fun r w' => ∃ v', r = .returned v' ∧ Owns w.heap.size w' v' (Pg.changes (plainCh l)) ∧ Below w.heap.size w w' := by
  obtain ⟨va, vc, rfl, -, hrow⟩ := hv
  have HV := hid hrow
  have HKS := hid hks
  clear hrow hks
  obtain ⟨bt, hbt, hbl⟩ := low1 l.length
  have HBT := hid hbt
  have HST : Hid ([bt] ++ (plainCh l).flatMap Pg.change1 = Pg.changes (plainCh l)) := by show _ = _; unfold Pg.changes; rw [show (plainCh l).length = l.length by simp [plainCh], hbl]
  clear hbt hbl
  go_enter Tryz.func182, Tryz.ntmps182
  go_wp2_with fail
  have HLIT := hid (owns_lit w w.heap.size (Nat.le_refl _) [bt] #[.int .u8 ((l.length : Int) % 256)] (by simp [Lib.byteCells]; rw [HBT.out]; omega) (by simp))
  have HBL := hid ((Below.refl w.heap.size w).alloc (Nat.le_refl _) (.cells #[.int .u8 ((l.length : Int) % 256)] 5))
  go_loopw [3, 12] (fun u i wr => ∃ (k : Nat) (o : List UInt8), k ≤ l.length ∧ i = .int .i64 k ∧ Owns w.heap.size wr u o ∧ Below w.heap.size w wr ∧ o.length ≤ 1 + 30000 * k ∧ o ++ (plainCh (l.drop k)).flatMap Pg.change1 = Pg.changes (plainCh l)) (fun _ i _ => l.length - (intOf i).toNat)
  case atStart => exact ⟨0, [bt], Nat.zero_le _, rfl, HLIT.out, HBL.out, by simp, HST.out⟩
  case round =>
    clear HLIT HBL
    obtain ⟨k, o, hk, rfl, ho, hb, hol, heq⟩ := hrel
    have HO := hid ho
    have HB := hid hb
    have HEQ := hid heq
    have hsz := hb.size
    clear ho hb heq
    by_cases hkl : k < l.length
    · obtain ⟨b, off, hve, hbw, hcs⟩ := HV.out.resolve_left (by omega)
      subst hve
      obtain ⟨c0, c1, c2⟩ := hcs.below HB.out hbw k hkl
      clear hcs
      have hcn := HKS.out _ (List.getElem_mem hkl)
      have HNX : Hid (plainCh (l.drop k) = ((l[k]'hkl).1, (l[k]'hkl).2.1.data.toList, (l[k]'hkl).2.2.data.toList) :: plainCh (l.drop (k + 1))) := by
        show _ = _; rw [List.drop_eq_getElem_cons hkl]; rfl
      generalize l[k]'hkl = x at *
      obtain ⟨ck, kb, vb⟩ := x
      simp only at c0 c1 c2 hcn
      obtain ⟨cn, rfl⟩ : ∃ n : Nat, ck = (n : Int) := ⟨ck.toNat, by omega⟩
      obtain ⟨bc, hbc, hbcl⟩ := low1 cn
      have HCH : Hid (Pg.change1 ((cn : Int), kb.data.toList, vb.data.toList) = [bc] ++ Pg.text kb.data.toList ++ (if (cn : Int) = 2 then [] else Pg.text vb.data.toList)) := by
        show _ = _; unfold Pg.change1; simp only [Int.toNat_natCast]; rw [hbcl]
      have HBC : Hid ((bc.toNat : Int) = IntKind.u8.wrap (cn : Int)) := by show _ = _; rw [show IntKind.u8.wrap (cn : Int) = (cn : Int) % 256 from rfl]; omega
      rw [HNX.out, List.flatMap_cons, HCH.out] at HEQ
      clear hbc hbcl
      have D0 := hid (show (wr.alloc (.cells #[.int .i64 (cn : Int), .string kb, .string vb] 34)).cell? ⟨wr.heap.size, 0, none⟩ = some (.int .i64 (cn : Int)) by simp)
      have D1 := hid (show (wr.alloc (.cells #[.int .i64 (cn : Int), .string kb, .string vb] 34)).cell? ⟨wr.heap.size, 1, none⟩ = some (.string kb) by simp)
      have D2 := hid (show (wr.alloc (.cells #[.int .i64 (cn : Int), .string kb, .string vb] 34)).cell? ⟨wr.heap.size, 2, none⟩ = some (.string vb) by simp)
      have HB2 := hid (HB.out.alloc hsz (.cells #[.int .i64 (cn : Int), .string kb, .string vb] 34))
      have HO2 := hid (HO.out.alloc (.cells #[.int .i64 (cn : Int), .string kb, .string vb] 34))
      have HN2 := hid (own_lt HO.out (Nat.le_refl wr.heap.size))
      have hs2 : wr.heap.size < (wr.alloc (.cells #[.int .i64 (cn : Int), .string kb, .string vb] 34)).heap.size := by simp
      go_wp2_with fail
      generalize wr.alloc (.cells #[.int .i64 (cn : Int), .string kb, .string vb] 34) = w2 at *
      generalize wr.heap.size = xb at *
      clear c0 c1 c2
      have d0 := D0.out
      have d1 := D1.out
      have d2 := D2.out
      have HW3 : Hid (Owns w.heap.size ((w2.alloc (.cells #[.int .u8 (IntKind.u8.wrap (cn : Int))] 5)).drew) u3 o) := ((HO2.out.alloc _).drew)
      have HC3 : Hid (((w2.alloc (.cells #[.int .u8 (IntKind.u8.wrap (cn : Int))] 5)).drew).cell? ⟨w2.heap.size, 0, none⟩ = some (.int .u8 (bc.toNat : Int))) := by
        show _ = _; rw [HBC.out]; simp
      have HB3 := hid ((HB2.out.alloc (by omega) (.cells #[.int .u8 (IntKind.u8.wrap (cn : Int))] 5)).drew)
      have e0 : ((w2.alloc (.cells #[.int .u8 (IntKind.u8.wrap (cn : Int))] 5)).drew).cell? ⟨xb, 0, none⟩ = some (.int .i64 (cn : Int)) := by
        show (w2.alloc _).cell? _ = _; rw [World.cell?_alloc_past _ _ _ (by show xb < _; omega)]; exact d0
      have e1 : ((w2.alloc (.cells #[.int .u8 (IntKind.u8.wrap (cn : Int))] 5)).drew).cell? ⟨xb, 1, none⟩ = some (.string kb) := by
        show (w2.alloc _).cell? _ = _; rw [World.cell?_alloc_past _ _ _ (by show xb < _; omega)]; exact d1
      have e2 : ((w2.alloc (.cells #[.int .u8 (IntKind.u8.wrap (cn : Int))] 5)).drew).cell? ⟨xb, 2, none⟩ = some (.string vb) := by
        show (w2.alloc _).cell? _ = _; rw [World.cell?_alloc_past _ _ _ (by show xb < _; omega)]; exact d2
      have hs3 : w2.heap.size < ((w2.alloc (.cells #[.int .u8 (IntKind.u8.wrap (cn : Int))] 5)).drew).heap.size := by simp
      go_region_law (first
        | (refine stepAp1 _ (by rfl) (.tmp 16) (.tmp 20) (by rfl) w.heap.size u3 o (by simp [Act.eval]) HW3.out bc w2.heap.size (by simp [Act.eval]) HC3.out (by omega) (by omega) ?_
           intro v4 w4 ho4 hg4
           have HO4 := hid ho4
           have HB4 := hid (HB3.out.trans (hg4.below HW3.out (by omega)))
           have f0 := hg4.cell e0 HN2.out
           have f1 := hg4.cell e1 HN2.out
           have f2 := hg4.cell e2 HN2.out
           have HN4 := hid (hg4.ne (by omega) HN2.out)
           have hs4 := hg4.size
           clear ho4 hg4)
        | (go_simp
           refine (apText_any w.heap.size v4 _ kb _ HO4.out (by omega) (by simp; omega) (by omega)).mono ?_
           rintro r w5 ⟨v5, rfl, ho5, hg5⟩
           have HO5 := hid ho5
           have HB5 := hid (HB4.out.trans (hg5.below HO4.out (by omega)))
           have k0 := hg5.cell f0 HN4.out
           have k2 := hg5.cell f2 HN4.out
           have hs5 := hg5.size
           clear ho5 hg5))
      all_goals
        have htk := text_len kb.data.toList (by rw [len_size]; omega)
        rw [len_size] at htk
        have htv := text_len vb.data.toList (by rw [len_size]; omega)
        rw [len_size] at htv
        by_cases hc2 : cn = 2
        · have hne : ((cn : Int) == 2) = true := by simp; omega
          have HG : Hid (o ++ [bc] ++ Pg.text kb.data.toList ++ (plainCh (l.drop (k + 1))).flatMap Pg.change1 = Pg.changes (plainCh l)) := by
            show _ = _; rw [← HEQ.out, if_pos (by omega)]; simp
          clear hc2
          go_wp2_with fail
          go_roundw
          case rel => exact ⟨k + 1, _, by omega, by go_num, HO5.out, HB5.out, by simp only [List.length_append, List.length_singleton]; omega, HG.out⟩
          case measure => simp [intOf]; omega
        · have hne : ((cn : Int) == 2) = false := by simp; omega
          have HG : Hid (o ++ [bc] ++ Pg.text kb.data.toList ++ Pg.text vb.data.toList ++ (plainCh (l.drop (k + 1))).flatMap Pg.change1 = Pg.changes (plainCh l)) := by
            show _ = _; rw [← HEQ.out, if_neg (by omega)]; simp
          clear hc2
          go_wp2_with fail
          refine (apText_any w.heap.size v5 _ vb _ HO5.out (by omega) (by simp only [List.length_append, List.length_singleton]; omega) (by omega)).mono ?_
          rintro r w6 ⟨v6, rfl, ho6, hg6⟩
          have HO6 := hid ho6
          have HB6 := hid (HB5.out.trans (hg6.below HO5.out (by omega)))
          clear ho6 hg6
          go_wp2_with fail
          go_roundw
          case rel => exact ⟨k + 1, _, by omega, by go_num, HO6.out, HB6.out, by simp only [List.length_append, List.length_singleton]; omega, HG.out⟩
          case measure => simp [intOf]; omega
    · have HE1 : Hid (o = Pg.changes (plainCh l)) := by
        show _ = _; rw [← HEQ.out, List.drop_eq_nil_of_le (by omega)]; simp [plainCh]
      go_wp2_with fail
      go_ret
      exact ⟨_, rfl, by rw [← HE1.out]; exact HO.out, HB.out⟩
end Go.Proofs.YtolgpnaoaodepaaGreat
/- The walks of pages' writeBranch and Write, and of silt's Write. -/
namespace Go.Proofs.YtolgpnaoaodepaaGreat
open Go.RowKit

theorem flat_len {α : Type} (f : α → List UInt8) (n : Nat) : ∀ (l : List α), (∀ x ∈ l, (f x).length ≤ n) → (l.flatMap f).length ≤ n * l.length
  | [], _ => by simp
  | x :: r, h => by
    rw [List.flatMap_cons, List.length_append, List.length_cons, Nat.mul_add]
    have h1 := h x (by simp)
    have h2 := flat_len f n r (fun y hy => h y (by simp [hy]))
    omega
theorem pivotsC_len (cl : List Nat) (pl : List (List UInt8)) (h1 : cl.length ≤ 4) (h2 : pl.length ≤ 4) (hc : ∀ c ∈ cl, c ≤ 2147483647) (hp : ∀ p ∈ pl, p.length ≤ 12) : (Pg.pivotsC cl pl).length ≤ 400 := by
  unfold Pg.pivotsC
  rw [List.length_append]
  have a := flat_len Pg.num 10 cl (fun c hcm => num_short c (by have := hc c hcm; omega))
  have b := flat_len Pg.text 30 pl (fun p hpm => by have := text_len p (by have := hp p hpm; omega); have := hp p hpm; omega)
  omega

set_option maxHeartbeats 2000000 in
set_option maxRecDepth 100000 in
theorem writeBranch_any (kd : Int) (v1 v2 v3 v4 : Value) (cl : List Nat) (pl : List ByteArray) (ml : List (Int × ByteArray × ByteArray)) (w : World) (h1 : ∃ a n c, v1 = .slice a n c) (h2 : IsRow w v2 cl.length (ncells cl)) (h3 : IsRow w v3 pl.length (pl.map .string)) (h4 : IsChs w v4 ml)
    (hc4 : cl.length ≤ 4) (hcc : ∀ c ∈ cl, c ≤ 2147483647) (hp4 : pl.length ≤ 4) (hps : ∀ p ∈ pl, p.size ≤ 12) (hm8 : ml.length ≤ 8) (hms : ∀ c ∈ ml, (0 ≤ c.1 ∧ c.1 ≤ 255) ∧ c.2.1.size ≤ 12 ∧ c.2.2.size ≤ 16) :
    Calls Tryz.prog 130 #[.agg #[.int .i64 kd, v1, v2, v3, v4]] w fun r w' => r = .returned (.string ⟨(Pg.branch cl (lists pl) (plainCh ml)).toArray⟩) ∧ Below w.heap.size w w' := by
  obtain ⟨a1, n1, p1, rfl⟩ := h1
  obtain ⟨a2, p2, rfl, -, -⟩ := id h2
  obtain ⟨a3, p3, rfl, -, -⟩ := id h3
  obtain ⟨a4, p4, rfl, -, -⟩ := id h4
  have BA := (Below.refl w.heap.size w).alloc (Nat.le_refl _) (.cells #[.int .i64 kd, .slice a1 n1 p1, .slice a2 cl.length p2, .slice a3 pl.length p3, .slice a4 ml.length p4] 79)
  have HB0 := hid BA
  have H2 := hid (h2.below BA)
  have H3 := hid (h3.below BA)
  have H4 := hid (h4.below BA)
  have HN : Hid ((w.alloc (.cells #[.int .i64 kd, .slice a1 n1 p1, .slice a2 cl.length p2, .slice a3 pl.length p3, .slice a4 ml.length p4] 79)).heap[w.heap.size]? = some (.cells #[.int .i64 kd, .slice a1 n1 p1, .slice a2 cl.length p2, .slice a3 pl.length p3, .slice a4 ml.length p4] 79 (0, 0))) := heap_alloc_new _ _
  have hws : w.heap.size < (w.alloc (.cells #[.int .i64 kd, .slice a1 n1 p1, .slice a2 cl.length p2, .slice a3 pl.length p3, .slice a4 ml.length p4] 79)).heap.size := by simp
  have hpl := pivotsC_len cl (lists pl) hc4 (by simp [lists]; exact hp4) hcc (by intro p hp; simp only [lists, List.mem_map] at hp; obtain ⟨f, hf, rfl⟩ := hp; rw [len_size]; exact hps f hf)
  have hcl := changesLen (plainCh ml) (plainCh_sz (fun x hx => ⟨⟨(hms x hx).1.1, by have := (hms x hx).1.2; omega⟩, (hms x hx).2⟩))
  have hcl2 : (plainCh ml).length = ml.length := by simp [plainCh]
  rw [hcl2] at hcl
  have hs1 := Pg.section_len [112] (Pg.pivotsC cl (lists pl)) (by omega)
  have hs2 := Pg.section_len [109] (Pg.changes (plainCh ml)) (by omega)
  have HMS := hid hms
  have HPS := hid hps
  have HCC := hid hcc
  obtain ⟨bt, hbt, hbl⟩ := low1 cl.length
  have HBT := hid hbt
  have HBR : Hid (Pg.branch cl (lists pl) (plainCh ml) = Pg.sealed ([83, 50, 73, bt] ++ Pg.low (Pg.branchP cl (lists pl)).length 2 ++ Pg.low (Pg.branchM (plainCh ml)).length 2 ++ List.replicate 56 0) ++ Pg.branchP cl (lists pl) ++ Pg.branchM (plainCh ml)) := by
    show _ = _; unfold Pg.branch; rw [hbl]; rfl
  have HP : Hid (Pg.section_ [112] (Pg.pivotsC cl (lists pl)) = Pg.branchP cl (lists pl)) := rfl
  have HM : Hid (Pg.section_ [109] (Pg.changes (plainCh ml)) = Pg.branchM (plainCh ml)) := rfl
  have hpl2 : (Pg.branchP cl (lists pl)).length ≤ 500 := by rw [← HP.out]; simp at hs1; omega
  have hml2 : (Pg.branchM (plainCh ml)).length ≤ 600 := by rw [← HM.out]; simp at hs2; omega
  clear BA h2 h3 h4 hms hps hcc hbt hbl hs1 hs2 hcl2
  go_enter Tryz.func130, Tryz.ntmps130
  go_wp2_with fail
  generalize w.alloc (.cells #[.int .i64 kd, .slice a1 n1 p1, .slice a2 cl.length p2, .slice a3 pl.length p3, .slice a4 ml.length p4] 79) = w0 at *
  refine (children_any _ _ cl pl _ H2.out H3.out (by omega) (by omega) (fun c hc => by have := HCC.out c hc; omega) (fun p hp => by have := HPS.out p hp; omega)).mono ?_
  rintro r w1 ⟨u1, rfl, ho1, hb1⟩
  have HO1 := hid ho1
  have H4' := hid (H4.out.below hb1)
  have HN1 := hid ((hb1.block w.heap.size (by omega)).trans HN.out)
  have HB1 := hid (HB0.out.trans (hb1.mono (by omega)))
  have hz1 := hb1.size
  clear ho1 hb1 H2 H3 H4 HN
  go_wp2_with fail
  refine (writeSec_any w0.heap.size 112 u1 _ _ HO1.out (by omega)).mono ?_
  rintro r w2 ⟨rfl, hb2⟩
  have H4'' := hid (H4'.out.below hb2)
  have HN2 := hid ((hb2.block w.heap.size (by omega)).trans HN1.out)
  have HB2 := hid (HB1.out.trans (hb2.mono (by omega)))
  have hz2 := hb2.size
  obtain ⟨m0, m1, m2, m3, m4⟩ := node_cells HN2.out
  rw [HP.out]
  clear hb2 H4' HN1
  go_wp2_with fail
  refine (changesC_any _ ml _ H4''.out (by omega) (fun c hc => by have := HMS.out c hc; omega)).mono ?_
  rintro r w3 ⟨u3, rfl, ho3, hb3⟩
  have HO3 := hid ho3
  have HN3 := hid ((hb3.block w.heap.size (by omega)).trans HN2.out)
  have HB3 := hid (HB2.out.trans (hb3.mono (by omega)))
  have hz3 := hb3.size
  clear ho3 hb3 HN2 m0 m1 m2 m3 m4
  go_wp2_with fail
  refine (writeSec_any w2.heap.size 109 u3 _ _ HO3.out (by omega)).mono ?_
  rintro r w4 ⟨rfl, hb4⟩
  have HN4 := hid ((hb4.block w.heap.size (by omega)).trans HN3.out)
  have HB4 := hid (HB3.out.trans (hb4.mono (by omega)))
  have hz4 := hb4.size
  rw [HM.out]
  clear hb4 HN3
  obtain ⟨m0, m1, m2, m3, m4⟩ := node_cells HN4.out
  generalize Pg.branchP cl (lists pl) = ps at *
  generalize Pg.branchM (plainCh ml) = ms at *
  have hzp := size_mk ps
  have hzm := size_mk ms
  have hcv := Joins.run_convert_bytes_const_at (P := Tryz.prog) w4 108 5 #[.int .u8 83, .int .u8 50, .int .u8 73] 3 3 w4.heap.size rfl Tryz.underlying108 Tryz.underlying5
  have k2 : (w4.alloc (.cells #[.int .u8 83, .int .u8 50, .int .u8 73] 5 (3, 4))).cell? ⟨w.heap.size, 2, none⟩ = some (.slice a2 cl.length p2) := by
    rw [World.cell?_alloc_past _ _ _ (by show w.heap.size < _; omega)]; exact m2
  go_wp2_with (first
    | (at_builtin; refine wpApL w4 rfl (.tmp 17) (.tmp 22) rfl 83 50 73 _ _ _ _ rfl rfl rfl bt ?_ w4.heap.size (w4.heap.size + 1) rfl rfl rfl rfl w.heap.size (by omega) ?_))
  · rw [HBT.out]; omega
  intro v5 w5 ho5 hb5 k5 hk5 e5 hs5
  have HO5 := hid ho5
  have HB5 := hid (HB4.out.trans (hb5.mono (by omega)))
  clear ho5 hb5 hk5 e5 hcv m0 m1 m2 m3 m4 k2
  go_wp2_with fail
  refine (apShort_any w.heap.size v5 _ ps.length _ HO5.out (by omega) (by simp)).mono ?_
  rintro r w6 ⟨v6, rfl, ho6, hg6⟩
  have HO6 := hid ho6
  have HB6 := hid (HB5.out.trans (hg6.below HO5.out (by omega)))
  have hz6 := hg6.size
  have hl1 := Pg.low_len 2 ps.length
  clear ho6 hg6
  go_wp2_with fail
  refine (apShort_any w.heap.size v6 _ ms.length _ HO6.out (by omega) (by simp [hl1])).mono ?_
  rintro r w7 ⟨v7, rfl, ho7, hg7⟩
  have HO7 := hid ho7
  have HB7 := hid (HB6.out.trans (hg7.below HO6.out (by omega)))
  have hz7 := hg7.size
  have hl2 := Pg.low_len 2 ms.length
  clear ho7 hg7
  go_wp2_with fail
  refine (sealHead_any w.heap.size v7 _ _ HO7.out (by omega) (by simp) (by simp [hl1, hl2])).mono ?_
  rintro r w8 ⟨v8, rfl, ho8, hg8⟩
  have HLH : Hid (Pg.sealed ([83, 50, 73, bt] ++ Pg.low ps.length 2 ++ Pg.low ms.length 2 ++ List.replicate (64 - ([83, 50, 73, bt] ++ Pg.low ps.length 2 ++ Pg.low ms.length 2).length) 0) = Pg.sealed ([83, 50, 73, bt] ++ Pg.low ps.length 2 ++ Pg.low ms.length 2 ++ List.replicate 56 0)) := by
    show _ = _; rw [show ([83, 50, 73, bt] ++ Pg.low ps.length 2 ++ Pg.low ms.length 2).length = 8 by simp [hl1, hl2]]
  rw [HLH.out] at ho8
  have hcv := ho8.str
  have HB8 := hid (HB7.out.trans (hg8.below HO7.out (by omega)))
  have hsl : (Pg.sealed ([83, 50, 73, bt] ++ Pg.low ps.length 2 ++ Pg.low ms.length 2 ++ List.replicate 56 0)).length ≤ 100 := by rw [Pg.seal_len]; simp [hl1, hl2]
  generalize Pg.sealed ([83, 50, 73, bt] ++ Pg.low ps.length 2 ++ Pg.low ms.length 2 ++ List.replicate 56 0) = hs at *
  have hzh := size_mk hs
  clear ho8 hg8
  have e1 : ∀ w, (Op.stringOp .add ⟨hs.toArray⟩ ⟨ps.toArray⟩).run Tryz.prog w = .ok (.string (⟨hs.toArray⟩ ++ ⟨ps.toArray⟩)) w := fun w => run_string_add_sum w _ _ (by omega)
  have e2 : ∀ w, (Op.stringOp .add (⟨hs.toArray⟩ ++ ⟨ps.toArray⟩) ⟨ms.toArray⟩).run Tryz.prog w = .ok (.string (⟨hs.toArray⟩ ++ ⟨ps.toArray⟩ ++ ⟨ms.toArray⟩)) w := fun w => run_string_add_sum w _ _ (by rw [ByteArray.size_append']; omega)
  go_wp2_with fail
  go_ret
  exact ⟨ret_str (by rw [HBR.out]; simp), HB8.out⟩
end Go.Proofs.YtolgpnaoaodepaaGreat
/- The walks of pages' Write and of silt's Write. -/
namespace Go.Proofs.YtolgpnaoaodepaaGreat
open Go.RowKit

theorem writeB_any (v : Value) (il : List (ByteArray × ByteArray)) (cl : List Int) (pl : List ByteArray) (ml : List (Int × ByteArray × ByteArray)) (w : World) (h : IsNode w v 2 il cl pl ml) (hw : Pg.well 2 (plain il) cl (lists pl) (plainCh ml) = true) :
    Calls Tryz.prog 130 #[v] w fun r w' => r = .returned (.string ⟨(Pg.page 2 (plain il) cl (lists pl) (plainCh ml)).toArray⟩) ∧ Below w.heap.size w w' := by
  obtain ⟨v1, v2, v3, v4, rfl, h1, h2, h3, h4, h5⟩ := h
  unfold Pg.well at hw
  unfold Pg.page
  rw [if_pos rfl]
  rw [if_neg (by decide)] at hw
  simp only [Bool.and_eq_true, decide_eq_true_eq] at hw
  obtain ⟨⟨⟨⟨⟨⟨⟨⟨hp, hc⟩, hm⟩, hk2⟩, _⟩, _⟩, hc4⟩, hpc⟩, hm8⟩ := hw
  have hcc : ∀ c ∈ cl, 0 ≤ c ∧ c ≤ 2147483647 := fun c hcm => by
    have := List.all_eq_true.1 hc c hcm
    simpa [Pg.okChild] using this
  have e1 : cl.map (Value.int .i64) = ncells (cl.map Int.toNat) := by
    unfold ncells
    rw [List.map_map]
    exact List.map_congr_left fun c hcm => by have := hcc c hcm; simp; omega
  have e2 : cl.length = (cl.map Int.toNat).length := by simp
  rw [e1, e2] at h3
  have e3 : (lists pl).length = pl.length := by simp [lists]
  have e4 : (plainCh ml).length = ml.length := by simp [plainCh]
  obtain ⟨a1, p1, h1'⟩ := h1.shape
  refine writeBranch_any 2 v1 v2 v3 v4 (cl.map Int.toNat) pl ml w ⟨a1, _, p1, h1'⟩ h3 h4 h5 (by rw [← e2]; exact hc4) (fun c hcm => ?_) (by omega) (fun x hx => ?_) (by omega) (fun x hx => ?_)
  · obtain ⟨d, hd, rfl⟩ := List.mem_map.1 hcm
    have := hcc d hd; omega
  · have := Pg.okPivots_sz _ _ hp x.data.toList (List.mem_map.2 ⟨x, hx, rfl⟩)
    simpa only [len_size] using this
  · have := List.all_eq_true.1 hm (x.1, x.2.1.data.toList, x.2.2.data.toList) (List.mem_map.2 ⟨x, hx, rfl⟩)
    simp only [Pg.okChange, Pg.isChange, Bool.and_eq_true, Bool.or_eq_true, decide_eq_true_eq, len_size] at this
    have hky := Pg.isKey_le this.1.1
    omega
theorem well_kind {kd : Int} {il : List (List UInt8 × List UInt8)} {cl : List Int} {pl : List (List UInt8)} {ml : List (Int × List UInt8 × List UInt8)} (h : Pg.well kd il cl pl ml = true) : kd = 1 ∨ kd = 2 := by
  unfold Pg.well at h
  by_cases hk : kd = 1
  · exact .inl hk
  · rw [if_neg hk] at h
    simp only [Bool.and_eq_true, decide_eq_true_eq] at h
    exact .inr h.1.1.1.1.1.2
theorem well_leaf {il : List (ByteArray × ByteArray)} {cl : List Int} {pl : List (List UInt8)} {ml : List (Int × List UInt8 × List UInt8)} (h : Pg.well 1 (plain il) cl pl ml = true) : il.length ≤ 16 ∧ ∀ x ∈ il, x.1.size ≤ 12 ∧ x.2.size ≤ 16 := by
  unfold Pg.well at h
  rw [if_pos rfl] at h
  simp only [Bool.and_eq_true, decide_eq_true_eq] at h
  obtain ⟨⟨⟨⟨ho, hl⟩, _⟩, _⟩, _⟩ := h
  refine ⟨by simpa [plain] using hl, fun x hx => ?_⟩
  have := Pg.okList_sz _ _ ho (x.1.data.toList, x.2.data.toList) (List.mem_map.2 ⟨x, hx, rfl⟩)
  simpa only [len_size] using this

set_option maxHeartbeats 1000000 in
set_option maxRecDepth 100000 in
theorem pagesWrite_any (v : Value) (kd : Int) (il : List (ByteArray × ByteArray)) (cl : List Int) (pl : List ByteArray) (ml : List (Int × ByteArray × ByteArray)) (w : World) (h : IsNode w v kd il cl pl ml) (hw : Pg.well kd (plain il) cl (lists pl) (plainCh ml) = true) :
    Calls Tryz.prog 66 #[v] w fun r w' => r = .returned (.string ⟨(Pg.page kd (plain il) cl (lists pl) (plainCh ml)).toArray⟩) ∧ Below w.heap.size w w' := by
  have HH := hid h
  obtain ⟨v1, v2, v3, v4, rfl, h1, -, h3, h4, h5⟩ := h
  obtain ⟨a1, p1, rfl⟩ := h1.shape
  obtain ⟨a2, p2, rfl, -⟩ := h3
  obtain ⟨a3, p3, rfl, -⟩ := h4
  obtain ⟨a4, p4, rfl, -⟩ := h5
  have BA := (Below.refl w.heap.size w).alloc (Nat.le_refl _) (.cells #[.int .i64 kd, .slice a1 il.length p1, .slice a2 cl.length p2, .slice a3 pl.length p3, .slice a4 ml.length p4] 79)
  have HB0 := hid BA
  have H1 := hid (h1.below BA)
  have HH2 := hid (HH.out.below BA)
  clear BA h1
  go_enter Tryz.func66, Tryz.ntmps66
  rcases well_kind hw with hk | hk
  · subst hk
    obtain ⟨hl, hs⟩ := well_leaf hw
    have HS := hid hs
    have HP : Hid (Pg.page 1 (plain il) cl (lists pl) (plainCh ml) = Pg.leaf (plain il)) := by show _ = _; unfold Pg.page; rw [if_neg (by decide)]
    clear hs hw
    go_wp2_with fail
    refine (writeLeaf_any _ il _ H1.out hl HS.out).mono ?_
    rintro r w1 ⟨rfl, hb1⟩
    have HB1 := hid (HB0.out.trans (hb1.mono (by simp)))
    clear hb1
    rw [← HP.out]
    go_wp2_with fail
    go_ret
    exact ⟨rfl, HB1.out⟩
  · subst hk
    have HW := hid hw
    clear hw
    go_wp2_with fail
    refine (writeB_any _ il cl pl ml _ HH2.out HW.out).mono ?_
    rintro r w1 ⟨rfl, hb1⟩
    have HB1 := hid (HB0.out.trans (hb1.mono (by simp)))
    clear hb1
    go_wp2_with fail
    go_ret
    exact ⟨rfl, HB1.out⟩

set_option maxHeartbeats 1000000 in
set_option maxRecDepth 100000 in
theorem siltWrite_any (v : Value) (kd : Int) (il : List (ByteArray × ByteArray)) (cl : List Int) (pl : List ByteArray) (ml : List (Int × ByteArray × ByteArray)) (w : World) (h : IsNode w v kd il cl pl ml) :
    Calls Tryz.prog 45 #[v] w fun r w' => r = .returned (.tuple #[.string ⟨(Pg.write kd (plain il) cl (lists pl) (plainCh ml)).1.toArray⟩, .int .i64 (Pg.write kd (plain il) cl (lists pl) (plainCh ml)).2]) ∧ Below w.heap.size w w' := by
  have HH := hid h
  obtain ⟨v1, v2, v3, v4, rfl, h1, -, h3, h4, h5⟩ := h
  obtain ⟨a1, p1, rfl⟩ := h1.shape
  obtain ⟨a2, p2, rfl, -⟩ := h3
  obtain ⟨a3, p3, rfl, -⟩ := h4
  obtain ⟨a4, p4, rfl, -⟩ := h5
  have BA := (Below.refl w.heap.size w).alloc (Nat.le_refl _) (.cells #[.int .i64 kd, .slice a1 il.length p1, .slice a2 cl.length p2, .slice a3 pl.length p3, .slice a4 ml.length p4] 79)
  have HB0 := hid BA
  have HH2 := hid (HH.out.below BA)
  have HN : Hid ((w.alloc (.cells #[.int .i64 kd, .slice a1 il.length p1, .slice a2 cl.length p2, .slice a3 pl.length p3, .slice a4 ml.length p4] 79)).heap[w.heap.size]? = some (.cells #[.int .i64 kd, .slice a1 il.length p1, .slice a2 cl.length p2, .slice a3 pl.length p3, .slice a4 ml.length p4] 79 (0, 0))) := heap_alloc_new _ _
  have hws : w.heap.size < (w.alloc (.cells #[.int .i64 kd, .slice a1 il.length p1, .slice a2 cl.length p2, .slice a3 pl.length p3, .slice a4 ml.length p4] 79)).heap.size := by simp
  clear BA h1
  go_enter Tryz.func45, Tryz.ntmps45
  go_wp2_with fail
  generalize w.alloc (.cells #[.int .i64 kd, .slice a1 il.length p1, .slice a2 cl.length p2, .slice a3 pl.length p3, .slice a4 ml.length p4] 79) = w0 at *
  refine (isNode_any _ kd il cl pl ml _ HH2.out).mono ?_
  rintro r w1 ⟨rfl, hb1⟩
  have HN1 := hid ((hb1.block w.heap.size (by omega)).trans HN.out)
  have HH3 := hid (HH2.out.below hb1)
  have HB1 := hid (HB0.out.trans (hb1.mono (by omega)))
  have hs1 := hb1.size
  obtain ⟨m0, m1, m2, m3, m4⟩ := node_cells HN1.out
  clear hb1
  cases hw : Pg.well kd (plain il) cl (lists pl) (plainCh ml)
  · have HR : Hid (Pg.write kd (plain il) cl (lists pl) (plainCh ml) = ([], 1)) := by
      show _ = _; unfold Pg.write; rw [hw]; rfl
    clear hw
    go_wp2_with fail
    go_ret2
    exact ⟨by rw [HR.out]; rfl, HB1.out⟩
  · have HR : Hid (Pg.write kd (plain il) cl (lists pl) (plainCh ml) = (Pg.page kd (plain il) cl (lists pl) (plainCh ml), 0)) := by
      show _ = _; unfold Pg.write; rw [hw]; rfl
    have HW := hid hw
    clear hw
    go_wp2_with fail
    refine (pagesWrite_any _ kd il cl pl ml _ HH3.out HW.out).mono ?_
    rintro r w2 ⟨rfl, hb2⟩
    have HB2 := hid (HB1.out.trans (hb2.mono (by omega)))
    clear hb2
    go_wp2_with fail
    go_ret2
    exact ⟨by rw [HR.out]; rfl, HB2.out⟩
end Go.Proofs.YtolgpnaoaodepaaGreat
