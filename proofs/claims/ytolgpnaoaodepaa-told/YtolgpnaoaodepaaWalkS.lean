/- The walks of pages' childrenContent and changesContent. -/
import Derived.Test.YtolgpnaoaodepaaWalkR
namespace Go.Proofs.Ytolgpnaoaodepaa
open Go.RowKit

/-- append(v, b), b a byte that lies in a block of its own, as a step of a region that draws. -/
theorem stepAp1 (w : World) {ops : Array Oper} {o : Oper} {a : Act} {K : Act → World → Prop} {Q : Exit → Act → World → Prop} {E : Prop} (hgd : o.guard = none) (sl x : Operand)
    (ho : o.op = Op.call { callee := Callee.builtin Builtin.append, args := #[sl, x], argTypes := #[59, 59] }) (B : Nat) (v : Value) (l : List UInt8) (hs : a.eval sl = v) (hown : Owns B w v l)
    (b : UInt8) (g : Nat) (hx : a.eval x = .slice (some ⟨g, 0, none⟩) 1 1) (hcell : w.cell? ⟨g, 0, none⟩ = some (.int .u8 (b.toNat : Int))) (hb : l.length + 1 ≤ 1000000000) (hB : B ≤ w.heap.size)
    (h : ∀ (v' : Value) (w' : World), Owns B w' v' (l ++ [b]) → Grew w w' v v' → K (a.put o.dst v') w') : if Region.wanted o (yielded ops a.tmps) = true then Oper.wp Try.prog o a w K Q else E := by
  have hw : Region.wanted o (yielded ops a.tmps) = true := by simp [Region.wanted, hgd]
  rw [if_pos hw]
  obtain ⟨i, hi, hz0, hz1, hz2⟩ := info_parts info_u8
  obtain ⟨v', w', hrun, ho', hg, _, hat⟩ := run_append_own_at (P := Try.prog) w B 59 o.type 5 i (.int .u8 0) 1 1 Try.underlying59 hi hz0 hz1 hz2 rfl (by decide) v l.length (Lib.byteCells l) hown ⟨g, 0, none⟩ 1 1 (Lib.byteCells [b]) rfl (fun j u hj => by
    match j, hj with
    | 0, hj => simp [Lib.byteCells] at hj; subst hj; simpa [Addr.add] using hcell) (byteCells_one [b]) (by unfold maxLen; omega) (by omega) hB
  have hK : K (a.put o.dst v') w' := by
    refine h v' w' ?_ ⟨hg, hat.imp_right fun e => ⟨w.heap.size, Nat.le_refl _, e⟩⟩
    unfold Owns
    rw [List.length_append, Lib.byteCells_append]
    exact ho'
  unfold Oper.wp
  simp [execOp, ho, resolve, invoke, builtin, hs, hx, hrun, Result.andThen]
  exact hK

set_option maxHeartbeats 1000000 in
set_option maxRecDepth 100000 in
theorem children_any (v2 v3 : Value) (cl : List Nat) (pl : List ByteArray) (w : World) (h2 : IsRow w v2 cl.length (ncells cl)) (h3 : IsRow w v3 pl.length (pl.map .string)) (hc : cl.length ≤ 1000) (hp : pl.length ≤ 1000) (hcs : ∀ c ∈ cl, c ≤ 9223372036854775807) (hps : ∀ p ∈ pl, p.size ≤ 100000) :
    Calls Try.prog 57 #[v2, v3] w fun r w' => ∃ v', r = .returned v' ∧ Owns w.heap.size w' v' (Pg.pivotsC cl (lists pl)) ∧ Below w.heap.size w w' := by
  obtain ⟨a2, p2, rfl, -, hr2⟩ := h2
  obtain ⟨a3, p3, rfl, -, hr3⟩ := h3
  have H2 := hid hr2
  have H3 := hid hr3
  have HCS := hid hcs
  have HPS := hid hps
  clear hr2 hr3 hcs hps
  go_enter Try.func57, Try.ntmps57
  go_wp2_with fail
  go_loopw [5, 12] (fun u i wr => ∃ (k : Nat) (o : List UInt8), k ≤ cl.length ∧ i = .int .i64 k ∧ Owns w.heap.size wr u o ∧ Below w.heap.size w wr ∧ o.length ≤ 10 * k ∧ o ++ (cl.drop k).flatMap Pg.num = cl.flatMap Pg.num) (fun _ i _ => cl.length - (intOf i).toNat)
  case atStart => exact ⟨0, [], Nat.zero_le _, rfl, Owns.nil _ _, Below.refl _ _, by simp, rfl⟩
  case round =>
    obtain ⟨k, o, hk, rfl, ho, hb, hol, heq⟩ := hrel
    have HO := hid ho
    have HB := hid hb
    have HEQ := hid heq
    have hsz := hb.size
    clear ho hb heq
    by_cases hkl : k < cl.length
    · obtain ⟨b, off, hve, hbw, hcs⟩ := H2.out.resolve_left (by omega)
      subst hve
      have c0 := rowAtN (pl := cl) hcs HB.out hbw k hkl
      clear hcs
      have hcn := HCS.out _ (List.getElem_mem hkl)
      rw [List.drop_eq_getElem_cons hkl, List.flatMap_cons] at HEQ
      generalize cl[k]'hkl = c at *
      have hnl := num_short c hcn
      go_wp2_with fail
      refine (apNum_any w.heap.size u5 o c _ HO.out hsz (by omega) hcn).mono ?_
      rintro r w1 ⟨v1, rfl, ho1, hg1⟩
      have HO1 := hid ho1
      have HB1 := hid (HB.out.trans (hg1.below HO.out hsz))
      clear ho1 hg1
      go_wp2_with fail
      go_roundw
      case rel => exact ⟨k + 1, _, by omega, by go_num, HO1.out, HB1.out, by rw [List.length_append]; omega, by rw [← HEQ.out, List.append_assoc]⟩
      case measure => simp [intOf]; omega
    · have HE1 : Hid (o = cl.flatMap Pg.num) := by
        show _ = _; rw [← HEQ.out, List.drop_eq_nil_of_le (by omega)]; simp
      go_wp2_with fail
      go_loopw [5, 22] (fun u i wi => ∃ (j : Nat) (q : List UInt8), j ≤ pl.length ∧ i = .int .i64 j ∧ Owns w.heap.size wi u q ∧ Below w.heap.size w wi ∧ q.length ≤ 10000 + 200000 * j ∧ q ++ (lists (pl.drop j)).flatMap Pg.text = Pg.pivotsC cl (lists pl)) (fun _ i _ => pl.length - (intOf i).toNat)
      case atStart => exact ⟨0, o, Nat.zero_le _, rfl, HO.out, HB.out, by omega, by rw [HE1.out]; rfl⟩
      case round =>
        clear HO HB HEQ hsz HE1 hkl hol hk
        obtain ⟨j, q, hj, rfl, ho, hb, hql, heq⟩ := hrel
        have HO := hid ho
        have HB := hid hb
        have HEQ := hid heq
        have hsz := hb.size
        clear ho hb heq
        by_cases hjl : j < pl.length
        · obtain ⟨b, off, hve, hbw, hcs⟩ := H3.out.resolve_left (by omega)
          subst hve
          have c0 := rowAt (pl := pl) hcs HB.out hbw j hjl
          clear hcs
          have hps := HPS.out _ (List.getElem_mem hjl)
          have HNX : Hid (lists (pl.drop j) = (pl[j]'hjl).data.toList :: lists (pl.drop (j + 1))) := by
            show _ = _; rw [List.drop_eq_getElem_cons hjl]; rfl
          generalize pl[j]'hjl = p at *
          rw [HNX.out, List.flatMap_cons] at HEQ
          have htl := text_len p.data.toList (by rw [len_size]; omega)
          rw [len_size] at htl
          go_wp2_with fail
          refine (apText_any w.heap.size u5 q p _ HO.out hsz (by omega) (by omega)).mono ?_
          rintro r w1 ⟨v1, rfl, ho1, hg1⟩
          have HO1 := hid ho1
          have HB1 := hid (HB.out.trans (hg1.below HO.out hsz))
          clear ho1 hg1
          go_wp2_with fail
          go_roundw
          case rel => exact ⟨j + 1, _, by omega, by go_num, HO1.out, HB1.out, by rw [List.length_append]; omega, by rw [← HEQ.out, List.append_assoc]⟩
          case measure => simp [intOf]; omega
        · have HE2 : Hid (q = Pg.pivotsC cl (lists pl)) := by
            show _ = _; rw [← HEQ.out, List.drop_eq_nil_of_le (by omega)]; simp [lists]
          go_wp2_with fail
          go_ret
          exact ⟨_, rfl, by rw [← HE2.out]; exact HO.out, HB.out⟩

set_option maxHeartbeats 1000000 in
set_option maxRecDepth 100000 in
theorem changesC_any (v : Value) (l : List (Int × ByteArray × ByteArray)) (w : World) (hv : IsChs w v l) (hl : l.length ≤ 1000) (hks : ∀ c ∈ l, 0 ≤ c.1 ∧ c.1 ≤ 255 ∧ c.2.1.size ≤ 10000 ∧ c.2.2.size ≤ 10000) :
    Calls Try.prog 58 #[v] w fun r w' => ∃ v', r = .returned v' ∧ Owns w.heap.size w' v' (Pg.changes (plainCh l)) ∧ Below w.heap.size w w' := by
  obtain ⟨va, vc, rfl, -, hrow⟩ := hv
  have HV := hid hrow
  have HKS := hid hks
  clear hrow hks
  obtain ⟨bt, hbt, hbl⟩ := low1 l.length
  have HBT := hid hbt
  have HST : Hid ([bt] ++ (plainCh l).flatMap Pg.change1 = Pg.changes (plainCh l)) := by show _ = _; unfold Pg.changes; rw [show (plainCh l).length = l.length by simp [plainCh], hbl]
  clear hbt hbl
  go_enter Try.func58, Try.ntmps58
  go_wp2_with fail
  have HLIT := hid (owns_lit w w.heap.size (Nat.le_refl _) [bt] #[.int .u8 ((l.length : Int) % 256)] (by simp [Lib.byteCells]; rw [HBT.out]; omega) (by simp))
  have HBL := hid ((Below.refl w.heap.size w).alloc (Nat.le_refl _) (.cells #[.int .u8 ((l.length : Int) % 256)] 5))
  go_loopw [3, 12] (fun u i wr => ∃ (k : Nat) (o : List UInt8), k ≤ l.length ∧ i = .int .i64 k ∧ Owns w.heap.size wr u o ∧ Below w.heap.size w wr ∧ o.length ≤ 1 + 30000 * k ∧ o ++ (plainCh (l.drop k)).flatMap Pg.change1 = Pg.changes (plainCh l)) (fun _ i _ => l.length - (intOf i).toNat)
  case atStart => exact ⟨0, [bt], Nat.zero_le _, rfl, HLIT.out, HBL.out, by simp, HST.out⟩
  case round =>
    clear HLIT HBL
    obtain ⟨k, o, hk, rfl, ho, hb, hol, heq⟩ := hrel
    have HO := hid ho
    have HB := hid hb
    have HEQ := hid heq
    have hsz := hb.size
    clear ho hb heq
    by_cases hkl : k < l.length
    · obtain ⟨b, off, hve, hbw, hcs⟩ := HV.out.resolve_left (by omega)
      subst hve
      obtain ⟨c0, c1, c2⟩ := hcs.below HB.out hbw k hkl
      clear hcs
      have hcn := HKS.out _ (List.getElem_mem hkl)
      have HNX : Hid (plainCh (l.drop k) = ((l[k]'hkl).1, (l[k]'hkl).2.1.data.toList, (l[k]'hkl).2.2.data.toList) :: plainCh (l.drop (k + 1))) := by
        show _ = _; rw [List.drop_eq_getElem_cons hkl]; rfl
      generalize l[k]'hkl = x at *
      obtain ⟨ck, kb, vb⟩ := x
      simp only at c0 c1 c2 hcn
      obtain ⟨cn, rfl⟩ : ∃ n : Nat, ck = (n : Int) := ⟨ck.toNat, by omega⟩
      obtain ⟨bc, hbc, hbcl⟩ := low1 cn
      have HCH : Hid (Pg.change1 ((cn : Int), kb.data.toList, vb.data.toList) = [bc] ++ Pg.text kb.data.toList ++ (if (cn : Int) = 2 then [] else Pg.text vb.data.toList)) := by
        show _ = _; unfold Pg.change1; simp only [Int.toNat_natCast]; rw [hbcl]
      have HBC : Hid ((bc.toNat : Int) = IntKind.u8.wrap (cn : Int)) := by show _ = _; rw [show IntKind.u8.wrap (cn : Int) = (cn : Int) % 256 from rfl]; omega
      rw [HNX.out, List.flatMap_cons, HCH.out] at HEQ
      clear hbc hbcl
      have D0 := hid (show (wr.alloc (.cells #[.int .i64 (cn : Int), .string kb, .string vb] 52)).cell? ⟨wr.heap.size, 0, none⟩ = some (.int .i64 (cn : Int)) by simp)
      have D1 := hid (show (wr.alloc (.cells #[.int .i64 (cn : Int), .string kb, .string vb] 52)).cell? ⟨wr.heap.size, 1, none⟩ = some (.string kb) by simp)
      have D2 := hid (show (wr.alloc (.cells #[.int .i64 (cn : Int), .string kb, .string vb] 52)).cell? ⟨wr.heap.size, 2, none⟩ = some (.string vb) by simp)
      have HB2 := hid (HB.out.alloc hsz (.cells #[.int .i64 (cn : Int), .string kb, .string vb] 52))
      have HO2 := hid (HO.out.alloc (.cells #[.int .i64 (cn : Int), .string kb, .string vb] 52))
      have HN2 := hid (own_lt HO.out (Nat.le_refl wr.heap.size))
      have hs2 : wr.heap.size < (wr.alloc (.cells #[.int .i64 (cn : Int), .string kb, .string vb] 52)).heap.size := by simp
      go_wp2_with fail
      generalize wr.alloc (.cells #[.int .i64 (cn : Int), .string kb, .string vb] 52) = w2 at *
      generalize wr.heap.size = xb at *
      clear c0 c1 c2
      have d0 := D0.out
      have d1 := D1.out
      have d2 := D2.out
      have HW3 : Hid (Owns w.heap.size ((w2.alloc (.cells #[.int .u8 (IntKind.u8.wrap (cn : Int))] 5)).drew) u3 o) := ((HO2.out.alloc _).drew)
      have HC3 : Hid (((w2.alloc (.cells #[.int .u8 (IntKind.u8.wrap (cn : Int))] 5)).drew).cell? ⟨w2.heap.size, 0, none⟩ = some (.int .u8 (bc.toNat : Int))) := by
        show _ = _; rw [HBC.out]; simp
      have HB3 := hid ((HB2.out.alloc (by omega) (.cells #[.int .u8 (IntKind.u8.wrap (cn : Int))] 5)).drew)
      have e0 : ((w2.alloc (.cells #[.int .u8 (IntKind.u8.wrap (cn : Int))] 5)).drew).cell? ⟨xb, 0, none⟩ = some (.int .i64 (cn : Int)) := by
        show (w2.alloc _).cell? _ = _; rw [World.cell?_alloc_past _ _ _ (by show xb < _; omega)]; exact d0
      have e1 : ((w2.alloc (.cells #[.int .u8 (IntKind.u8.wrap (cn : Int))] 5)).drew).cell? ⟨xb, 1, none⟩ = some (.string kb) := by
        show (w2.alloc _).cell? _ = _; rw [World.cell?_alloc_past _ _ _ (by show xb < _; omega)]; exact d1
      have e2 : ((w2.alloc (.cells #[.int .u8 (IntKind.u8.wrap (cn : Int))] 5)).drew).cell? ⟨xb, 2, none⟩ = some (.string vb) := by
        show (w2.alloc _).cell? _ = _; rw [World.cell?_alloc_past _ _ _ (by show xb < _; omega)]; exact d2
      have hs3 : w2.heap.size < ((w2.alloc (.cells #[.int .u8 (IntKind.u8.wrap (cn : Int))] 5)).drew).heap.size := by simp
      go_region_law (first
        | (refine stepAp1 _ (by rfl) (.tmp 16) (.tmp 20) (by rfl) w.heap.size u3 o (by simp [Act.eval]) HW3.out bc w2.heap.size (by simp [Act.eval]) HC3.out (by omega) (by omega) ?_
           intro v4 w4 ho4 hg4
           have HO4 := hid ho4
           have HB4 := hid (HB3.out.trans (hg4.below HW3.out (by omega)))
           have f0 := hg4.cell e0 HN2.out
           have f1 := hg4.cell e1 HN2.out
           have f2 := hg4.cell e2 HN2.out
           have HN4 := hid (hg4.ne (by omega) HN2.out)
           have hs4 := hg4.size
           clear ho4 hg4)
        | (go_simp
           refine (apText_any w.heap.size v4 _ kb _ HO4.out (by omega) (by simp; omega) (by omega)).mono ?_
           rintro r w5 ⟨v5, rfl, ho5, hg5⟩
           have HO5 := hid ho5
           have HB5 := hid (HB4.out.trans (hg5.below HO4.out (by omega)))
           have k0 := hg5.cell f0 HN4.out
           have k2 := hg5.cell f2 HN4.out
           have hs5 := hg5.size
           clear ho5 hg5))
      all_goals
        have htk := text_len kb.data.toList (by rw [len_size]; omega)
        rw [len_size] at htk
        have htv := text_len vb.data.toList (by rw [len_size]; omega)
        rw [len_size] at htv
        by_cases hc2 : cn = 2
        · have hne : ((cn : Int) == 2) = true := by simp; omega
          have HG : Hid (o ++ [bc] ++ Pg.text kb.data.toList ++ (plainCh (l.drop (k + 1))).flatMap Pg.change1 = Pg.changes (plainCh l)) := by
            show _ = _; rw [← HEQ.out, if_pos (by omega)]; simp
          clear hc2
          go_wp2_with fail
          go_roundw
          case rel => exact ⟨k + 1, _, by omega, by go_num, HO5.out, HB5.out, by simp only [List.length_append, List.length_singleton]; omega, HG.out⟩
          case measure => simp [intOf]; omega
        · have hne : ((cn : Int) == 2) = false := by simp; omega
          have HG : Hid (o ++ [bc] ++ Pg.text kb.data.toList ++ Pg.text vb.data.toList ++ (plainCh (l.drop (k + 1))).flatMap Pg.change1 = Pg.changes (plainCh l)) := by
            show _ = _; rw [← HEQ.out, if_neg (by omega)]; simp
          clear hc2
          go_wp2_with fail
          refine (apText_any w.heap.size v5 _ vb _ HO5.out (by omega) (by simp only [List.length_append, List.length_singleton]; omega) (by omega)).mono ?_
          rintro r w6 ⟨v6, rfl, ho6, hg6⟩
          have HO6 := hid ho6
          have HB6 := hid (HB5.out.trans (hg6.below HO5.out (by omega)))
          clear ho6 hg6
          go_wp2_with fail
          go_roundw
          case rel => exact ⟨k + 1, _, by omega, by go_num, HO6.out, HB6.out, by simp only [List.length_append, List.length_singleton]; omega, HG.out⟩
          case measure => simp [intOf]; omega
    · have HE1 : Hid (o = Pg.changes (plainCh l)) := by
        show _ = _; rw [← HEQ.out, List.drop_eq_nil_of_le (by omega)]; simp [plainCh]
      go_wp2_with fail
      go_ret
      exact ⟨_, rfl, by rw [← HE1.out]; exact HO.out, HB.out⟩
end Go.Proofs.Ytolgpnaoaodepaa
