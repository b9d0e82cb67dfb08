/- The walk of pages' readOldLeaf. -/
import Derived.Test.YtolgpnaoaodepaaGreatRefWm
import Derived.Test.YtolgpnaoaodepaaGreatMathVm
namespace Go.Proofs.YtolgpnaoaodepaaGreat
open Go.RowKit
theorem rtext_yes2 (b : Nat) (t : List UInt8) (w : World) (hr : Rd w b t) (ht : t.length ≤ 10000000) {x u : List UInt8} (h : Pr.textR t = some (x, u)) : Calls Tryz.prog 268 #[.pointer (some ⟨b, 0, none⟩)] w fun r w' => r = .returned (.string ⟨x.toArray⟩) ∧ Rd w' b u ∧ But b w w' := (rtext_any b t w hr (by omega)).mono fun _ _ q => rdq_yes (f := sv) q h
theorem rtext_no2 (b : Nat) (t : List UInt8) (w : World) (hr : Rd w b t) (ht : t.length ≤ 10000000) (h : Pr.textR t = none) : Calls Tryz.prog 268 #[.pointer (some ⟨b, 0, none⟩)] w fun r w' => r = gaveUp ∧ But b w w' := (rtext_any b t w hr (by omega)).mono fun _ _ q => rdq_no q h
theorem text_left {t x u : List UInt8} (h : Pr.textR t = some (x, u)) : x.length + u.length ≤ t.length := by
  have := congrArg List.length (Pr.textR_inv h)
  unfold Pg.text at this
  simp only [List.length_append] at this
  omega
/-- append(v, x), x an item that lies in a block of its own, as a step of a region that draws. -/
theorem stepApI1 (w : World) {ops : Array Oper} {o : Oper} {a : Act} {K : Act → World → Prop} {Q : Exit → Act → World → Prop} {E : Prop} (hgd : o.guard = none) (sl x : Operand)
    (ho : o.op = Op.call { callee := Callee.builtin Builtin.append, args := #[sl, x], argTypes := #[30, 30] }) (B : Nat) (v : Value) (l : List (ByteArray × ByteArray)) (hs : a.eval sl = v) (hown : OwnsI B w v l)
    (c : ByteArray × ByteArray) (g : Nat) (hx : a.eval x = .slice (some ⟨g, 0, none⟩) 1 1) (hcell : w.heap[g]? = some (.cells #[.string c.1, .string c.2] 51 (0, 0))) (hb : l.length + 1 ≤ 1000000000) (hB : B ≤ w.heap.size)
    (h : ∀ (v' : Value) (w' : World), OwnsI B w' v' (l ++ [c]) → w.grownBy w' v.ownBlock → (v'.ownBlock = v.ownBlock ∨ ∃ k, w.heap.size ≤ k ∧ v'.ownBlock = some k) → K (a.put o.dst v') w') : if Region.wanted o (yielded ops a.tmps) = true then Oper.wp Tryz.prog o a w K Q else E := by
  have hw : Region.wanted o (yielded ops a.tmps) = true := by simp [Region.wanted, hgd]
  rw [if_pos hw]
  obtain ⟨i, hi, hz0, hz1, hz2⟩ := info_parts info_item
  obtain ⟨v', w', hrun, ho', hg, _, hat⟩ := run_append_own_at (P := Tryz.prog) w B 30 o.type 51 i (.agg #[.string ⟨#[]⟩, .string ⟨#[]⟩]) 2 32 Tryz.underlying30 hi hz0 hz1 hz2 rfl (by decide) v l.length (icells l) hown ⟨g, 0, none⟩ 1 1 [.string c.1, .string c.2] rfl (fun j u hj => by
    have e : (⟨g, 0, none⟩ : Addr).add j = ⟨g, j, none⟩ := by
      by_cases h0 : j = 0
      · subst h0; simp [Addr.add]
      · simp [Addr.add, h0]
    rw [e]
    unfold World.cell?
    rw [hcell]
    simpa using hj) (by intro u hu; simp at hu; rcases hu with rfl | rfl <;> rfl) (by unfold maxLen; omega) (by omega) hB
  have hK : K (a.put o.dst v') w' := by
    refine h v' w' ?_ hg (hat.imp_right fun e => ⟨w.heap.size, Nat.le_refl _, e⟩)
    unfold OwnsI
    rw [List.length_append, icells_snoc]
    exact ho'
  unfold Oper.wp
  simp [execOp, ho, resolve, invoke, builtin, hs, hx, hrun, Result.andThen]
  exact hK
set_option maxHeartbeats 1000000 in
set_option maxRecDepth 20000 in
theorem readOldLeaf_any (b : Nat) (t : List UInt8) (w : World) (hr : Rd w b t) (ht : t.length ≤ 10000000) :
    Calls Tryz.prog 257 #[.pointer (some ⟨b, 0, none⟩)] w fun r w' => OlQ b w ((Pr.oldLfR t).map fun x => ((1, x.1, [], [], []), x.2)) r w' := by
  have HM0 := hid (oln_new (w := w) 1 hr)
  have HLT := hid hr.lt
  clear hr
  go_enter Tryz.func257, Tryz.ntmps257
  go_wp2_with fail
  generalize (w.alloc (.cells #[.int .i64 0, .slice none 0 0, .slice none 0 0, .slice none 0 0, .slice none 0 0] 79)).alloc (.cells #[.int .i64 1, .slice none 0 0, .slice none 0 0, .slice none 0 0, .slice none 0 0] 79) = w0 at *
  refine (rbyte_any b t w0 HM0.out.rd).mono ?_
  rintro r w1 ⟨hb1, ⟨hn, rfl⟩ | ⟨nb, u1, hs, rfl, hr1⟩⟩
  · have HT : Hid ((Pr.oldLfR t).map (fun x => (((1 : Int), x.1, ([] : List Nat), ([] : List (List UInt8)), ([] : List (Int × List UInt8 × List UInt8))), x.2)) = none) := by show _ = _; unfold Pr.oldLfR; rw [hn]; rfl
    have HB := hid (but_trans HM0.out.but hb1)
    clear hb1 hn
    unfold gaveUp
    go_wp2_with fail
    exact ⟨rfl, HB.out, .inl ⟨HT.out, rfl⟩⟩
  have HM1 := hid (HM0.out.step hr1 hb1)
  have HT1 : Hid (Pr.oldLfR t = Pr.oldItsR nb.toNat u1) := by show _ = _; unfold Pr.oldLfR; rw [hs]; rfl
  have hn256 : nb.toNat < 256 := nb.toNat_lt
  have hul : u1.length ≤ 10000000 := by have := Pr.byteR_len hs; rw [this] at ht; simp at ht; omega
  clear hb1 hr1 hs HM0 ht
  unfold bv
  generalize nb.toNat = n at *
  go_wp2_with fail
  go_loopw [7] (fun i wr => ∃ (k : Nat) (il : List (ByteArray × ByteArray)) (q : List UInt8) (vi : Value), k ≤ n ∧ i = .int .u8 k ∧ il.length = k ∧ q.length ≤ 10000000 ∧ OlN b w wr q 1 il [] [] [] vi (.slice none 0 0) (.slice none 0 0) (.slice none 0 0) ∧ (Pr.oldItsR (n - k) q).map (fun r => (plain il ++ r.1, r.2)) = Pr.oldItsR n u1) (fun i _ => n - (intOf i).toNat)
  case atStart => exact ⟨0, [], u1, _, Nat.zero_le _, rfl, rfl, hul, HM1.out, by simp [plain]⟩
  case round =>
    clear HM1 hul
    obtain ⟨k, il, q, vi, hk, rfl, hil, hq, hm, heq⟩ := hrel
    have HIL := hid hil
    have HM := hid hm
    have HEQ := hid heq
    obtain ⟨la, lc, rfl⟩ := rowShape hm.nd.its
    obtain ⟨n0, n1, n2, n3, n4, x0, x1, x2, x3, x4⟩ := hm.nd.var.cells
    have hle := hm.nd.le
    have hill : il.length ≤ 255 := by omega
    clear hil hm heq
    by_cases hkn : k < n
    · have hi1 : (k : Int) < (n : Int) := by omega
      obtain ⟨m, hm⟩ : ∃ m, n - k = m + 1 := ⟨n - k - 1, by omega⟩
      have HMK : Hid (m = n - (k + 1)) := by show _ = _; omega
      rw [hm, Pr.oldItsR] at HEQ
      clear hm
      cases hl : Pr.textR q with
      | none =>
        have HT : Hid ((Pr.oldLfR t).map (fun x => (((1 : Int), x.1, ([] : List Nat), ([] : List (List UInt8)), ([] : List (Int × List UInt8 × List UInt8))), x.2)) = none) := by
          show _ = _; rw [HT1.out, ← HEQ.out, hl]; rfl
        have HC := hid (rtext_no2 b q (World.drew wr) HM.out.rd hq hl)
        clear hl
        go_wp2_with fail
        go_region_dies
        all_goals
          refine HC.out.mono ?_
          rintro r w5 ⟨rfl, hb5⟩
          have HB5 := hid (but_trans HM.out.but (but_drew hb5))
          clear hb5
          unfold gaveUp
          go_wp2_with fail
          exact ⟨rfl, HB5.out, .inl ⟨HT.out, rfl⟩⟩
      | some y =>
        obtain ⟨kx, q1⟩ := y
        have hq1 := text_left hl
        have HC := hid (rtext_yes2 b q (World.drew wr) HM.out.rd hq hl)
        cases hl2 : Pr.textR q1 with
        | none =>
          have HT : Hid ((Pr.oldLfR t).map (fun x => (((1 : Int), x.1, ([] : List Nat), ([] : List (List UInt8)), ([] : List (Int × List UInt8 × List UInt8))), x.2)) = none) := by
            show _ = _; rw [HT1.out, ← HEQ.out, hl]; simp only [Option.bind_some]; rw [hl2]; rfl
          have HC2 := hid (fun W h => rtext_no2 b q1 W h (by omega) hl2)
          clear hl hl2
          go_wp2_with fail
          go_region_dies
          · refine HC.out.mono ?_
            rintro r w5 ⟨rfl, hr5, hb5⟩
            have HM5 := hid (HM.out.step hr5 (but_drew hb5))
            have HR5 := hid hr5
            clear hb5 hr5
            rename_i hK
            refine hK _ _ ?_
            refine wpAny_ready (rs := [5]) (by kernel_rfl) (by simp) ?_
            refine AllReady.cons rfl (fun K2 hK2 => ?_) AllReady.nil
            go_simp
            refine (HC2.out w5 HR5.out).mono ?_
            rintro r w6 ⟨rfl, hb6⟩
            have HB6 := hid (but_trans HM5.out.but hb6)
            clear hb6
            unfold gaveUp
            go_wp2_with fail
            exact ⟨rfl, HB6.out, .inl ⟨HT.out, rfl⟩⟩
          · refine HC.out.mono ?_
            rintro r w5 ⟨rfl, hr5, hb5⟩
            have HM5 := hid (HM.out.step hr5 (but_drew hb5))
            have HR5 := hid hr5
            obtain ⟨e0, e1, e2, e3, e4, -⟩ := HM5.out.nd.var.cells
            clear hb5 hr5
            rename_i hK
            refine hK _ _ ?_
            refine wpAny_ready (rs := [1, 5]) (by kernel_rfl) (by simp) ?_
            refine AllReady.cons rfl (fun K2 hK2 => ?_) (AllReady.cons rfl (fun K3 hK3 => ?_) AllReady.nil)
            · go_simp
              refine hK2 _ _ ?_
              refine wpAny_ready (rs := [5]) (by kernel_rfl) (by simp) ?_
              refine AllReady.cons rfl (fun K3 hK3 => ?_) AllReady.nil
              go_simp
              refine (HC2.out w5 HR5.out).mono ?_
              rintro r w6 ⟨rfl, hb6⟩
              have HB6 := hid (but_trans HM5.out.but hb6)
              clear hb6
              unfold gaveUp
              go_wp2_with fail
              exact ⟨rfl, HB6.out, .inl ⟨HT.out, rfl⟩⟩
            · go_simp
              refine (HC2.out w5 HR5.out).mono ?_
              rintro r w6 ⟨rfl, hb6⟩
              have HB6 := hid (but_trans HM5.out.but hb6)
              clear hb6
              unfold gaveUp
              go_wp2_with fail
              exact ⟨rfl, HB6.out, .inl ⟨HT.out, rfl⟩⟩
        | some y =>
          obtain ⟨vx, q2⟩ := y
          have hq2 := text_left hl2
          have HEQ2 : Hid ((Pr.oldItsR m q2).map (fun r => ((plain il ++ [(kx, vx)]) ++ r.1, r.2)) = Pr.oldItsR n u1) := by
            show _ = _; rw [← HEQ.out, hl]; simp only [Option.bind_some]; rw [hl2]; simp only [Option.bind_some, Option.map_map]; congr 1; funext r; simp
          have HC2 := hid (fun W h => rtext_yes2 b q1 W h (by omega) hl2)
          have hk1 : ((k : Int) + 1) % 256 = (k : Int) + 1 := by omega
          clear hl hl2 HEQ
          go_wp2_with fail
          go_region_law (first
            | (refine stepApI1 _ (by rfl) (.tmp 10) (.tmp 16) (by rfl) (w.heap.size + 2) (.slice la il.length lc) il (by simp [Act.eval]) H9.out.nd.its (⟨kx.toArray⟩, ⟨vx.toArray⟩) w8.heap.size (by simp [Act.eval]) HCE9.out (by omega) H9.out.nd.le ?_
               intro v9 w9 ho9 hg9 hat9
               obtain ⟨a9, c9, rfl⟩ := rowShape ho9
               generalize hl9 : (il ++ [((⟨kx.toArray⟩ : ByteArray), (⟨vx.toArray⟩ : ByteArray))]).length = l9 at *
               have HAP := hid (H9.out.nd.apI ho9 hg9 hat9)
               obtain ⟨e0, e1, e2, e3, e4, y0, y1, y2, y3, y4⟩ := HAP.out.1.cells
               clear ho9 hg9 hat9 hl9)
            | (go_simp
               refine HC.out.mono ?_
               rintro r w7 ⟨rfl, hr7, hb7⟩
               have HM7 := hid (HM.out.step hr7 (but_drew hb7))
               obtain ⟨p0, p1, p2, p3, p4, -⟩ := HM7.out.nd.var.cells
               clear hr7 hb7)
            | (go_simp
               refine (HC2.out w7 HM7.out.rd).mono ?_
               rintro r w8 ⟨rfl, hr8, hb8⟩
               have HM8 := hid (HM7.out.step hr8 hb8)
               have BAL := (Below.refl w8.heap.size w8).alloc (Nat.le_refl _) (.cells #[.string ⟨kx.toArray⟩, .string ⟨vx.toArray⟩] 51)
               have H9 := hid (HM8.out.below BAL)
               have HCE9 : Hid ((w8.alloc (.cells #[.string ⟨kx.toArray⟩, .string ⟨vx.toArray⟩] 51)).heap[w8.heap.size]? = some (.cells #[.string ⟨kx.toArray⟩, .string ⟨vx.toArray⟩] 51 (0, 0))) := heap_alloc_new _ _
               obtain ⟨g0, g1, g2, g3, g4, f0, f1, f2, f3, f4⟩ := HM8.out.nd.var.cells
               obtain ⟨-, g1a, -, -, -, -, f1a, -, -, -⟩ := H9.out.nd.var.cells
               clear hr8 hb8 BAL))
          all_goals
            have HMZ := hid (H9.out.other HAP.out.2.2 HAP.out.2.1)
            clear HAP H9 HCE9
            go_wp2_with fail
            go_roundw
            case rel => exact ⟨k + 1, _, q2, _, by omega, by go_num, by rw [List.length_append, HIL.out]; rfl, by omega, HMZ.out, by rw [← HMK.out, plain_snoc, HEQ2.out]⟩
            case measure => simp [intOf]; omega
    · have hi1 : ¬ (k : Int) < (n : Int) := by omega
      have HEQ2 : Hid ((Pr.oldLfR t).map (fun x => (((1 : Int), x.1, ([] : List Nat), ([] : List (List UInt8)), ([] : List (Int × List UInt8 × List UInt8))), x.2)) = some ((1, plain il, [], lists [], plainCh []), q)) := by show _ = _; rw [HT1.out, ← HEQ.out, show n - k = 0 by omega]; simp [Pr.oldItsR, lists, plainCh]
      have HEND := hid (olQ_end HM.out HEQ2.out (by omega) (by simp) (by simp) (by simp))
      obtain ⟨r0, r1, r2, r3, r4, y0, y1, y2, y3, y4⟩ := HM.out.res.cells
      obtain ⟨q0, q1, q2, q3, q4⟩ := nodeB_res2 HM.out.res (.int .i64 1) (.slice la il.length lc) (.slice none 0 0) (.slice none 0 0) (.slice none 0 0)
      unfold put5 at q0 q1 q2 q3 q4
      go_wp2_with fail
      refine bodyPost_ret (v := .agg #[.int .i64 1, .slice la il.length lc, .slice none 0 0, .slice none 0 0, .slice none 0 0]) ?_ rfl HEND.out
      simp [results, Tryz.results257, go_sem, q0, q1, q2, q3, q4]
end Go.Proofs.YtolgpnaoaodepaaGreat
/- The walks of pages' readOld and Renew. -/
namespace Go.Proofs.YtolgpnaoaodepaaGreat
open Go.RowKit
theorem rd_but {w w' : World} {b c : Nat} {t : List UInt8} (h : Rd w b t) (hb : But c w w') (hne : b ≠ c) : Rd w' b t := (hb.block b h.lt (by simpa using hne)).trans h
theorem ResF.put {w wr : World} {nb : Nat} (h : ResF w wr) (hn : w.heap.size < nb) (u0 u1 u2 u3 u4 : Value) : ResF w (put5 wr nb u0 u1 u2 u3 u4) := ⟨put_other h.1 (by omega) _ _ _ _ _, below_put h.2 (by omega) _ _ _ _ _⟩
theorem Rd.put {w : World} {b nb : Nat} {t : List UInt8} (h : Rd w b t) (hn : b ≠ nb) (u0 u1 u2 u3 u4 : Value) : Rd (put5 w nb u0 u1 u2 u3 u4) b t := by
  unfold put5
  exact ((((h.setOther hn _).setOther hn _).setOther hn _).setOther hn _).setOther hn _
set_option maxHeartbeats 1000000 in
set_option maxRecDepth 20000 in
theorem readOld_any (t : List UInt8) (w : World) (ht : t.length ≤ 10000000) :
    Calls Tryz.prog 218 #[.string ⟨t.toArray⟩] w fun r w' => NodeQ w (Pr.oldR t) r w' := by
  have HR0 : Hid (ResF w (w.alloc (.cells #[.int .i64 0, .slice none 0 0, .slice none 0 0, .slice none 0 0, .slice none 0 0] 79))) := ⟨nodeB_new w _ _ _ _ _, (Below.refl _ w).alloc (Nat.le_refl _) _⟩
  have hs0 : w.heap.size < (w.alloc (.cells #[.int .i64 0, .slice none 0 0, .slice none 0 0, .slice none 0 0, .slice none 0 0] 79)).heap.size := by simp
  go_enter Tryz.func218, Tryz.ntmps218
  go_wp2_with fail
  generalize w.alloc (.cells #[.int .i64 0, .slice none 0 0, .slice none 0 0, .slice none 0 0, .slice none 0 0] 79) = w0 at *
  refine (unseal_any t w0 (by omega)).mono ?_
  rintro r w1 ⟨hb1, ⟨hn, rfl⟩ | ⟨bd, hs, rfl⟩⟩
  · have HT : Hid (Pr.oldR t = none) := by show _ = _; unfold Pr.oldR; rw [hn]; rfl
    have HB := hid (HR0.out.below hb1)
    clear hb1 hn
    unfold gaveUp
    go_wp2_with fail
    exact ⟨rfl, HB.out.2, .inl ⟨HT.out, rfl⟩⟩
  have HT1 : Hid (Pr.oldR t = (Pr.takeR 2 bd).bind fun a => (Pr.byteR a.2).bind fun k => (Pr.oldInR k.1 k.2).bind fun x => if x.2 = [] ∧ Pr.wellT x.1 = true then some x.1 else none) := by show _ = _; unfold Pr.oldR; rw [hs]; rfl
  have hbl : bd.length ≤ 10000000 := by
    have := congrArg List.length (Pr.unseal_is hs)
    rw [Pg.seal_len] at this; omega
  have HR1 := hid (HR0.out.below hb1)
  have hs1 := hb1.size
  clear hb1 hs HR0 ht
  go_wp2_with fail
  refine (newReader_any bd w1).mono ?_
  rintro r w2 ⟨rfl, rfl⟩
  have HD2 := hid (rd_new w1 bd)
  have HR2 := hid (HR1.out.below ((Below.refl w1.heap.size w1).alloc (Nat.le_refl _) (.cells #[.string ⟨bd.toArray⟩] 298)))
  have hs2 : w1.heap.size < (w1.alloc (.cells #[.string ⟨bd.toArray⟩] 298)).heap.size := by simp
  go_wp2_with fail
  generalize w1.alloc (.cells #[.string ⟨bd.toArray⟩] 298) = w2 at *
  have hrb : w.heap.size < w1.heap.size := by omega
  generalize w1.heap.size = rb at *
  refine (rtake_any rb 2 bd w2 HD2.out).mono ?_
  rintro r w3 ⟨hb3, ⟨hn, rfl⟩ | ⟨x3, u3, h3, rfl, hr3⟩⟩
  · have HT : Hid (Pr.oldR t = none) := by show _ = _; rw [HT1.out, hn]; rfl
    have HB := hid (HR2.out.but hb3 hrb)
    clear hb3 hn
    unfold gaveUp
    go_wp2_with fail
    exact ⟨rfl, HB.out.2, .inl ⟨HT.out, rfl⟩⟩
  have HR3 := hid (HR2.out.but hb3 hrb)
  have HD3 := hid hr3
  have hs3 := hb3.size
  have hu3 : u3.length ≤ 10000000 := by have := congrArg List.length (Pr.takeR_len h3).2; rw [List.length_append] at this; omega
  rw [h3] at HT1
  clear hb3 h3 hr3 HR2 HD2
  unfold sv
  go_wp2_with fail
  refine (rbyte_any rb u3 w3 HD3.out).mono ?_
  rintro r w4 ⟨hb4, ⟨hn, rfl⟩ | ⟨kb, u4, h4, rfl, hr4⟩⟩
  · have HT : Hid (Pr.oldR t = none) := by show _ = _; rw [HT1.out]; simp only [Option.bind_some]; rw [hn]; rfl
    have HB := hid (HR3.out.but hb4 hrb)
    clear hb4 hn
    unfold gaveUp
    go_wp2_with fail
    exact ⟨rfl, HB.out.2, .inl ⟨HT.out, rfl⟩⟩
  have HR4 := hid (HR3.out.but hb4 hrb)
  have HD4 := hid hr4
  have hs4 := hb4.size
  have hu4 : u4.length ≤ 10000000 := by have := congrArg List.length (Pr.byteR_len h4); rw [List.length_cons] at this; omega
  have HT4 : Hid (Pr.oldR t = (Pr.oldInR kb u4).bind fun x => if x.2 = [] ∧ Pr.wellT x.1 = true then some x.1 else none) := by show _ = _; rw [HT1.out]; simp only [Option.bind_some]; rw [h4]; rfl
  clear hb4 h4 hr4 HR3 HD3 HT1
  unfold bv
  by_cases hk : kb = 76 ∨ kb = 73
  · have HK := hid trivial
    have BA := (Below.refl w4.heap.size w4).alloc (Nat.le_refl _) (.cells #[.int .i64 0, .slice none 0 0, .slice none 0 0, .slice none 0 0, .slice none 0 0] 79)
    have HR5 := hid (HR4.out.below BA)
    have HD5 := hid (HD4.out.below BA HD4.out.lt)
    have HV5 := hid (nodeB_new w4 (.int .i64 0) (.slice none 0 0) (.slice none 0 0) (.slice none 0 0) (.slice none 0 0))
    have hs5 : w4.heap.size < (w4.alloc (.cells #[.int .i64 0, .slice none 0 0, .slice none 0 0, .slice none 0 0, .slice none 0 0] 79)).heap.size := by simp
    clear BA
    clear HK
    rcases hk with hk | hk
    case' inl =>
      have HIN : Hid (Pr.oldInR kb u4 = (Pr.oldLfR u4).map fun x => ((1, x.1, [], [], []), x.2)) := by show _ = _; unfold Pr.oldInR; rw [if_pos hk]
      rw [HIN.out] at HT4
      clear HIN
      subst hk
      go_wp2_with fail
      refine (unless_yes _).mono ?_
      rintro r w4 ⟨rfl, rfl⟩
      go_wp2_with fail
      generalize w4.alloc (.cells #[.int .i64 0, .slice none 0 0, .slice none 0 0, .slice none 0 0, .slice none 0 0] 79) = w5 at *
      have hnr : rb < w4.heap.size := HD4.out.lt
      generalize w4.heap.size = nb at *
      refine (readOldLeaf_any rb u4 w5 HD5.out hu4).mono ?_
      rintro r w6 ⟨hb6, ⟨hno, rfl⟩ | ⟨kd, il, cl, pl, ml, v, u, hyes, rfl, hv, hr6⟩⟩
      · have HT : Hid (Pr.oldR t = none) := by show _ = _; rw [HT4.out, hno]; rfl
        have HB := hid (HR5.out.but hb6 hrb)
        clear hb6 hno
        unfold gaveUp
        go_wp2_with fail
        exact ⟨rfl, HB.out.2, .inl ⟨HT.out, rfl⟩⟩
      obtain ⟨ia, ic, ka, kc, pa, pc, ma, mc, rfl⟩ := hv.shape
      have HV6 := hid (HV5.out.but hb6 (by omega))
      have HVAR := hid (HV6.out.put (.int .i64 kd) (.slice ia il.length ic) (.slice ka cl.length kc) (.slice pa pl.length pc) (.slice ma ml.length mc))
      have HVAL := hid ((hv.shrink (C := nb + 1) (by omega)).put (b := nb) (by omega) (.int .i64 kd) (.slice ia il.length ic) (.slice ka cl.length kc) (.slice pa pl.length pc) (.slice ma ml.length mc))
      have HRES := hid ((HR5.out.but hb6 hrb).put (nb := nb) (by omega) (.int .i64 kd) (.slice ia il.length ic) (.slice ka cl.length kc) (.slice pa pl.length pc) (.slice ma ml.length mc))
      have HRD := hid (hr6.put (nb := nb) (by omega) (.int .i64 kd) (.slice ia il.length ic) (.slice ka cl.length kc) (.slice pa pl.length pc) (.slice ma ml.length mc))
      rw [hyes] at HT4
      obtain ⟨x0, x1, x2, x3', x4, y0, y1, y2, y3, y4⟩ := HV6.out.cells
      unfold put5 at HVAR HVAL HRES HRD
      clear hb6 hyes hv hr6 HV6
      go_upto_region 9 with fail
      generalize ((((w6.setCell ⟨nb, 0, none⟩ (.int .i64 kd)).setCell ⟨nb, 1, none⟩ (.slice ia il.length ic)).setCell ⟨nb, 2, none⟩ (.slice ka cl.length kc)).setCell ⟨nb, 3, none⟩ (.slice pa pl.length pc)).setCell ⟨nb, 4, none⟩ (.slice ma ml.length mc) = wc at *
      clear HR4 HD4 HR5 HD5 HV5 x0 x1 x2 x3' x4 y0 y1 y2 y3 y4
    case' inr =>
      have HIN : Hid (Pr.oldInR kb u4 = (Pr.oldBrR u4).map fun x => ((2, [], x.1.1, x.1.2.1, x.1.2.2), x.2)) := by show _ = _; unfold Pr.oldInR; rw [if_neg (by rw [hk]; decide), if_pos hk]
      rw [HIN.out] at HT4
      clear HIN
      subst hk
      go_wp2_with fail
      refine (unless_yes _).mono ?_
      rintro r w4 ⟨rfl, rfl⟩
      go_wp2_with fail
      generalize w4.alloc (.cells #[.int .i64 0, .slice none 0 0, .slice none 0 0, .slice none 0 0, .slice none 0 0] 79) = w5 at *
      have hnr : rb < w4.heap.size := HD4.out.lt
      generalize w4.heap.size = nb at *
      refine (readOldBranch_any rb u4 w5 HD5.out hu4).mono ?_
      rintro r w6 ⟨hb6, ⟨hno, rfl⟩ | ⟨kd, il, cl, pl, ml, v, u, hyes, rfl, hv, hr6⟩⟩
      · have HT : Hid (Pr.oldR t = none) := by show _ = _; rw [HT4.out, hno]; rfl
        have HB := hid (HR5.out.but hb6 hrb)
        clear hb6 hno
        unfold gaveUp
        go_wp2_with fail
        exact ⟨rfl, HB.out.2, .inl ⟨HT.out, rfl⟩⟩
      obtain ⟨ia, ic, ka, kc, pa, pc, ma, mc, rfl⟩ := hv.shape
      have HV6 := hid (HV5.out.but hb6 (by omega))
      have HVAR := hid (HV6.out.put (.int .i64 kd) (.slice ia il.length ic) (.slice ka cl.length kc) (.slice pa pl.length pc) (.slice ma ml.length mc))
      have HVAL := hid ((hv.shrink (C := nb + 1) (by omega)).put (b := nb) (by omega) (.int .i64 kd) (.slice ia il.length ic) (.slice ka cl.length kc) (.slice pa pl.length pc) (.slice ma ml.length mc))
      have HRES := hid ((HR5.out.but hb6 hrb).put (nb := nb) (by omega) (.int .i64 kd) (.slice ia il.length ic) (.slice ka cl.length kc) (.slice pa pl.length pc) (.slice ma ml.length mc))
      have HRD := hid (hr6.put (nb := nb) (by omega) (.int .i64 kd) (.slice ia il.length ic) (.slice ka cl.length kc) (.slice pa pl.length pc) (.slice ma ml.length mc))
      rw [hyes] at HT4
      obtain ⟨x0, x1, x2, x3', x4, y0, y1, y2, y3, y4⟩ := HV6.out.cells
      unfold put5 at HVAR HVAL HRES HRD
      clear hb6 hyes hv hr6 HV6
      go_upto_region 9 with fail
      generalize ((((w6.setCell ⟨nb, 0, none⟩ (.int .i64 kd)).setCell ⟨nb, 1, none⟩ (.slice ia il.length ic)).setCell ⟨nb, 2, none⟩ (.slice ka cl.length kc)).setCell ⟨nb, 3, none⟩ (.slice pa pl.length pc)).setCell ⟨nb, 4, none⟩ (.slice ma ml.length mc) = wc at *
      clear HR4 HD4 HR5 HD5 HV5 x0 x1 x2 x3' x4 y0 y1 y2 y3 y4
    all_goals
      by_cases hu : u = []
      · have HC := hid (rend_any rb u wc HRD.out)
        rw [if_pos hu] at HC
        have HT5 : Hid (Pr.oldR t = if Pr.wellT (kd, plain il, cl, lists pl, plainCh ml) = true then some (kd, plain il, cl, lists pl, plainCh ml) else none) := by show _ = _; rw [HT4.out]; simp [hu]
        clear HT4
        obtain ⟨n0, n1, n2, n3, n4, -⟩ := HVAR.out.cells
        go_wp2_with fail
        refine HC.out.mono ?_
        rintro r w7 ⟨rfl, rfl⟩
        go_wp2_with fail
        refine (isNode_any _ kd il (cl.map Int.ofNat) pl ml _ HVAL.out.isNode).mono ?_
        rintro r w8 ⟨rfl, hb8⟩
        have HR8 := hid (HRES.out.below hb8)
        have HV8 := hid (HVAR.out.keep hb8)
        have HU8 := hid (HVAL.out.below hb8)
        rw [show Pg.well kd (plain il) (cl.map Int.ofNat) (lists pl) (plainCh ml) = Pr.wellT (kd, plain il, cl, lists pl, plainCh ml) from rfl]
        clear hb8 n0 n1 n2 n3 n4
        cases hw : Pr.wellT (kd, plain il, cl, lists pl, plainCh ml) with
        | false =>
          have HT : Hid (Pr.oldR t = none) := by show _ = _; rw [HT5.out, hw]; rfl
          clear hw
          go_wp2_with fail
          refine (unless_no _).mono ?_
          rintro r w9 ⟨rfl, rfl⟩
          unfold gaveUp
          go_wp2_with fail
          exact ⟨rfl, HR8.out.2, .inl ⟨HT.out, rfl⟩⟩
        | true =>
          have HT : Hid (Pr.oldR t = some (kd, plain il, cl, lists pl, plainCh ml)) := by show _ = _; rw [HT5.out, hw]; rfl
          clear hw
          obtain ⟨n0, n1, n2, n3, n4, -⟩ := HV8.out.cells
          obtain ⟨r0, r1, r2, r3, r4, y0, y1, y2, y3, y4⟩ := HR8.out.1.cells
          have HEND := hid (node_end HR8.out.2 HT.out HU8.out (by omega))
          obtain ⟨q0, q1, q2, q3, q4⟩ := nodeB_res2 HR8.out.1 (.int .i64 kd) (.slice ia il.length ic) (.slice ka cl.length kc) (.slice pa pl.length pc) (.slice ma ml.length mc)
          unfold put5 at q0 q1 q2 q3 q4
          go_wp2_with fail
          refine (unless_yes _).mono ?_
          rintro r w9 ⟨rfl, rfl⟩
          go_wp2_with fail
          refine bodyPost_ret (v := .agg #[.int .i64 kd, .slice ia il.length ic, .slice ka cl.length kc, .slice pa pl.length pc, .slice ma ml.length mc]) ?_ rfl HEND.out
          simp [results, Tryz.results218, go_sem, q0, q1, q2, q3, q4]
      · have HC := hid (rend_any rb u wc HRD.out)
        rw [if_neg hu] at HC
        have HT5 : Hid (Pr.oldR t = none) := by show _ = _; rw [HT4.out]; simp [hu]
        clear HT4
        go_wp2_with fail
        refine HC.out.mono ?_
        rintro r w7 ⟨rfl, rfl⟩
        unfold gaveUp
        go_wp2_with fail
        exact ⟨rfl, HRES.out.2, .inl ⟨HT5.out, rfl⟩⟩
  · have HCND : Hid (((kb.toNat : Int) == 76 || (kb.toNat : Int) == 73) = false) := by
      show _ = _
      have h1 : ¬ kb.toNat = 76 := fun e => hk (.inl (UInt8.toNat_inj.1 e))
      have h2 : ¬ kb.toNat = 73 := fun e => hk (.inr (UInt8.toNat_inj.1 e))
      simp; omega
    have HT : Hid (Pr.oldR t = none) := by
      show _ = _; rw [HT4.out]; unfold Pr.oldInR; rw [if_neg (fun e => hk (.inl e)), if_neg (fun e => hk (.inr e))]; rfl
    have hd1 : ((kb.toNat : Int) == 76) = false := by
      have h1 : ¬ kb.toNat = 76 := fun e => hk (.inl (UInt8.toNat_inj.1 e))
      simp; omega
    have hd2 : ((kb.toNat : Int) == 73) = false := by
      have h2 : ¬ kb.toNat = 73 := fun e => hk (.inr (UInt8.toNat_inj.1 e))
      simp; omega
    clear hk HCND
    go_wp2_with fail
    refine (unless_no _).mono ?_
    rintro r w5 ⟨rfl, rfl⟩
    unfold gaveUp
    go_wp2_with fail
    exact ⟨rfl, HR4.out.2, .inl ⟨HT.out, rfl⟩⟩
end Go.Proofs.YtolgpnaoaodepaaGreat
/- The walks of pages' Renew and of silt's. -/
namespace Go.Proofs.YtolgpnaoaodepaaGreat
open Go.RowKit
set_option maxHeartbeats 1000000 in
theorem prefixOldLite (t : List UInt8) (w : World) :
    Calls Tryz.prog 243 #[.string ⟨t.toArray⟩, .string ⟨#[83, 49]⟩] w fun r w' => r = .returned (.bool (decide (t.take 2 = [83, 49]))) ∧ w' = w := by
  have hz := size_mk t
  generalize hres : decide (t.take 2 = [83, 49]) = res
  have HR := hid hres
  clear hres
  go_enter Tryz.func243, Tryz.ntmps243
  by_cases h3 : 2 ≤ t.length
  · have hi : (2 : Int) ≤ (t.length : Int) := by omega
    have he := ext_take t 2
    go_wp2_with fail
    go_ret
    refine ⟨?_, rfl⟩
    rw [← HR.out]
    show Ending.returned (.bool (t.take 2 == [83, 49])) = _
    rw [show (t.take 2 == [83, 49]) = decide (t.take 2 = [83, 49]) from Bool.eq_iff_iff.2 (by simp)]
  · have hi : ¬ (2 : Int) ≤ (t.length : Int) := by omega
    have HF : Hid (res = false) := by
      show _ = _; rw [← HR.out]; exact decide_eq_false fun e => by have := congrArg List.length e; rw [List.length_take] at this; simp at this; omega
    go_wp2_with fail
    go_ret
    exact ⟨by rw [HF.out]; rfl, rfl⟩
set_option maxHeartbeats 1000000 in
theorem prefixOld_any (t : List UInt8) (w : World) :
    Calls Tryz.prog 199 #[.string ⟨t.toArray⟩, .string ⟨#[83, 49]⟩] w fun r w' => r = .returned (.bool (decide (t.take 2 = [83, 49]))) ∧ w' = w := by
  have HC := hid (prefixOldLite t w)
  generalize decide (t.take 2 = [83, 49]) = res at *
  go_enter Tryz.func199, Tryz.ntmps199
  go_wp2_with fail
  refine HC.out.mono ?_
  rintro r w1 ⟨rfl, rfl⟩
  go_wp2_with fail
  go_ret
  exact ⟨rfl, rfl⟩
def renewEnd (o : Option (List UInt8)) : Ending := match o with
  | none => gaveUp
  | some s => .returned (.string ⟨s.toArray⟩)
def renewS (o : Option (List UInt8)) : ByteArray := match o with
  | none => ⟨#[]⟩
  | some s => ⟨s.toArray⟩
def renewE (o : Option (List UInt8)) : Int := match o with
  | none => 2
  | some _ => 0
theorem oldR_well {t : List UInt8} {n : Pr.NodeT} (h : Pr.oldR t = some n) : Pr.wellT n = true := by
  unfold Pr.oldR at h
  cases h1 : Pr.unsealR t with
  | none => rw [h1] at h; simp at h
  | some b =>
    rw [h1] at h; simp only [Option.bind_some] at h
    cases h2 : Pr.takeR 2 b with
    | none => rw [h2] at h; simp at h
    | some a =>
      rw [h2] at h; simp only [Option.bind_some] at h
      cases h3 : Pr.byteR a.2 with
      | none => rw [h3] at h; simp at h
      | some k =>
        rw [h3] at h; simp only [Option.bind_some] at h
        cases h4 : Pr.oldInR k.1 k.2 with
        | none => rw [h4] at h; simp at h
        | some x =>
          rw [h4] at h; simp only [Option.bind_some] at h
          split at h
          · rename_i hw
            simp only [Option.some.injEq] at h
            rw [← h]; exact hw.2
          · simp at h
set_option maxHeartbeats 1000000 in
set_option maxRecDepth 20000 in
theorem pagesRenew_any (t : List UInt8) (w : World) (ht : t.length ≤ 10000000) :
    Calls Tryz.prog 158 #[.string ⟨t.toArray⟩] w fun r w' => r = renewEnd (Pr.renewR t) ∧ Below w.heap.size w w' := by
  have HRN : Hid (Pr.renewR t = if t.take 2 = [83, 49] then (Pr.oldR t).map Pr.pageT else (Pr.readR t).map Pr.pageT) := rfl
  go_enter Tryz.func158, Tryz.ntmps158
  go_wp2_with fail
  refine (prefixOld_any t w).mono ?_
  rintro r w ⟨rfl, rfl⟩
  by_cases hp : t.take 2 = [83, 49]
  · rw [decide_eq_true hp]
    rw [if_pos hp] at HRN
    clear hp
    go_wp2_with fail
    refine (readOld_any t w ht).mono ?_
    rintro r w1 ⟨hb1, ⟨hn, rfl⟩ | ⟨kd, il, cl, pl, ml, v, hs, rfl, hv⟩⟩
    · have HE : Hid (renewEnd (Pr.renewR t) = gaveUp) := by show _ = _; rw [HRN.out, hn]; rfl
      have HB := hid hb1
      clear hb1 hn
      unfold gaveUp at *
      go_wp2_with fail
      exact ⟨rfl, HE.out.symm, HB.out⟩
    · have hw := oldR_well hs
      have HCW := hid (pagesWrite_any v kd il (cl.map Int.ofNat) pl ml w1 hv.isNode hw)
      rw [show Pg.page kd (plain il) (cl.map Int.ofNat) (lists pl) (plainCh ml) = Pr.pageT (kd, plain il, cl, lists pl, plainCh ml) from rfl] at HCW
      have HE : Hid (renewEnd (Pr.renewR t) = .returned (.string ⟨(Pr.pageT (kd, plain il, cl, lists pl, plainCh ml)).toArray⟩)) := by show _ = _; rw [HRN.out, hs]; rfl
      have HB := hid hb1
      obtain ⟨ia, ic, ka, kc, pa, pc, ma, mc, rfl⟩ := hv.shape
      clear hb1 hs hv hw
      go_wp2_with fail
      refine HCW.out.mono ?_
      rintro r w2 ⟨rfl, hb2⟩
      have HB2 := hid (HB.out.trans (hb2.mono HB.out.size))
      clear hb2
      go_wp2_with fail
      go_ret
      exact ⟨HE.out.symm, HB2.out⟩
  · rw [decide_eq_false hp]
    rw [if_neg hp] at HRN
    clear hp
    go_wp2_with fail
    refine (pagesRead_any t w).mono ?_
    rintro r w1 ⟨hb1, ⟨hn, rfl⟩ | ⟨kd, il, cl, pl, ml, v, hs, rfl, hv⟩⟩
    · have HE : Hid (renewEnd (Pr.renewR t) = gaveUp) := by show _ = _; rw [HRN.out, hn]; rfl
      have HB := hid hb1
      clear hb1 hn
      unfold gaveUp at *
      go_wp2_with fail
      exact ⟨rfl, HE.out.symm, HB.out⟩
    · have hw := (Pr.readR_is hs).1
      have HCW := hid (pagesWrite_any v kd il (cl.map Int.ofNat) pl ml w1 hv.isNode hw)
      rw [show Pg.page kd (plain il) (cl.map Int.ofNat) (lists pl) (plainCh ml) = Pr.pageT (kd, plain il, cl, lists pl, plainCh ml) from rfl] at HCW
      have HE : Hid (renewEnd (Pr.renewR t) = .returned (.string ⟨(Pr.pageT (kd, plain il, cl, lists pl, plainCh ml)).toArray⟩)) := by show _ = _; rw [HRN.out, hs]; rfl
      have HB := hid hb1
      obtain ⟨ia, ic, ka, kc, pa, pc, ma, mc, rfl⟩ := hv.shape
      clear hb1 hs hv hw
      go_wp2_with fail
      refine HCW.out.mono ?_
      rintro r w2 ⟨rfl, hb2⟩
      have HB2 := hid (HB.out.trans (hb2.mono HB.out.size))
      clear hb2
      go_wp2_with fail
      go_ret
      exact ⟨HE.out.symm, HB2.out⟩
set_option maxHeartbeats 1000000 in
theorem renewLit_any (b : Nat) (t : List UInt8) (w : World) (hc : w.cell? ⟨b, 0, none⟩ = some (.string ⟨t.toArray⟩)) (ht : t.length ≤ 10000000) :
    Calls Tryz.prog 157 #[.pointer (some ⟨b, 0, none⟩)] w fun r w' => r = renewEnd (Pr.renewR t) ∧ Below w.heap.size w w' := by
  go_enter Tryz.func157, Tryz.ntmps157
  go_wp2_with fail
  refine (pagesRenew_any t w ht).mono ?_
  rintro r w1 ⟨rfl, hb1⟩
  have HB1 := hid hb1
  clear hb1
  cases hd : Pr.renewR t with
  | none =>
    have HE : Hid (renewEnd (Pr.renewR t) = gaveUp) := by show _ = _; rw [hd]; rfl
    rw [show renewEnd none = gaveUp from rfl]
    clear hd
    unfold gaveUp at *
    go_wp2_with fail
    exact ⟨rfl, HE.out.symm, HB1.out⟩
  | some s =>
    have HE : Hid (renewEnd (Pr.renewR t) = .returned (.string ⟨s.toArray⟩)) := by show _ = _; rw [hd]; rfl
    rw [show renewEnd (some s) = .returned (.string ⟨s.toArray⟩) from rfl]
    clear hd
    go_wp2_with fail
    go_ret
    exact ⟨HE.out.symm, HB1.out⟩
set_option maxHeartbeats 1000000 in
theorem renewCatch_any (b : Nat) (t : List UInt8) (w : World) (hb : b < w.heap.size) (hc : w.cell? ⟨b, 0, none⟩ = some (.string ⟨t.toArray⟩)) (ht : t.length ≤ 10000000) :
    Calls Tryz.prog 148 #[.func (.func 157) #[] #[.pointer (some ⟨b, 0, none⟩)]] w fun r w' => r = .returned (.tuple #[.string (renewS (Pr.renewR t)), .int .i64 (renewE (Pr.renewR t))]) ∧ Below w.heap.size w w' := by
  have hmf : ∀ (fn : Fn) (first cap : Array Value) (w : World), (Instr.makeFunc fn first cap).run Tryz.prog w = .ok (.func fn first cap) w := fun _ _ _ _ => rfl
  go_enter_defers Tryz.func148, Tryz.ntmps148
  go_wp2_with fail
  refine (renewLit_any b t _ (by rw [World.cell?_alloc_past _ _ _ hb]; exact hc) ht).mono ?_
  rintro r w1 ⟨rfl, hb1⟩
  have hce : w1.cell? ⟨w.heap.size, 0, none⟩ = some (.int .i64 0) := by rw [hb1.cell (by simp)]; simp
  have hfz : w1.frozen? ⟨w.heap.size, 0, none⟩ = false := by rw [hb1.frozen (by simp)]; simp
  have hlt : w.heap.size < w1.heap.size := by have := hb1.size; simp at this; omega
  have HB1 := hid (((Below.refl w.heap.size w).alloc (Nat.le_refl _) (.cells #[.int .i64 0] 36)).trans (hb1.mono (by simp)))
  clear hb1
  cases hd : Pr.renewR t with
  | none =>
    have he : renewEnd none = gaveUp := rfl
    have HS : Hid (renewS (Pr.renewR t) = ⟨#[]⟩ ∧ renewE (Pr.renewR t) = 2) := by rw [hd]; exact ⟨rfl, rfl⟩
    rw [he]
    clear hd he
    unfold gaveUp
    go_wp2_with fail
    refine leaves_cons (f := 204) (args := #[.pointer (some ⟨w.heap.size, 0, none⟩)]) (by simp) (by simp [go_sem]) ?_
    refine (catch_panicking w.heap.size 0 [] _ hce hfz hlt).mono ?_
    rintro e u' w'' ⟨rfl, rfl, rfl⟩
    rw [HS.out.1, HS.out.2]
    have HBF := hid ((HB1.out.setCell (p := ⟨w.heap.size, 0, none⟩) (Nat.le_refl _) (.int .i64 2)).alloc (by simp; omega) (.cells #[] 148))
    have hx : ((w1.setCell ⟨w.heap.size, 0, none⟩ (.int .i64 2)).alloc (.cells #[] 148)).cell? ⟨w.heap.size, 0, none⟩ = some (.int .i64 2) := by
      rw [World.cell?_alloc_past _ _ _ (by simp; omega)]; exact World.cell?_setCell_same _ _ _ hce
    simp [Leaves, settle, results, Tryz.results148, go_sem, hx]
    exact HBF.out
  | some s =>
    have he : renewEnd (some s) = .returned (.string ⟨s.toArray⟩) := rfl
    have HS : Hid (renewS (Pr.renewR t) = ⟨s.toArray⟩ ∧ renewE (Pr.renewR t) = 0) := by rw [hd]; exact ⟨rfl, rfl⟩
    rw [he]
    clear hd he
    go_wp2_with fail
    refine leaves_cons (f := 204) (args := #[.pointer (some ⟨w.heap.size, 0, none⟩)]) (by simp) (by simp [go_sem]) ?_
    refine (catch_idle ⟨w.heap.size, 0, none⟩ _).mono ?_
    rintro e u' w'' ⟨rfl, rfl, rfl⟩
    rw [HS.out.1, HS.out.2]
    have hx : (w1.setCell ⟨w.heap.size, 0, none⟩ (.int .i64 0)).cell? ⟨w.heap.size, 0, none⟩ = some (.int .i64 0) := World.cell?_setCell_same _ _ _ hce
    simp [Leaves, settle, results, Tryz.results148, go_sem, hx]
    exact HB1.out.setCell (p := ⟨w.heap.size, 0, none⟩) (Nat.le_refl _) _
set_option maxHeartbeats 1000000 in
theorem siltRenew_any (t : List UInt8) (w : World) (ht : t.length ≤ 10000000) :
    Calls Tryz.prog 107 #[.string ⟨t.toArray⟩] w fun r w' => r = .returned (.tuple #[.string (renewS (Pr.renewR t)), .int .i64 (renewE (Pr.renewR t))]) ∧ Below w.heap.size w w' := by
  have hmf : ∀ (fn : Fn) (first cap : Array Value) (w : World), (Instr.makeFunc fn first cap).run Tryz.prog w = .ok (.func fn first cap) w := fun _ _ _ _ => rfl
  go_enter Tryz.func107, Tryz.ntmps107
  go_wp2_with fail
  refine (renewCatch_any w.heap.size t _ (by simp) (by simp) ht).mono ?_
  rintro r w1 ⟨rfl, hb1⟩
  have HB1 := hid (((Below.refl w.heap.size w).alloc (Nat.le_refl _) _).trans (hb1.mono (by simp)))
  clear hb1
  go_wp2_with fail
  go_ret2
  exact ⟨rfl, HB1.out⟩
end Go.Proofs.YtolgpnaoaodepaaGreat
