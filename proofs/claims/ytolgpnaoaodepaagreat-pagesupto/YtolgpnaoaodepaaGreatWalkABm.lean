/- The walk of pages' readLeafHead. -/
import Derived.Test.YtolgpnaoaodepaaGreatWalkYm
import Derived.Test.YtolgpnaoaodepaaGreatMathIm
namespace Go.Proofs.YtolgpnaoaodepaaGreat
open Go.RowKit

theorem rshort_yes (b : Nat) (t : List UInt8) (w : World) (hr : Rd w b t) {x : Nat} {u : List UInt8} (h : Pr.shortR t = some (x, u)) : Calls Tryz.prog 247 #[.pointer (some ⟨b, 0, none⟩)] w fun r w' => r = .returned (.int .i64 (x : Int)) ∧ Rd w' b u ∧ But b w w' := (rshort_any b t w hr).mono fun _ _ q => rdq_yes (f := nv) q h
theorem rbyte_yes (b : Nat) (t : List UInt8) (w : World) (hr : Rd w b t) {x : UInt8} {u : List UInt8} (h : Pr.byteR t = some (x, u)) : Calls Tryz.prog 246 #[.pointer (some ⟨b, 0, none⟩)] w fun r w' => r = .returned (.int .u8 (x.toNat : Int)) ∧ Rd w' b u ∧ But b w w' := (rbyte_any b t w hr).mono fun _ _ q => rdq_yes (f := bv) q h
theorem rtake_yes (b n : Nat) (t : List UInt8) (w : World) (hr : Rd w b t) {x u : List UInt8} (h : Pr.takeR n t = some (x, u)) : Calls Tryz.prog 245 #[.pointer (some ⟨b, 0, none⟩), .int .i64 n] w fun r w' => r = .returned (.string ⟨x.toArray⟩) ∧ Rd w' b u ∧ But b w w' := (rtake_any b n t w hr).mono fun _ _ q => rdq_yes (f := sv) q h
theorem rtake_no (b n : Nat) (t : List UInt8) (w : World) (hr : Rd w b t) (h : Pr.takeR n t = none) : Calls Tryz.prog 245 #[.pointer (some ⟨b, 0, none⟩), .int .i64 n] w fun r w' => r = gaveUp ∧ But b w w' := (rtake_any b n t w hr).mono fun _ _ q => rdq_no q h
theorem LHd.but {B b c : Nat} {w wr wx : World} {ss : List Nat} {fs : List ByteArray} {vs vf : Value} (h : LHd B b w wr ss fs vs vf) (hb : But c wr wx) (h1 : B ≤ c) (h2 : c < b) : LHd B b w wx ss fs vs vf := by
  have hl := h.lt; have hle := h.le; have hs := hb.size
  exact ⟨(hb.block b (by omega) (by simp; omega)).trans h.var, row_but h.szs hb (by omega), row_but h.fst hb (by omega), h.apart, but_to_below h.bel hb h1 (by omega), hle, by omega⟩
theorem LHd.setOther {B b c i : Nat} {w wr : World} {ss : List Nat} {fs : List ByteArray} {vs vf : Value} (h : LHd B b w wr ss fs vs vf) (h1 : B ≤ c) (h2 : c < b) (u : Value) : LHd B b w (wr.setCell ⟨c, i, none⟩ u) ss fs vs vf := h.but (but_set c i wr u) h1 h2
theorem Rd.setOther {w : World} {b c i : Nat} {t : List UInt8} (h : Rd w b t) (hne : b ≠ c) (u : Value) : Rd (w.setCell ⟨c, i, none⟩ u) b t := (Below.heap_setCell _ _ _ _ (by simpa using hne)).trans h
/-- append(v, n), n a number that lies in a block of its own, as a step of a region that draws. -/
theorem stepApN (w : World) {ops : Array Oper} {o : Oper} {a : Act} {K : Act → World → Prop} {Q : Exit → Act → World → Prop} {E : Prop} (hgd : o.guard = none) (sl x : Operand)
    (ho : o.op = Op.call { callee := Callee.builtin Builtin.append, args := #[sl, x], argTypes := #[25, 25] }) (B : Nat) (v : Value) (l : List Nat) (hs : a.eval sl = v) (hown : w.ownsRow B 3 1 v l.length (ncells l))
    (n : Nat) (g : Nat) (hx : a.eval x = .slice (some ⟨g, 0, none⟩) 1 1) (hcell : w.cell? ⟨g, 0, none⟩ = some (.int .i64 (n : Int))) (hb : l.length + 1 ≤ 1000000000) (hB : B ≤ w.heap.size)
    (h : ∀ (v' : Value) (w' : World), w'.ownsRow B 3 1 v' (l.length + 1) (ncells l ++ [.int .i64 (n : Int)]) → w.grownBy w' v.ownBlock → (v'.ownBlock = v.ownBlock ∨ ∃ k, w.heap.size ≤ k ∧ v'.ownBlock = some k) → K (a.put o.dst v') w') : if Region.wanted o (yielded ops a.tmps) = true then Oper.wp Tryz.prog o a w K Q else E := by
  have hw : Region.wanted o (yielded ops a.tmps) = true := by simp [Region.wanted, hgd]
  rw [if_pos hw]
  obtain ⟨i, hi, hz0, hz1, hz2⟩ := info_parts info_int
  obtain ⟨v', w', hrun, ho', hg, _, hat⟩ := run_append_own_at (P := Tryz.prog) w B 25 o.type 3 i (.int .i64 0) 1 8 Tryz.underlying25 hi hz0 hz1 hz2 rfl (by decide) v l.length (ncells l) hown ⟨g, 0, none⟩ 1 1 [.int .i64 (n : Int)] rfl (fun j u hj => by
    match j, hj with
    | 0, hj => simp at hj; subst hj; simpa [Addr.add] using hcell) (by intro u hu; simp at hu; subst hu; rfl) (by unfold maxLen; omega) (by omega) hB
  have hK : K (a.put o.dst v') w' := h v' w' ho' hg (hat.imp_right fun e => ⟨w.heap.size, Nat.le_refl _, e⟩)
  unfold Oper.wp
  simp [execOp, ho, resolve, invoke, builtin, hs, hx, hrun, Result.andThen]
  exact hK
/-- What readLeafHead ends in. -/
def HeadQ (w : World) (o : Option (List Nat × List (List UInt8))) (r : Ending) (w' : World) : Prop := Below w.heap.size w w' ∧ ((o = none ∧ r = gaveUp) ∨ ∃ ss fs v, o = some (ss, lists fs) ∧ r = .returned v ∧ IsLH w' v ss fs ∧ ss.length = fs.length ∧ fs.length ≤ 4 ∧ ∀ f ∈ fs, f.size ≤ 12)
/-- The result's cell, as yet empty. -/
def Res0 (w : World) (b : Nat) : Prop := w.heap[b]? = some (.cells #[.slice none 0 0, .slice none 0 0] 233 (0, 0))
theorem Res0.cells {w : World} {b : Nat} (h : Res0 w b) : w.cell? ⟨b, 0, none⟩ = some (.slice none 0 0) ∧ w.cell? ⟨b, 1, none⟩ = some (.slice none 0 0) ∧ w.frozen? ⟨b, 0, none⟩ = false ∧ w.frozen? ⟨b, 1, none⟩ = false := by
  unfold Res0 at h; refine ⟨?_, ?_, ?_, ?_⟩ <;> simp [World.cell?, World.frozen?, h]
theorem Res0.but {w w' : World} {b c : Nat} (h : Res0 w b) (hb : But c w w') (hne : b ≠ c) : Res0 w' b := (hb.block b ((Array.getElem?_eq_some_iff.1 h).1) (by simpa using hne)).trans h
theorem Res0.below {w w' : World} {b B : Nat} (h : Res0 w b) (hb : Below B w w') (hlt : b < B) : Res0 w' b := (hb.block b hlt).trans h

set_option maxHeartbeats 4000000 in
set_option maxRecDepth 20000 in
theorem leafHead_any (t : List UInt8) (w : World) :
    Calls Tryz.prog 214 #[.string ⟨t.toArray⟩] w fun r w' => HeadQ w (Pr.headR t) r w' := by
  go_enter Tryz.func214, Tryz.ntmps214
  go_wp2_with fail
  have HRS : Hid (Res0 (w.alloc (.cells #[.slice none 0 0, .slice none 0 0] 233)) w.heap.size) := heap_alloc_new _ _
  have HB0 := hid ((Below.refl w.heap.size w).alloc (Nat.le_refl _) (.cells #[.slice none 0 0, .slice none 0 0] 233))
  have hs0 : w.heap.size < (w.alloc (.cells #[.slice none 0 0, .slice none 0 0] 233)).heap.size := by simp
  refine (newReader_any t _).mono ?_
  rintro r w1 ⟨rfl, rfl⟩
  generalize w.alloc (.cells #[.slice none 0 0, .slice none 0 0] 233) = w0 at *
  have HR1 := hid (rd_new w0 t)
  have HB1 := hid (HB0.out.alloc (by omega) (.cells #[.string ⟨t.toArray⟩] 298))
  have HRS1 := hid (HRS.out.below ((Below.refl w0.heap.size w0).alloc (Nat.le_refl _) (.cells #[.string ⟨t.toArray⟩] 298)) hs0)
  have hs1 : w0.heap.size < (w0.alloc (.cells #[.string ⟨t.toArray⟩] 298)).heap.size := by simp
  generalize w0.alloc (.cells #[.string ⟨t.toArray⟩] 298) = w1 at *
  clear HRS HB0
  cases ht : Pr.takeR 68 t with
  | none =>
    have HT : Hid (Pr.headR t = none) := by show _ = _; unfold Pr.headR; rw [ht]; rfl
    have HC := hid (rtake_no w0.heap.size 68 t w1 HR1.out ht)
    clear ht
    go_wp2_with fail
    refine HC.out.mono ?_
    rintro r w2 ⟨rfl, hb2⟩
    have HB2 := hid (but_to_below HB1.out hb2 (by omega) (by omega))
    clear hb2
    unfold gaveUp
    go_wp2_with fail
    exact ⟨rfl, HB2.out, .inl ⟨HT.out, rfl⟩⟩
  | some fu =>
    obtain ⟨f, fr⟩ := fu
    have hfl : f.length ≤ 68 ∧ 68 ≤ f.length := by have := (Pr.takeR_len ht).1; omega
    have HT : Hid (Pr.headR t = (Pr.takeR 3 f).bind fun a => (Pr.byteR a.2).bind fun c => if 4 < c.1.toNat then none else (Pr.entsR c.1.toNat c.2).bind fun r => if Pg.okPivots r.2 none = true then (if Pg.headW r.1 r.2 = f then some r else none) else none) := by show _ = _; unfold Pr.headR; rw [ht]; rfl
    have HC := hid (rtake_yes w0.heap.size 68 t w1 HR1.out ht)
    clear ht
    go_wp2_with fail
    refine HC.out.mono ?_
    rintro r w2 ⟨rfl, -, hb2⟩
    have HB2 := hid (but_to_below HB1.out hb2 (by omega) (by omega))
    have HRS2 := hid (HRS1.out.but hb2 (by omega))
    have hs2 := hb2.size
    clear hb2 HC HR1 HRS1 HB1
    go_wp2_with fail
    refine (newReader_any f _).mono ?_
    rintro r w3 ⟨rfl, rfl⟩
    have HR3 := hid (rd_new w2 f)
    have HB3 := hid (HB2.out.alloc (by omega) (.cells #[.string ⟨f.toArray⟩] 298))
    have HRS3 := hid (HRS2.out.below ((Below.refl w2.heap.size w2).alloc (Nat.le_refl _) (.cells #[.string ⟨f.toArray⟩] 298)) (by omega))
    have hs3 : w2.heap.size < (w2.alloc (.cells #[.string ⟨f.toArray⟩] 298)).heap.size := by simp
    generalize w2.alloc (.cells #[.string ⟨f.toArray⟩] 298) = w3 at *
    generalize w2.heap.size = rb at *
    clear HB2 HRS2
    obtain ⟨m3, q3, h3⟩ : ∃ m3 q3, Pr.takeR 3 f = some (m3, q3) := ⟨_, _, Pr.takeR_yes (by omega)⟩
    have hq3 : q3.length ≤ 65 ∧ 65 ≤ q3.length := by
      obtain ⟨e1, e2⟩ := Pr.takeR_len h3
      have : f.length = m3.length + q3.length := by rw [e2, List.length_append]
      omega
    have HT3 : Hid (Pr.headR t = (Pr.byteR q3).bind fun c => if 4 < c.1.toNat then none else (Pr.entsR c.1.toNat c.2).bind fun r => if Pg.okPivots r.2 none = true then (if Pg.headW r.1 r.2 = f then some r else none) else none) := by show _ = _; rw [HT.out, h3]; rfl
    have HC := hid (rtake_yes rb 3 f w3 HR3.out h3)
    clear h3 HT
    go_wp2_with fail
    refine HC.out.mono ?_
    rintro r w4 ⟨rfl, hr4, hb4⟩
    have HB4 := hid (but_to_below HB3.out hb4 (by omega) (by omega))
    have HRS4 := hid (HRS3.out.but hb4 (by omega))
    have hs4 := hb4.size
    obtain ⟨cb, q4, h4⟩ : ∃ cb q4, Pr.byteR q3 = some (cb, q4) := by
      match q3, hq3 with
      | a :: r, _ => exact ⟨a, r, rfl⟩
    have hq4 : q4.length ≤ 64 ∧ 64 ≤ q4.length := by
      have e := Pr.byteR_len h4
      have : q3.length = q4.length + 1 := by rw [e]; rfl
      omega
    have HT4 : Hid (Pr.headR t = if 4 < cb.toNat then none else (Pr.entsR cb.toNat q4).bind fun r => if Pg.okPivots r.2 none = true then (if Pg.headW r.1 r.2 = f then some r else none) else none) := by show _ = _; rw [HT3.out, h4]; rfl
    have HC2 := hid (rbyte_yes rb q3 w4 hr4 h4)
    have hcb : cb.toNat < 256 := cb.toNat_lt
    clear h4 HT3 hb4 hr4 HC HB3 HRS3 HR3
    go_wp2_with fail
    refine HC2.out.mono ?_
    rintro r w5 ⟨rfl, hr5, hb5⟩
    have HB5 := hid (but_to_below HB4.out hb5 (by omega) (by omega))
    have HRS5 := hid (HRS4.out.but hb5 (by omega))
    have HR5 := hid hr5
    have hs5 := hb5.size
    generalize cb.toNat = n at *
    clear hb5 hr5 HC2 HB4 HRS4
    by_cases hn4 : 4 < n
    · rw [if_pos hn4] at HT4
      have hd : decide ((n : Int) ≤ 4) = false := by simp; omega
      go_wp2_with fail
      refine (unless_no _).mono ?_
      rintro r w6 ⟨rfl, rfl⟩
      unfold gaveUp
      go_wp2_with fail
      exact ⟨rfl, HB5.out, .inl ⟨HT4.out, rfl⟩⟩
    · rw [if_neg hn4] at HT4
      have hd : decide ((n : Int) ≤ 4) = true := by simp; omega
      go_wp2_with fail
      refine (unless_yes _).mono ?_
      rintro r w6 ⟨rfl, rfl⟩
      have HLS := hid (lhd_start w.heap.size w w6 HB5.out (by omega))
      have HRD := hid (HR5.out.below ((Below.refl w6.heap.size w6).alloc (Nat.le_refl _) (.cells #[.slice none 0 0, .slice none 0 0] 233)) HR5.out.lt)
      have HRS6 := hid (HRS5.out.below ((Below.refl w6.heap.size w6).alloc (Nat.le_refl _) (.cells #[.slice none 0 0, .slice none 0 0] 233)) (by omega))
      have hrl := HR5.out.lt
      clear hd
      go_wp2_with fail
      generalize w6.alloc (.cells #[.slice none 0 0, .slice none 0 0] 233) = w7 at *
      have hhb : rb < w6.heap.size ∧ w.heap.size < rb := by omega
      generalize w6.heap.size = hb at *
      clear HR5 HB5 HRS5 hs0 hs1 hs2 hs3 hs4 hs5 hrl
      go_loopw [23] (fun i wr => ∃ (k : Nat) (q : List UInt8) (ss : List Nat) (fs : List ByteArray) (vs vf : Value), k ≤ n ∧ i = .int .i64 k ∧ q.length + 15 * k = 64 ∧ Rd wr rb q ∧ LHd w.heap.size hb w wr ss fs vs vf ∧ Res0 wr w.heap.size ∧ ss.length = k ∧ fs.length = k ∧ (∀ f ∈ fs, f.size ≤ 12) ∧ (Pr.entsR (n - k) q).map (fun r => (ss ++ r.1, lists fs ++ r.2)) = Pr.entsR n q4) (fun i _ => n - (intOf i).toNat)
      case atStart => exact ⟨0, q4, [], [], _, _, Nat.zero_le _, rfl, by omega, HRD.out, HLS.out, HRS6.out, rfl, rfl, by simp, by simp [lists]⟩
      case round =>
        clear HRD HLS HRS6
        obtain ⟨k, q, ss, fs, vs, vf, hk, rfl, hql, hr, hlh, hres, hss, hfs, hf12, heq⟩ := hrel
        have HQL := hid hql
        have hq19 : q.length ≤ 64 ∧ (k < n → 19 ≤ q.length) := by omega
        have HR := hid hr
        have HLH := hid hlh
        have HRS := hid hres
        have HSS := hid hss
        have HFS := hid hfs
        have HF12 := hid hf12
        have HEQ := hid heq
        have hszr := hlh.lt
        have hssk : ss.length ≤ 4 ∧ fs.length ≤ 4 := by omega
        obtain ⟨d0, d1, z0, z1⟩ := hlh.cells
        obtain ⟨sa, sc, rfl⟩ := rowShape hlh.szs
        obtain ⟨fa, fc, rfl⟩ := hlh.fst.shape
        clear hql hr hlh hres hss hfs hf12 heq
        by_cases hkn : k < n
        · obtain ⟨m, hm⟩ : ∃ m, n - k = m + 1 := ⟨n - k - 1, by omega⟩
          have HMK : Hid (m = n - (k + 1)) := by show _ = _; omega
          obtain ⟨sx, q5, h5⟩ : ∃ sx q5, Pr.shortR q = some (sx, q5) := by
            unfold Pr.shortR; rw [Pr.takeR_yes (by omega)]; exact ⟨_, _, rfl⟩
          have hq5 : q5.length + 2 = q.length := by
            unfold Pr.shortR at h5
            rw [Pr.takeR_yes (by omega)] at h5
            simp only [Option.map_some, Option.some.injEq, Prod.mk.injEq] at h5
            rw [← h5.2, List.length_drop]; omega
          obtain ⟨lb, q6, h6⟩ : ∃ lb q6, Pr.byteR q5 = some (lb, q6) := by
            match q5, hq5 with
            | a :: r, _ => exact ⟨a, r, rfl⟩
            | [], h => simp at h; omega
          have hq6 : q6.length + 1 = q5.length := by rw [Pr.byteR_len h6]; rfl
          obtain ⟨pd, q7, h7⟩ : ∃ pd q7, Pr.takeR 12 q6 = some (pd, q7) := ⟨_, _, Pr.takeR_yes (by omega)⟩
          have hpd : pd.length ≤ 12 ∧ 12 ≤ pd.length := by have := (Pr.takeR_len h7).1; omega
          have hq7 : q7.length + 15 = q.length := by
            obtain ⟨e1, e2⟩ := Pr.takeR_len h7
            have : q6.length = pd.length + q7.length := by rw [e2, List.length_append]
            omega
          have HNX : Hid (Pr.entsR (n - k) q = if 12 < lb.toNat then none else (Pr.entsR m q7).map fun r => (sx :: r.1, pd.take lb.toNat :: r.2)) := by
            show _ = _; rw [hm, Pr.entsR, h5]; simp only [Option.bind_some]; rw [h6]; simp only [Option.bind_some]; rw [h7]; rfl
          have HC1 := hid (fun W hW => rshort_yes rb q W hW h5)
          have HC2 := hid (fun W hW => rbyte_yes rb q5 W hW h6)
          have HC3 := hid (fun W hW => rtake_yes rb 12 q6 W hW h7)
          have hlb : lb.toNat < 256 := lb.toNat_lt
          have HQ7 : Hid (q7.length + 15 * (k + 1) = 64) := by have := HQL.out; show _ = _; omega
          clear h5 h6 h7 hm hq5 hq6 hq7 hq19
          go_wp2_with fail
          go_region_law (first
            | (refine stepApN _ (by rfl) (.tmp 26) (.tmp 29) (by rfl) (hb + 1) (.slice sa ss.length sc) ss (by simp [Act.eval]) HLH9.out.szs sx w8.heap.size (by simp [Act.eval]) HCE.out (by omega) HLH9.out.lt ?_
               intro v10 w10 ho10 hg10 hat10
               obtain ⟨a10, c10, rfl⟩ := rowShape ho10
               have HA := hid (HLH9.out.apN ho10 hg10 hat10)
               obtain ⟨e0, e1, y0, y1⟩ := HLH9.out.mid HA.out.1
               have HR10 := hid ((HR9.out.below HA.out.1 (by omega)).setOther (c := hb) (i := 0) (by omega) (.slice a10 (ss.length + 1) c10))
               have HRS10 := hid ((HRS9.out.below HA.out.1 (by omega)).but (but_set hb 0 _ (.slice a10 (ss.length + 1) c10)) (by omega))
               clear ho10 hg10 hat10)
            | (go_simp
               refine (HC1.out (World.drew wr) HR.out).mono ?_
               rintro r w8 ⟨rfl, hr8, hb8⟩
               have HLH8 := hid (HLH.out.but (but_drew hb8) (by omega) (by omega))
               obtain ⟨g0, g1, x0, x1⟩ := HLH8.out.cells
               have BAL := (Below.refl w8.heap.size w8).alloc (Nat.le_refl _) (.cells #[.int .i64 (sx : Int)] 3)
               have HLH9 := hid (HLH8.out.below BAL)
               have HR9 := hid (hr8.below BAL hr8.lt)
               have HRS9 := hid ((HRS.out.but (but_drew hb8) (by omega)).below BAL (by have h1 := (but_drew hb8).size; omega))
               have HCE : Hid ((w8.alloc (.cells #[.int .i64 (sx : Int)] 3)).cell? ⟨w8.heap.size, 0, none⟩ = some (.int .i64 (sx : Int))) := by show _ = _; simp
               obtain ⟨k0, k1, j0, j1⟩ := HLH9.out.cells
               clear hr8 hb8 BAL))
          all_goals
            have HH := hid HA.out.2
            clear HA HLH HR HRS
            generalize w10.setCell ⟨hb, 0, none⟩ (.slice a10 (ss.length + 1) c10) = w11 at *
            go_wp2_with fail
            refine (HC2.out w11 HR10.out).mono ?_
            rintro r w12 ⟨rfl, hr12, hb12⟩
            have HH12 := hid (HH.out.but hb12 (by omega) (by omega))
            have HRS12 := hid (HRS10.out.but hb12 (by omega))
            have HR12 := hid hr12
            clear hr12 hb12 HH HR10 HRS10 HC2
            generalize lb.toNat = ln at *
            go_wp2_with fail
            refine (HC3.out w12 HR12.out).mono ?_
            rintro r w13 ⟨rfl, hr13, hb13⟩
            have HH13 := hid (HH12.out.but hb13 (by omega) (by omega))
            have HRS13 := hid (HRS12.out.but hb13 (by omega))
            have HR13 := hid hr13
            have hs13 := HH13.out.lt
            clear hr13 hb13 HH12 HR12 HRS12 HC3 HC1
            have hzp := size_mk pd
            by_cases hl12 : 12 < ln
            · rw [if_pos hl12] at HNX
              have HF : Hid (Pr.headR t = none) := by show _ = _; rw [HT4.out, ← HEQ.out, HNX.out]; rfl
              have HBF := hid HH13.out.bel
              have hd : decide (ln ≤ pd.length) = false := decide_eq_false (by omega)
              go_wp2_with fail
              refine (unless_no _).mono ?_
              rintro r w14 ⟨rfl, rfl⟩
              unfold gaveUp
              go_wp2_with fail
              exact ⟨rfl, HBF.out, .inl ⟨HF.out, rfl⟩⟩
            · rw [if_neg hl12] at HNX
              have hd : decide (ln ≤ pd.length) = true := decide_eq_true (by omega)
              go_wp2_with fail
              refine (unless_yes _).mono ?_
              rintro r w14 ⟨rfl, rfl⟩
              have hi1 : (0 : Int) ≤ (ln : Int) := by omega
              have hi2 : (ln : Int) ≤ (pd.length : Int) := by omega
              obtain ⟨f0, f1, p0, p1⟩ := HH13.out.cells
              generalize hks : (⟨pd.toArray⟩ : ByteArray).extract 0 ln = ks at *
              have HKS : Hid (ks.data.toList = pd.take ln) := by show _ = _; rw [← hks, ext_take]
              have hksz : ks.size ≤ 12 := by rw [← hks, ByteArray.size_extract]; omega
              clear hd
              have BAL := ((Below.refl w14.heap.size w14).alloc (Nat.le_refl _) (.cells #[.string ks] 9)).drew
              have HLHa := hid (HH13.out.below BAL)
              have HRa := hid (HR13.out.below BAL HR13.out.lt)
              have HRSa := hid (HRS13.out.below BAL (by omega))
              have HCE2 : Hid (((w14.alloc (.cells #[.string ks] 9)).drew).cell? ⟨w14.heap.size, 0, none⟩ = some (.string ks)) := cell_new w14 _ _
              obtain ⟨-, d1a, -, z1a⟩ := HLHa.out.cells
              clear BAL
              go_wp2_with fail
              go_region_law (refine stepApT _ (by rfl) (.tmp 43) (.tmp 47) (by rfl) (hb + 1) (.slice fa fs.length fc) fs (by simp [Act.eval]) HLHa.out.fst ks w14.heap.size (by simp [Act.eval]) HCE2.out (by omega) HLHa.out.lt ?_; intro v15 w15 ho15 hg15 hat15; obtain ⟨a15, c15, rfl⟩ := ho15.shape; generalize hl15 : (fs ++ [ks]).length = l15 at *; clear hl15; have HAF := hid (HLHa.out.apF ho15 hg15 hat15); obtain ⟨b0, b1, o0, o1⟩ := HLHa.out.mid HAF.out.1; have HR15 := hid ((HRa.out.below HAF.out.1 (by omega)).setOther (c := hb) (i := 1) (by omega) (.slice a15 l15 c15)); have HRS15 := hid ((HRSa.out.below HAF.out.1 (by omega)).but (but_set hb 1 _ (.slice a15 l15 c15)) (by omega)); clear ho15 hg15 hat15)
              all_goals
                go_wp2_with fail
                go_roundw
                case rel =>
                  refine ⟨k + 1, q7, ss ++ [sx], fs ++ [ks], _, _, by omega, by go_num, HQ7.out, HR15.out, HAF.out.2, HRS15.out, by rw [List.length_append, HSS.out]; rfl, by rw [List.length_append, HFS.out]; rfl, ?_, ?_⟩
                  · intro y hy
                    rcases List.mem_append.1 hy with h | h
                    · exact HF12.out y h
                    · rw [List.mem_singleton.1 h]; exact hksz
                  · rw [← HEQ.out, HNX.out, ← HMK.out, lists_snoc2, HKS.out]
                    simp only [Option.map_map]
                    congr 1
                    funext r
                    simp
                case measure => simp [intOf]; omega
        · have HE1 : Hid (Pr.entsR n q4 = some (ss, lists fs)) := by
            show _ = _; rw [← HEQ.out, show n - k = 0 by omega]; simp [Pr.entsR]
          have HSF : Hid (ss.length = fs.length) := by show _ = _; rw [HSS.out, HFS.out]
          have HFIN : Hid (Pr.headR t = if Pg.okPivots (lists fs) none = true then (if Pg.headW ss (lists fs) = f then some (ss, lists fs) else none) else none) := by
            show _ = _; rw [HT4.out, HE1.out]; rfl
          have HIR := hid (ownsRow.isRow HLH.out.fst (by omega))
          go_wp2_with fail
          refine (areKeys_any _ fs _ HIR.out).mono ?_
          rintro r w8 ⟨rfl, hb8⟩
          have HLH8 := hid (HLH.out.below hb8)
          have HRS8 := hid (HRS.out.below hb8 (by omega))
          obtain ⟨f0, f1, p0, p1⟩ := HLH8.out.cells
          have hs8 := HLH8.out.lt
          have HBF := hid HLH8.out.bel
          clear hb8 d0 d1 z0 z1 HLH HRS HIR
          generalize Pg.okPivots (lists fs) none = ok at *
          cases ok
          · have HF : Hid (Pr.headR t = none) := by show _ = _; rw [HFIN.out]; rfl
            go_wp2_with fail
            refine (unless_no _).mono ?_
            rintro r w9 ⟨rfl, rfl⟩
            unfold gaveUp
            go_wp2_with fail
            exact ⟨rfl, HBF.out, .inl ⟨HF.out, rfl⟩⟩
          · have HIL := hid (HLH8.out.isLH (by omega) (by omega))
            go_wp2_with fail
            refine (unless_yes _).mono ?_
            rintro r w9 ⟨rfl, rfl⟩
            go_wp2_with fail
            refine (headWrite_any _ ss fs _ HIL.out HSF.out (by omega) HF12.out).mono ?_
            rintro r w10 ⟨rfl, hb10⟩
            have HLH10 := hid (HLH8.out.below hb10)
            have HRS10 := hid (HRS8.out.below hb10 (by omega))
            have HBF10 := hid HLH10.out.bel
            clear f0 f1 p0 p1
            obtain ⟨f0, f1, p0, p1⟩ := HLH10.out.cells
            obtain ⟨r0, r1, y0, y1⟩ := HRS10.out.cells
            clear hb10 HLH8 HRS8 HIL HBF
            by_cases he : Pg.headW ss (lists fs) = f
            · have HF : Hid (Pr.headR t = some (ss, lists fs)) := by show _ = _; rw [HFIN.out]; simp [he]
              have HOUT := hid ((HLH10.out.setOther (c := w.heap.size) (i := 0) (Nat.le_refl _) (by omega) (.slice sa ss.length sc)).setOther (c := w.heap.size) (i := 1) (Nat.le_refl _) (by omega) (.slice fa fs.length fc))
              have HOC := hid (heap_setCell_at (i := 1) (heap_setCell_at (i := 0) HRS10.out (.slice sa ss.length sc)) (.slice fa fs.length fc))
              go_wp2_with fail
              refine (unless_yes _).mono ?_
              rintro r w11 ⟨rfl, rfl⟩
              go_wp2_with fail
              refine bodyPost_ret (v := .agg #[.slice sa ss.length sc, .slice fa fs.length fc]) ?_ rfl ⟨HOUT.out.bel, .inr ⟨ss, fs, _, HF.out, rfl, HOUT.out.isLH (by omega) (by omega), HSF.out, by omega, HF12.out⟩⟩
              have q1 : ((w11.setCell ⟨w.heap.size, 0, none⟩ (.slice sa ss.length sc)).setCell ⟨w.heap.size, 1, none⟩ (.slice fa fs.length fc)).cell? ⟨w.heap.size, 0, none⟩ = some (.slice sa ss.length sc) := by unfold World.cell?; rw [HOC.out]; rfl
              have q2 : ((w11.setCell ⟨w.heap.size, 0, none⟩ (.slice sa ss.length sc)).setCell ⟨w.heap.size, 1, none⟩ (.slice fa fs.length fc)).cell? ⟨w.heap.size, 1, none⟩ = some (.slice fa fs.length fc) := by unfold World.cell?; rw [HOC.out]; rfl
              simp [results, Tryz.results214, go_sem, q1, q2]
            · have HF : Hid (Pr.headR t = none) := by show _ = _; rw [HFIN.out]; simp [he]
              have hne : (Pg.headW ss (lists fs) == f) = false := by simpa using he
              go_wp2_with fail
              refine (unless_no _).mono ?_
              rintro r w11 ⟨rfl, rfl⟩
              unfold gaveUp
              go_wp2_with fail
              exact ⟨rfl, HBF10.out, .inl ⟨HF.out, rfl⟩⟩
end Go.Proofs.YtolgpnaoaodepaaGreat
/- Plain mathematics of the program's Fetch. -/
namespace Go.Proofs.YtolgpnaoaodepaaGreat.Pr
open Pg
theorem secW_len {s : List UInt8} {x : UInt8 × List UInt8} (h : secW s = some x) : x.2.length ≤ 249 := by
  unfold secW at h
  cases h1 : takeR 1 s with
  | none => rw [h1] at h; simp at h
  | some a =>
    rw [h1] at h; simp only [Option.bind_some] at h
    cases h2 : byteR a.2 with
    | none => rw [h2] at h; simp at h
    | some b =>
      rw [h2] at h; simp only [Option.bind_some] at h
      cases h3 : numberR b.2 with
      | none => rw [h3] at h; simp at h
      | some n =>
        rw [h3] at h; simp only [Option.bind_some] at h
        cases h4 : numberR n.2 with
        | none => rw [h4] at h; simp at h
        | some z =>
          rw [h4] at h; simp only [Option.bind_some] at h
          split at h
          · simp at h
          · cases h5 : takeR z.1 z.2 with
            | none => rw [h5] at h; simp at h
            | some c =>
              rw [h5] at h; simp only [Option.map_some, Option.some.injEq] at h
              rw [← h]
              have := (takeR_len h5).1
              simp only; omega
theorem secR_len {k : UInt8} {s c : List UInt8} (h : secR k s = some c) : c.length ≤ 20000 := by
  unfold secR at h
  cases hw : secW s with
  | none => rw [hw] at h; simp at h
  | some x =>
    have hx := secW_len hw
    rw [hw] at h
    simp only [Option.bind_some] at h
    cases hu : secU x.1 x.2 with
    | none => rw [hu] at h; simp at h
    | some u =>
      rw [hu] at h
      simp only [Option.bind_some] at h
      split at h
      · simp only [Option.some.injEq] at h
        rw [← h]
        unfold secU at hu
        split at hu
        · unfold Sq.spread at hu
          split at hu
          · rename_i t ht'
            have := Sq.decode_le _ _ _ ht'
            split at hu
            · simp at hu; subst hu; simp at this; omega
            · simp at hu
          · simp at hu
        · simp at hu; rw [← hu]; omega
      · simp at h
/-- Which basement a key should be in: the last whose first key is not greater. -/
def findN (ks : List (List UInt8)) (key : List UInt8) : Nat → Int
  | 0 => -1
  | k + 1 => if key < ks.getD k [] then findN ks key k else (k : Int)
theorem findN_lt (ks : List (List UInt8)) (key : List UInt8) : ∀ n, -1 ≤ findN ks key n ∧ findN ks key n < n
  | 0 => by simp [findN]
  | n + 1 => by
    unfold findN
    split
    · have := findN_lt ks key n; omega
    · omega
/-- May these be the items of basement i? -/
def basOk (ks : List (List UInt8)) (i : Nat) (l : List (List UInt8 × List UInt8)) : Bool :=
  decide (1 ≤ l.length) && decide (l.length ≤ 4) && okFrom none l && decide ((l.map (·.1)).getD 0 [] = ks.getD i []) && (!decide (i + 1 < ks.length) || decide ((l.map (·.1)).getD (l.length - 1) [] < ks.getD (i + 1) []))
def basementR (ks : List (List UInt8)) (i : Nat) (s : List UInt8) : Option (List (List UInt8 × List UInt8)) := (secR 98 s).bind fun c => (basR c).bind fun l => if basOk ks i l = true then some l else none
/-- The value of a key among items. -/
def valueOf (key : List UInt8) : List (List UInt8 × List UInt8) → Option (List UInt8)
  | [] => none
  | x :: r => if x.1 = key then some x.2 else valueOf key r
/-- What Fetch tells: nothing (the page is none), or a value, if there is one. -/
def fetchR (page key : List UInt8) : Option (Option (List UInt8)) := (headR page).bind fun h => (cutR page h.1).bind fun ss => if findN h.2 key h.2.length < 0 then some none else (basementR h.2 (findN h.2 key h.2.length).toNat (ss.getD (findN h.2 key h.2.length).toNat [])).map fun l => valueOf key l
end Go.Proofs.YtolgpnaoaodepaaGreat.Pr
/- The walks of leafHead's find and readBasement. -/
namespace Go.Proofs.YtolgpnaoaodepaaGreat
open Go.RowKit

theorem lists_getD (fs : List ByteArray) (i : Nat) (h : i < fs.length) : (lists fs).getD i [] = (fs[i]'h).data.toList := by
  unfold lists; rw [List.getD_eq_getElem?_getD, List.getElem?_map, List.getElem?_eq_getElem h]; rfl
theorem lists_len (fs : List ByteArray) : (lists fs).length = fs.length := by simp [lists]
theorem plain_keys (l : List (ByteArray × ByteArray)) (i : Nat) (h : i < l.length) : ((plain l).map (·.1)).getD i [] = (l[i]'h).1.data.toList := by
  unfold plain; rw [List.map_map, List.getD_eq_getElem?_getD, List.getElem?_map, List.getElem?_eq_getElem h]; rfl

theorem tri (key f : ByteArray) : (key.data.toList < f.data.toList → Op.bytesLess f.toList key.toList = false ∧ (f.toList == key.toList) = false) ∧ (¬ key.data.toList < f.data.toList → Op.bytesLess f.toList key.toList = true ∨ (Op.bytesLess f.toList key.toList = false ∧ (f.toList == key.toList) = true)) := by
  rw [toList_is, toList_is, less_is]
  constructor
  · intro h
    refine ⟨decide_eq_false (List.lt_asymm h), ?_⟩
    simp only [beq_eq_false_iff_ne, ne_eq]
    intro e; rw [e] at h; exact List.lt_irrefl _ h
  · intro h
    rcases List.le_iff_lt_or_eq.1 (List.not_lt.1 h) with h1 | h1
    · exact .inl (decide_eq_true h1)
    · exact .inr ⟨by rw [h1]; exact decide_eq_false (List.lt_irrefl _), by simpa using h1⟩
set_option maxHeartbeats 1000000 in
set_option maxRecDepth 20000 in
theorem find_any (v : Value) (ss : List Nat) (fs : List ByteArray) (key : ByteArray) (w : World) (hv : IsLH w v ss fs) (h4 : fs.length ≤ 1000) :
    Calls Tryz.prog 216 #[v, .string key] w fun r w' => r = .returned (.int .i64 (Pr.findN (lists fs) key.data.toList fs.length)) ∧ Below w.heap.size w w' := by
  obtain ⟨vs, vf, rfl, ⟨sa, ca, rfl, -, -⟩, ⟨fa, cf, rfl, -, hf1⟩⟩ := hv
  have HF := hid hf1
  clear hf1
  have HB0 := hid ((Below.refl w.heap.size w).alloc (Nat.le_refl _) (.cells #[.slice sa ss.length ca, .slice fa fs.length cf] 233))
  go_enter Tryz.func216, Tryz.ntmps216
  go_wp2_with fail
  go_loopw [5, 11] (fun u i wr => ∃ k : Nat, k ≤ fs.length ∧ i = .int .i64 k ∧ u = .int .i64 (Pr.findN (lists fs) key.data.toList k) ∧ Below w.heap.size w wr) (fun _ i _ => fs.length - (intOf i).toNat)
  case atStart => exact ⟨0, Nat.zero_le _, rfl, rfl, HB0.out⟩
  case round =>
    obtain ⟨k, hk, rfl, rfl, hb⟩ := hrel
    have HB := hid hb
    clear hb
    by_cases hkl : k < fs.length
    · obtain ⟨b, off, hve, hbw, hcs⟩ := HF.out.resolve_left (by omega)
      subst hve
      have c0 := rowAt (pl := fs) hcs HB.out hbw k hkl
      clear hcs
      have HNX : Hid (Pr.findN (lists fs) key.data.toList (k + 1) = if key.data.toList < (fs[k]'hkl).data.toList then Pr.findN (lists fs) key.data.toList k else (k : Int)) := by
        show _ = _; rw [← lists_getD fs k hkl]; rfl
      generalize fs[k]'hkl = f at *
      generalize Pr.findN (lists fs) key.data.toList k = m at *
      have HTRI := hid (tri key f)
      by_cases hlt : key.data.toList < f.data.toList
      · rw [if_pos hlt] at HNX
        obtain ⟨hc1, hc2⟩ := (HTRI.out).1 hlt
        clear hlt
        go_wp2_with fail
        go_roundw
        case rel => exact ⟨k + 1, by omega, by go_num, by rw [HNX.out], HB.out⟩
        case measure => simp [intOf]; omega
      · rw [if_neg hlt] at HNX
        rcases (HTRI.out).2 hlt with hc1 | ⟨hc1, hc2⟩
        all_goals
          clear hlt
          go_wp2_with fail
          go_roundw
          case rel => exact ⟨k + 1, by omega, by go_num, by rw [HNX.out], HB.out⟩
          case measure => simp [intOf]; omega
    · have hke : k = fs.length := by omega
      have HKE := hid hke
      clear hke
      generalize hm : Pr.findN (lists fs) key.data.toList k = m at *
      have HM := hid hm
      clear hm
      go_wp2_with fail
      go_ret
      exact ⟨by rw [← HKE.out, HM.out]; rfl, HB.out⟩

def BasQ (w : World) (o : Option (List (List UInt8 × List UInt8))) (r : Ending) (w' : World) : Prop := ItemsQ w o r w'
theorem secR_end (o : Option (List UInt8)) : (o = none ∧ secEnd o = gaveUp) ∨ ∃ c, o = some c ∧ secEnd o = .returned (.string ⟨c.toArray⟩) := by
  cases o with
  | none => exact .inl ⟨rfl, rfl⟩
  | some c => exact .inr ⟨c, rfl, rfl⟩

set_option maxHeartbeats 4000000 in
set_option maxRecDepth 20000 in
theorem basement_read (v : Value) (ss : List Nat) (fs : List ByteArray) (i : Nat) (s : List UInt8) (w : World) (hv : IsLH w v ss fs) (h4 : fs.length ≤ 1000) (hi : i < fs.length) :
    Calls Tryz.prog 217 #[v, .int .i64 i, .string ⟨s.toArray⟩] w fun r w' => ItemsQ w (Pr.basementR (lists fs) i s) r w' := by
  obtain ⟨vs, vf, rfl, ⟨sa, ca, rfl, -, -⟩, ⟨fa, cf, rfl, -, hf1⟩⟩ := hv
  obtain ⟨b, off, hve, hbw, hcs⟩ := hf1.resolve_left (by omega)
  subst hve
  have HF := hid hcs
  have HB0 := hid ((Below.refl w.heap.size w).alloc (Nat.le_refl _) (.cells #[.slice sa ss.length ca, .slice (some ⟨b, off, none⟩) fs.length cf] 233))
  have HBX : Hid ((w.alloc (.cells #[.slice sa ss.length ca, .slice (some ⟨b, off, none⟩) fs.length cf] 233)).cell? ⟨w.heap.size, 1, none⟩ = some (.slice (some ⟨b, off, none⟩) fs.length cf)) := by show _ = _; simp
  have hs0 : w.heap.size < (w.alloc (.cells #[.slice sa ss.length ca, .slice (some ⟨b, off, none⟩) fs.length cf] 233)).heap.size := by simp
  clear hf1 hcs
  go_enter Tryz.func217, Tryz.ntmps217
  go_wp2_with fail
  generalize w.alloc (.cells #[.slice sa ss.length ca, .slice (some ⟨b, off, none⟩) fs.length cf] 233) = w0 at *
  refine (readSection_any 98 s _).mono ?_
  rintro r w1 ⟨rfl, hb1⟩
  have HB1 := hid (HB0.out.trans (hb1.mono (by omega)))
  have HBX1 := hid ((hb1.cell (p := ⟨w.heap.size, 1, none⟩) (by show w.heap.size < _; omega)).trans HBX.out)
  have hs1 := hb1.size
  clear hb1 HB0 HBX
  rcases secR_end (Pr.secR 98 s) with ⟨hsn, hse⟩ | ⟨c, hsn, hse⟩
  · have HT : Hid (Pr.basementR (lists fs) i s = none) := by show _ = _; unfold Pr.basementR; rw [hsn]; rfl
    rw [hse]
    clear hsn hse
    unfold gaveUp
    go_wp2_with fail
    exact ⟨rfl, HB1.out, .inl ⟨HT.out, rfl⟩⟩
  have HT : Hid (Pr.basementR (lists fs) i s = (Pr.basR c).bind fun l => if Pr.basOk (lists fs) i l = true then some l else none) := by show _ = _; unfold Pr.basementR; rw [hsn]; rfl
  have hcl := Pr.secR_len hsn
  rw [hse]
  clear hsn hse
  go_wp2_with fail
  refine (readItems_any c _ (by omega)).mono ?_
  rintro r w2 ⟨hb2, ⟨hn, rfl⟩ | ⟨l, v2, hl2, rfl, ho2, hl255, hls⟩⟩
  · have HT2 : Hid (Pr.basementR (lists fs) i s = none) := by show _ = _; rw [HT.out, hn]; rfl
    have HB2 := hid (HB1.out.trans (hb2.mono (by omega)))
    clear hb2 hn
    unfold gaveUp
    go_wp2_with fail
    exact ⟨rfl, HB2.out, .inl ⟨HT2.out, rfl⟩⟩
  have HT2 : Hid (Pr.basementR (lists fs) i s = if Pr.basOk (lists fs) i (plain l) = true then some (plain l) else none) := by show _ = _; rw [HT.out, hl2]; rfl
  have HB2 := hid (HB1.out.trans (hb2.mono (by omega)))
  have HBX2 := hid ((hb2.cell (p := ⟨w.heap.size, 1, none⟩) (by show w.heap.size < _; omega)).trans HBX1.out)
  have HO2 := hid ho2
  have HLS := hid hls
  have hs2 := hb2.size
  have hpl : (plain l).length = l.length := by simp [plain]
  have HOKD : Hid (Pr.basOk (lists fs) i (plain l) = (decide (1 ≤ l.length) && decide (l.length ≤ 4) && Pg.okFrom none (plain l) && decide (((plain l).map (·.1)).getD 0 [] = (lists fs).getD i []) && (!decide (i + 1 < fs.length) || decide (((plain l).map (·.1)).getD (l.length - 1) [] < (lists fs).getD (i + 1) [])))) := by
    show _ = _; unfold Pr.basOk; rw [hpl, lists_len]
  obtain ⟨la, lc, rfl⟩ := rowShape ho2
  clear hb2 hl2 hls hpl HB1 HBX1 HT
  have bad : Pr.basOk (lists fs) i (plain l) = false → Pr.basementR (lists fs) i s = none := fun h => by rw [HT2.out, h]; rfl
  have BAD := hid bad
  clear bad
  by_cases hl1 : 1 ≤ l.length
  · by_cases hl4 : l.length ≤ 4
    · have hd : decide ((1 : Int) ≤ (l.length : Int)) = true := by simp; omega
      have hd2 : decide ((l.length : Int) ≤ 4) = true := by simp; omega
      have HIT := hid (ownsI_items ho2)
      clear ho2
      go_wp2_with fail
      refine (unless_yes _).mono ?_
      rintro r w3 ⟨rfl, rfl⟩
      go_wp2_with fail
      refine (areItems_any _ l _ HIT.out (by omega)).mono ?_
      rintro r w4 ⟨rfl, hb4⟩
      have HB4 := hid (HB2.out.trans (hb4.mono (by omega)))
      have x4 := (hb4.cell (p := ⟨w.heap.size, 1, none⟩) (by show w.heap.size < _; omega)).trans HBX2.out
      have HO4 : Hid (OwnsI w1.heap.size w4 (.slice la l.length lc) l) := row_below HO2.out hb4 (Nat.le_refl _)
      have hs4 := hb4.size
      clear hb4 HBX2 HB2 hd hd2
      generalize hok : Pg.okFrom none (plain l) = ok at *
      cases ok
      · have HF2 : Hid (Pr.basementR (lists fs) i s = none) := BAD.out (by rw [HOKD.out]; simp)
        go_wp2_with fail
        refine (unless_no _).mono ?_
        rintro r w5 ⟨rfl, rfl⟩
        unfold gaveUp
        go_wp2_with fail
        exact ⟨rfl, HB4.out, .inl ⟨HF2.out, rfl⟩⟩
      · clear hok
        go_wp2_with fail
        refine (unless_yes _).mono ?_
        rintro r w5 ⟨rfl, rfl⟩
        obtain ⟨g, cap, hge, -, -, hgw, hia⟩ := HO4.out.isItems.resolve_left (by rintro ⟨_, _, _, rfl⟩; simp at hl1)
        injection hge with e1 e2 e3
        subst e1 e3
        have k0 := (hia 0 (by omega)).1
        have kl := (hia (l.length - 1) (by omega)).1
        have c0 := rowAt (pl := fs) HF.out HB4.out hbw i hi
        have HK0 := hid (plain_keys l 0 (by omega))
        have HKL := hid (plain_keys l (l.length - 1) (by omega))
        have HFI := hid (lists_getD fs i hi)
        clear hia
        generalize (l[0]'(by omega)).1 = kb at *
        generalize (l[l.length - 1]'(by omega)).1 = klb at *
        generalize fs[i]'hi = fi at *
        simp only [Nat.zero_mul, Nat.add_zero, Nat.zero_add] at k0 kl
        have hl0 : 0 < l.length := by omega
        have hi1 : (0 : Int) < (l.length : Int) := by omega
        have hi2 : (i : Int) < (fs.length : Int) := by omega
        have hi3 : (0 : Int) ≤ (i : Int) := by omega
        by_cases hke : kb.data.toList = fi.data.toList
        · have hkf : kb = fi := bytes_ext hke
          have HKE := hid hke
          subst hkf
          clear hke
          go_wp2_with fail
          go_quiet (exact quiet_of (unless_yes _))
          have x6 : (w5.drewN nq).cell? ⟨w.heap.size, 1, none⟩ = _ := x4
          have kl6 : (w5.drewN nq).cell? ⟨g, (l.length - 1) * 2, none⟩ = _ := kl
          have HB6 := hid (below_drewN HB4.out nq)
          have HO6 : Hid (OwnsI w1.heap.size (w5.drewN nq) (.slice (some ⟨g, 0, none⟩) l.length lc) l) := HO4.out
          generalize w5.drewN nq = w6 at *
          clear x4 kl k0 c0 HB4 HO4
          by_cases hnx : i + 1 < fs.length
          · have c1 := rowAt (pl := fs) HF.out HB6.out hbw (i + 1) hnx
            have HFN := hid (lists_getD fs (i + 1) hnx)
            generalize fs[i + 1]'hnx = fn at *
            have hi4 : (i : Int) + 1 < (fs.length : Int) := by omega
            have hw1 : IntKind.i64.wrap ((l.length : Int) - 1) = ((l.length - 1 : Nat) : Int) := by rw [IntWalk.i64_in _ ⟨by omega, by omega⟩]; omega
            have hw2 : IntKind.i64.wrap ((i : Int) + 1) = ((i + 1 : Nat) : Int) := by rw [IntWalk.i64_in _ ⟨by omega, by omega⟩]; omega
            have hi5 : ((l.length - 1 : Nat) : Int) < (l.length : Int) := by omega
            have hi6 : ((i + 1 : Nat) : Int) < (fs.length : Int) := by omega
            have hi8 : (0 : Int) ≤ (i : Int) + 1 := by omega
            have HLL : Hid (((plain l).map (·.1)).getD (l.length - 1) [] = klb.data.toList) := HKL.out
            generalize hjl : l.length - 1 = jl at *
            clear hjl
            by_cases hlt : klb.data.toList < fn.data.toList
            · have HF2 : Hid (Pr.basementR (lists fs) i s = some (plain l)) := by
                show _ = _
                rw [HT2.out, HOKD.out, HK0.out, HFI.out, HLL.out, HFN.out, decide_eq_true hl1, decide_eq_true hl4, decide_eq_true hlt]
                simp
              have hcmp : Op.bytesLess klb.toList fn.toList = true := by rw [toList_is, toList_is, less_is]; exact decide_eq_true hlt
              clear hlt
              go_wp2_with fail
              go_quiet (exact quiet_of (unless_yes _))
              go_wp2_with fail
              go_ret
              exact ⟨below_drewN HB6.out _, .inr ⟨l, _, HF2.out, rfl, ownsI_shrink HO6.out (by omega), hl255, HLS.out⟩⟩
            · have HF2 : Hid (Pr.basementR (lists fs) i s = none) := BAD.out (by rw [HOKD.out, HLL.out, HFN.out, decide_eq_true hnx, decide_eq_false hlt]; simp)
              have hcmp : Op.bytesLess klb.toList fn.toList = false := by rw [toList_is, toList_is, less_is]; exact decide_eq_false hlt
              clear hlt
              go_wp2_with fail
              go_region_dies
              all_goals
                refine (unless_no _).mono ?_
                rintro r w7 ⟨rfl, rfl⟩
                unfold gaveUp
                go_wp2_with fail
                exact ⟨rfl, HB6.out.drew, .inl ⟨HF2.out, rfl⟩⟩
          · have HF2 : Hid (Pr.basementR (lists fs) i s = some (plain l)) := by
              show _ = _
              rw [HT2.out, HOKD.out, HK0.out, HFI.out, decide_eq_true hl1, decide_eq_true hl4, decide_eq_false hnx]
              simp
            have hi4 : ¬ (i : Int) + 1 < (fs.length : Int) := by omega
            go_wp2_with fail
            go_ret
            exact ⟨HB6.out, .inr ⟨l, _, HF2.out, rfl, ownsI_shrink HO6.out (by omega), hl255, HLS.out⟩⟩
        · have HF2 : Hid (Pr.basementR (lists fs) i s = none) := BAD.out (by rw [HOKD.out, HK0.out, HFI.out, decide_eq_false hke]; simp)
          have hne : (kb.toList == fi.toList) = false := by rw [toList_is, toList_is]; simpa using hke
          have hne2 : ¬ kb = fi := fun e => hke (by rw [e])
          clear hke
          go_wp2_with fail
          go_region_dies
          all_goals
            refine (unless_no _).mono ?_
            rintro r w6 ⟨rfl, rfl⟩
            unfold gaveUp
            go_wp2_with fail
            exact ⟨rfl, HB4.out.drew, .inl ⟨HF2.out, rfl⟩⟩
    · have HF2 : Hid (Pr.basementR (lists fs) i s = none) := BAD.out (by rw [HOKD.out, decide_eq_false hl4]; simp)
      have hd : decide ((1 : Int) ≤ (l.length : Int)) = true := by simp; omega
      have hd2 : decide ((l.length : Int) ≤ 4) = false := by simp; omega
      go_wp2_with fail
      refine (unless_no _).mono ?_
      rintro r w3 ⟨rfl, rfl⟩
      unfold gaveUp
      go_wp2_with fail
      exact ⟨rfl, HB2.out, .inl ⟨HF2.out, rfl⟩⟩
  · have HF2 : Hid (Pr.basementR (lists fs) i s = none) := BAD.out (by rw [HOKD.out, decide_eq_false hl1]; simp)
    have hd : decide ((1 : Int) ≤ (l.length : Int)) = false := by simp; omega
    go_wp2_with fail
    refine (unless_no _).mono ?_
    rintro r w3 ⟨rfl, rfl⟩
    unfold gaveUp
    go_wp2_with fail
    exact ⟨rfl, HB2.out, .inl ⟨HF2.out, rfl⟩⟩
end Go.Proofs.YtolgpnaoaodepaaGreat
