/- A scan's list of places: the last is taken. -/
import Derived.Test.YtolgpnaoaodepaaGreatScaOm
import Derived.Test.YtolgpnaoaodepaaGreatWalkMm
import Derived.Test.YtolgpnaoaodepaaGreatAidm
import Derived.Test.YtolgpnaoaodepaaGreatTreZJm
namespace Go.Proofs.YtolgpnaoaodepaaGreat
open Go.RowKit

/-- A scan's block. -/
def ScB (w : World) (sb : Nat) (fr ub : ByteArray) (v : Value) : Prop := w.heap[sb]? = some (.cells #[.string fr, .string ub, v] 143 (0, 0))
theorem ScB.lt {w : World} {sb : Nat} {fr ub : ByteArray} {v : Value} (h : ScB w sb fr ub v) : sb < w.heap.size := (Array.getElem?_eq_some_iff.1 h).1
theorem ScB.cells {w : World} {sb : Nat} {fr ub : ByteArray} {v : Value} (h : ScB w sb fr ub v) : w.cell? ⟨sb, 0, none⟩ = some (.string fr) ∧ w.cell? ⟨sb, 1, none⟩ = some (.string ub) ∧ w.cell? ⟨sb, 2, none⟩ = some v ∧ w.frozen? ⟨sb, 2, none⟩ = false := by
  unfold ScB at h
  refine ⟨?_, ?_, ?_, ?_⟩ <;> simp [World.cell?, World.frozen?, h]
theorem ScB.set {w : World} {sb : Nat} {fr ub : ByteArray} {v : Value} (h : ScB w sb fr ub v) (u : Value) : ScB (w.setCell ⟨sb, 2, none⟩ u) sb fr ub u := by unfold ScB at *; rw [heap_setCell_at (i := 2) h]; rfl
theorem OwnsPt.prefix {B : Nat} {w : World} {g cap n : Nat} {bs cs : List Nat} (h : OwnsPt B w (.slice (some ⟨g, 0, none⟩) n cap) (bs ++ cs)) : OwnsPt B w (.slice (some ⟨g, 0, none⟩) bs.length cap) bs := by
  rcases h.2 with ⟨e, hn⟩ | ⟨g', cap', cur, e, hb, hg, hc, hm, hcs, htk⟩
  · simp at e
  · simp only [Value.slice.injEq, Option.some.injEq, Addr.mk.injEq, and_true] at e
    obtain ⟨rfl, -, rfl⟩ := e
    refine ⟨by rw [ptcells_len, Nat.mul_one], .inr ⟨g, cap, cur, rfl, hb, hg, ?_, hm, hcs, ?_⟩⟩
    · rw [List.length_append] at hc; omega
    · have := congrArg (List.take (bs.length * 1)) htk
      rw [List.take_take, List.length_append, Nat.min_eq_left (by omega)] at this
      rw [this]
      unfold ptcells
      rw [List.map_append, Nat.mul_one, List.take_left' (by simp)]

set_option maxHeartbeats 400000 in
theorem pPop_any (sb : Nat) (fr ub : ByteArray) (v : Value) (bs : List Nat) (b : Nat) (w : World) (hs : ScB w sb fr ub v) (h : OwnsPt 0 w v (bs ++ [b])) (hl : bs.length ≤ 1000000000) :
    Calls Tryz.prog 295 #[.pointer (some ⟨sb, 2, none⟩)] w fun r w' => r = .returned (.iface 137 (.pointer (some ⟨b, 0, none⟩))) ∧ ∃ v', w' = w.setCell ⟨sb, 2, none⟩ v' ∧ OwnsPt 0 w v' bs ∧ v'.ownBlock = v.ownBlock := by
  have hbl : bs.length < (bs ++ [b]).length := by simp
  obtain ⟨g, cap, rfl, hc, -, hg, x1, -⟩ := h.at bs.length hbl
  have hb : (bs ++ [b])[bs.length]'hbl = b := by simp
  rw [hb] at x1
  have HP := hid h.prefix
  obtain ⟨s0, s1, s2, s3⟩ := hs.cells
  rw [List.length_append] at s2 hc ⊢
  simp only [List.length_singleton] at s2 hc ⊢
  have w1 : IntKind.i64.wrap (((bs.length + 1 : Nat) : Int) - 1) = (bs.length : Int) := by rw [IntKind.wrap_i64]; omega
  clear h hs hb hbl
  go_enter Tryz.func295, Tryz.ntmps295
  go_wp2_with fail
  go_ret
  exact ⟨rfl, _, rfl, HP.out, rfl⟩
end Go.Proofs.YtolgpnaoaodepaaGreat
/- Methods of places by an interface; down. -/
namespace Go.Proofs.YtolgpnaoaodepaaGreat
open Go.RowKit

theorem load_cell (a : Addr) (w : World) (v : Value) (h : w.cell? a = some v) : (load a).run Tryz.prog w = .ok v w := by
  go_simp
theorem mLen0 (a : Addr) (w : World) : (method 417 193 (.pointer (some a)) "Len").run Tryz.prog w = ((load a) >>= fun x => pure (292, x) : Sem _).run Tryz.prog w := by kernel_rfl
theorem mLess0 (a : Addr) (w : World) : (method 417 193 (.pointer (some a)) "Less").run Tryz.prog w = ((load a) >>= fun x => pure (293, x) : Sem _).run Tryz.prog w := by kernel_rfl
theorem mSwap0 (a : Addr) (w : World) : (method 417 193 (.pointer (some a)) "Swap").run Tryz.prog w = ((load a) >>= fun x => pure (294, x) : Sem _).run Tryz.prog w := by kernel_rfl
theorem mPop (a : Addr) (w : World) : (method 417 193 (.pointer (some a)) "Pop").run Tryz.prog w = .ok (295, .pointer (some a)) w := by kernel_rfl
theorem mPush (a : Addr) (w : World) : (method 417 193 (.pointer (some a)) "Push").run Tryz.prog w = .ok (296, .pointer (some a)) w := by kernel_rfl
theorem mLen (a : Addr) (w : World) (v : Value) (h : w.cell? a = some v) : (method 417 193 (.pointer (some a)) "Len").run Tryz.prog w = .ok (292, v) w := by
  rw [mLen0]
  have := load_cell a w v h
  go_simp
theorem mLess (a : Addr) (w : World) (v : Value) (h : w.cell? a = some v) : (method 417 193 (.pointer (some a)) "Less").run Tryz.prog w = .ok (293, v) w := by
  rw [mLess0]
  have := load_cell a w v h
  go_simp
theorem mSwap (a : Addr) (w : World) (v : Value) (h : w.cell? a = some v) : (method 417 193 (.pointer (some a)) "Swap").run Tryz.prog w = .ok (294, v) w := by
  rw [mSwap0]
  have := load_cell a w v h
  go_simp
theorem blk_type {w : World} {b : Nat} {cs : Array Value} {T : TypeId} (h : w.heap[b]? = some (.cells cs T (0, 0))) {B : Nat} {e : TypeId} {s n : Nat} {v : Value} {xs : List Value} (hr : w.ownsRow B e s v n xs) (he : e ≠ T) : v.ownBlock ≠ some b := by
  intro q
  rcases hr.2 with ⟨rfl, _⟩ | ⟨g, cap, cur, rfl, hb, hg, _⟩
  · simp [Value.ownBlock] at q
  · have : g = b := by simpa [Value.ownBlock] using q
    subst this
    rw [h] at hg
    simp at hg
    exact he hg.2.symm
theorem gr_trans {w w1 w2 : World} {r : Option Nat} (h1 : w.grownBy w1 r) (h2 : w1.grownBy w2 r) : w.grownBy w2 r :=
  ⟨h2.os.trans h1.os, h2.tape.trans h1.tape, h2.output.trans h1.output, Nat.le_trans h1.size h2.size, fun k hk hne => (h2.block k (Nat.lt_of_lt_of_le hk h1.size) hne).trans (h1.block k hk hne)⟩
theorem grown_below {w w1 : World} (r : Option Nat) (h : Below w.heap.size w w1) : w.grownBy w1 r := ⟨h.os, h.tape, h.output, h.size, fun k hk _ => h.block k hk⟩
def IsBool (r : Ending) : Prop := ∃ q, r = .returned (.bool q)
/-- What the places say. -/
def PlK (w : World) (K : Nat → ByteArray × Nat) (bs : List Nat) : Prop := ∀ b ∈ bs, ∃ un ch, PlB w b (K b).1 (K b).2 un ch
def ltK (K : Nat → ByteArray × Nat) (a b : Nat) : Prop := lessB (K a).1 (K a).2 (K b).1 (K b).2 = true
/-- A heap whose places are being moved. -/
structure HpS (w : World) (sb : Nat) (fr ub : ByteArray) (v : Value) (K : Nat → ByteArray × Nat) (bs0 bs : List Nat) (wr : World) : Prop where
  sc : ScB wr sb fr ub v
  row : OwnsPt 0 wr v bs
  pl : PlK wr K bs
  perm : bs.Perm bs0
  gr : w.grownBy wr v.ownBlock
theorem HpS.below {w : World} {sb : Nat} {fr ub : ByteArray} {v : Value} {K : Nat → ByteArray × Nat} {bs0 bs : List Nat} {wr w' : World} (h : HpS w sb fr ub v K bs0 bs wr) (hb : Below wr.heap.size wr w') : HpS w sb fr ub v K bs0 bs w' :=
  ⟨(hb.block sb h.sc.lt).trans h.sc, row_below h.row hb (Nat.le_refl _), fun b hb' => by obtain ⟨u, c, q⟩ := h.pl b hb'; exact ⟨u, c, (hb.block b q.lt).trans q⟩, h.perm, gr_trans h.gr (grown_below _ hb)⟩
theorem HpS.swap {w : World} {sb : Nat} {fr ub : ByteArray} {v : Value} {K : Nat → ByteArray × Nat} {bs0 bs : List Nat} {wr w' : World} (h : HpS w sb fr ub v K bs0 bs wr) {i j : Nat} (hi : i < bs.length) (hj : j < bs.length) (ho : OwnsPt 0 w' v (Hp.swL 0 bs i j)) (hg : wr.grownBy w' v.ownBlock) : HpS w sb fr ub v K bs0 (Hp.swL 0 bs i j) w' := by
  have hp := Hp.swL_perm 0 bs hi hj
  have hne : ∀ b ∈ bs, v.ownBlock ≠ some b := fun b hb => by obtain ⟨u, c, q⟩ := h.pl b hb; exact blk_type q h.row (by decide)
  refine ⟨(hg.block sb h.sc.lt (fun e => blk_type h.sc h.row (by decide) e.symm)).trans h.sc, ho, fun b hb => ?_, hp.trans h.perm, gr_trans h.gr hg⟩
  have hb' := hp.mem_iff.1 hb
  obtain ⟨u, c, q⟩ := h.pl b hb'
  exact ⟨u, c, (hg.block b q.lt (fun e => hne b hb' e.symm)).trans q⟩

set_option maxHeartbeats 2000000 in
set_option maxRecDepth 4000 in
theorem hDown_any (sb : Nat) (fr ub : ByteArray) (v : Value) (K : Nat → ByteArray × Nat) (bs : List Nat) (n : Nat) (w : World) (hs : ScB w sb fr ub v) (h : OwnsPt 0 w v bs) (hp : PlK w K bs) (hn : n ≤ bs.length) (hl : bs.length ≤ 1000000000) (hd : Hp.DownI (ltK K) (Hp.nth 0 bs) n 0) (O : Hp.Ord (ltK K)) :
    Calls Tryz.prog 185 #[.iface 193 (.pointer (some ⟨sb, 2, none⟩)), .int .i64 0, .int .i64 (n : Nat)] w fun r w' => IsBool r ∧ ∃ bs', HpS w sb fr ub v K bs bs' w' ∧ Hp.Heap (ltK K) (Hp.nth 0 bs') n ∧ ∀ k, n ≤ k → Hp.nth 0 bs' k = Hp.nth 0 bs k := by
  have H0 : Hid (HpS w sb fr ub v K bs bs w) := ⟨hs, h, hp, List.Perm.refl _, World.grownBy.refl _ _⟩
  have HD := hid hd
  have HO := hid O
  clear hs h hp hd O
  go_enter Tryz.func185, Tryz.ntmps185
  go_wp2_with fail
  go_loopw [7] (fun vi wr => ∃ i bs', vi = .int .i64 (i : Nat) ∧ i < 2000000000 ∧ HpS w sb fr ub v K bs bs' wr ∧ Hp.DownI (ltK K) (Hp.nth 0 bs') n i ∧ ∀ k, n ≤ k → Hp.nth 0 bs' k = Hp.nth 0 bs k) (fun vi _ => n - (intOf vi).toNat)
  case atStart => exact ⟨0, bs, rfl, by decide, H0.out, HD.out, fun _ _ => rfl⟩
  case round =>
    obtain ⟨i, bs', rfl, hi, hS, hD, hK⟩ := hrel
    have HS := hid hS
    have HD' := hid hD
    have HK := hid hK
    have hlen : bs'.length = bs.length := hS.perm.length_eq
    clear hS hD hK
    have xw1 : IntKind.i64.wrap (2 * (i : Int)) = ((2 * i : Nat) : Int) := by rw [IntKind.wrap_i64]; omega
    have xw2 : IntKind.i64.wrap (((2 * i : Nat) : Int) + 1) = ((2 * i + 1 : Nat) : Int) := by rw [IntKind.wrap_i64]; omega
    have xw3 : IntKind.i64.wrap (((2 * i + 1 : Nat) : Int) + 1) = ((2 * i + 2 : Nat) : Int) := by rw [IntKind.wrap_i64]; omega
    by_cases hj : 2 * i + 1 < n
    · have c1 : ¬ ((n : Int) ≤ ((2 * i + 1 : Nat) : Int)) := by omega
      have c2 : ¬ (((2 * i + 1 : Nat) : Int) < 0) := by omega
      have hj1 : 2 * i + 1 < bs'.length := by omega
      have hil : i < bs'.length := by omega
      have HW : Hid ((∃ j2 : 2 * i + 2 < bs'.length, 2 * i + 2 < n ∧ lessB (K (bs'[2 * i + 2]'j2)).1 (K (bs'[2 * i + 2]'j2)).2 (K (bs'[2 * i + 1]'hj1)).1 (K (bs'[2 * i + 1]'hj1)).2 = true) ∨ (∃ j2 : 2 * i + 2 < bs'.length, 2 * i + 2 < n ∧ lessB (K (bs'[2 * i + 2]'j2)).1 (K (bs'[2 * i + 2]'j2)).2 (K (bs'[2 * i + 1]'hj1)).1 (K (bs'[2 * i + 1]'hj1)).2 = false) ∨ ¬ 2 * i + 2 < n) := by
        by_cases q : 2 * i + 2 < n
        · have q' : 2 * i + 2 < bs'.length := by omega
          cases hb : lessB (K (bs'[2 * i + 2]'(q'))).1 (K (bs'[2 * i + 2]'(q'))).2 (K (bs'[2 * i + 1]'hj1)).1 (K (bs'[2 * i + 1]'hj1)).2 with
          | true => exact .inl ⟨q', q, hb⟩
          | false => exact .inr (.inl ⟨q', q, hb⟩)
        · exact .inr (.inr q)
      have HL : Hid (∀ j2 : 2 * i + 2 < bs'.length, Calls Tryz.prog 293 #[v, .int .i64 (2 * (i : Int) + 1 + 1), .int .i64 (2 * (i : Int) + 1)] wr fun r w' => r = .returned (.bool (lessB (K (bs'[2 * i + 2]'j2)).1 (K (bs'[2 * i + 2]'j2)).2 (K (bs'[2 * i + 1]'hj1)).1 (K (bs'[2 * i + 1]'hj1)).2)) ∧ Below wr.heap.size wr w') := by
        intro j2
        obtain ⟨u1, c1', q1⟩ := HS.out.pl _ (List.getElem_mem hj1)
        obtain ⟨u2, c2', q2⟩ := HS.out.pl _ (List.getElem_mem j2)
        have := pLess_any v bs' (2 * i + 2) (2 * i + 1) wr HS.out.row j2 hj1 _ _ _ _ _ _ _ _ q2 q1
        rw [show ((2 * i + 2 : Nat) : Int) = 2 * (i : Int) + 1 + 1 by omega, show ((2 * i + 1 : Nat) : Int) = 2 * (i : Int) + 1 by omega] at this
        exact this
      have e1 := Hp.nth_get 0 bs' hj1
      have hm := mLess ⟨sb, 2, none⟩ wr v HS.out.sc.cells.2.2.1
      have HE1 := hid e1
      clear e1
      rcases HW.out with ⟨j2, hjn, hb⟩ | ⟨j2, hjn, hb⟩ | hjn
      case' inl =>
        have e2 := Hp.nth_get 0 bs' j2
        have HM : Hid (∀ k, 0 < k → k < n → (k - 1) / 2 = i → ¬ ltK K (Hp.nth 0 bs' k) (Hp.nth 0 bs' (2 * i + 2))) := fun k h0 hk hp => by
          rcases (show k = 2 * i + 1 ∨ k = 2 * i + 2 by omega) with rfl | rfl
          · refine HO.out.asy ?_
            rw [HE1.out, e2]; exact hb
          · exact fun z => HO.out.asy z z
        have HL1 := hid (HL.out j2)
        rw [hb] at HL1
        have d1 : (2 * (i : Int) + 1 + 1) < (n : Int) := by omega
        clear hb e2 HW HL
        go_wp2_with fail
        refine HL1.out.mono ?_
        rintro r w2 ⟨rfl, hb2⟩
        have HS2 := hid (HS.out.below hb2)
        clear hb2 HL1 HS hm
        go_upto_region 8 with fail
        have ej : 2 * (i : Int) + 1 + 1 = ((2 * i + 2 : Nat) : Int) := by omega
        rw [ej]
        have hjb : 2 * i + 2 < bs'.length ∧ i < 2 * i + 2 ∧ (2 * i + 2 - 1) / 2 = i := ⟨j2, by omega, by omega⟩
        clear ej xw1 xw2 xw3 c1 c2 d1
        generalize 2 * i + 2 = j at *
      case' inr.inl =>
        have e2 := Hp.nth_get 0 bs' j2
        have HM : Hid (∀ k, 0 < k → k < n → (k - 1) / 2 = i → ¬ ltK K (Hp.nth 0 bs' k) (Hp.nth 0 bs' (2 * i + 1))) := fun k h0 hk hp => by
          rcases (show k = 2 * i + 1 ∨ k = 2 * i + 2 by omega) with rfl | rfl
          · exact fun z => HO.out.asy z z
          · rw [HE1.out, e2]; unfold ltK; rw [hb]; simp
        have HL1 := hid (HL.out j2)
        rw [hb] at HL1
        have d1 : (2 * (i : Int) + 1 + 1) < (n : Int) := by omega
        clear hb e2 HW HL
        go_wp2_with fail
        refine HL1.out.mono ?_
        rintro r w2 ⟨rfl, hb2⟩
        have HS2 := hid (HS.out.below hb2)
        clear hb2 HL1 HS hm
        go_upto_region 8 with fail
        have ej : 2 * (i : Int) + 1 = ((2 * i + 1 : Nat) : Int) := by omega
        rw [ej]
        clear hjn
        have hjn : 2 * i + 1 < n := hj
        have hjb : 2 * i + 1 < bs'.length ∧ i < 2 * i + 1 ∧ (2 * i + 1 - 1) / 2 = i := ⟨hj1, by omega, by omega⟩
        clear ej xw1 xw2 xw3 c1 c2 d1
        generalize 2 * i + 1 = j at *
      case' inr.inr =>
        have HM : Hid (∀ k, 0 < k → k < n → (k - 1) / 2 = i → ¬ ltK K (Hp.nth 0 bs' k) (Hp.nth 0 bs' (2 * i + 1))) := fun k h0 hk hp => by
          rcases (show k = 2 * i + 1 ∨ k = 2 * i + 2 by omega) with rfl | rfl
          · exact fun z => HO.out.asy z z
          · omega
        have d1 : ¬ ((2 * (i : Int) + 1 + 1) < (n : Int)) := by omega
        clear HW HL hm
        have HS2 := hid HS.out
        clear HS
        go_upto_region 8 with fail
        have ej : 2 * (i : Int) + 1 = ((2 * i + 1 : Nat) : Int) := by omega
        rw [ej]
        clear hjn
        have hjn : 2 * i + 1 < n := hj
        have hjb : 2 * i + 1 < bs'.length ∧ i < 2 * i + 1 ∧ (2 * i + 1 - 1) / 2 = i := ⟨hj1, by omega, by omega⟩
        clear ej xw1 xw2 xw3 c1 c2 d1
        generalize 2 * i + 1 = j at *
        generalize wr = w2 at *
      all_goals
        obtain ⟨hjl, hj3, hj4⟩ := hjb
        obtain ⟨u1, c1', q1⟩ := HS2.out.pl _ (List.getElem_mem hjl)
        obtain ⟨u2, c2', q2⟩ := HS2.out.pl _ (List.getElem_mem hil)
        have HLL := hid (pLess_any v bs' j i w2 HS2.out.row hjl hil _ _ _ _ _ _ _ _ q1 q2)
        have hm := mLess ⟨sb, 2, none⟩ w2 v HS2.out.sc.cells.2.2.1
        have e1 := Hp.nth_get 0 bs' hjl
        have e2 := Hp.nth_get 0 bs' hil
        cases hb : lessB (K (bs'[j]'hjl)).1 (K (bs'[j]'hjl)).2 (K (bs'[i]'hil)).1 (K (bs'[i]'hil)).2 with
        | true =>
          rw [hb] at HLL
          have HLT : Hid (ltK K (Hp.nth 0 bs' j) (Hp.nth 0 bs' i)) := by show ltK K _ _; rw [e1, e2]; exact hb
          clear q1 q2 e1 e2 hb
          go_wp2_with fail
          refine HLL.out.mono ?_
          rintro r w5 ⟨rfl, hb2⟩
          have HS3 := hid (HS2.out.below hb2)
          have hm2 := mSwap ⟨sb, 2, none⟩ w5 v HS3.out.sc.cells.2.2.1
          have HWS := hid (pSwap_any v bs' i j w5 HS3.out.row hil hjl)
          go_wp2_with fail
          refine HWS.out.mono ?_
          rintro r w6 ⟨rfl, ho3, hg3, -⟩
          have HS4 := hid (HS3.out.swap hil hjl ho3 hg3)
          have HD4 : Hid (Hp.DownI (ltK K) (Hp.nth 0 (Hp.swL 0 bs' i j)) n j) := by
            have := HD'.out.step HO.out hjn (by omega) hj4 HM.out HLT.out
            rw [show Hp.nth 0 (Hp.swL 0 bs' i j) = Hp.swp (Hp.nth 0 bs') i j from funext fun k => Hp.swL_nth 0 bs' hil hjl k]
            exact this
          have HK4 : Hid (∀ k, n ≤ k → Hp.nth 0 (Hp.swL 0 bs' i j) k = Hp.nth 0 bs k) := fun k hk => by
            rw [Hp.swL_nth 0 bs' hil hjl k, Hp.swp_o _ (by omega) (by omega)]
            exact HK.out k hk
          clear ho3 hg3 hb2
          go_wp2_with fail
          exact ⟨⟨j, _, rfl, by omega, HS4.out, HD4.out, HK4.out⟩, by simp [intOf]; omega⟩
        | false =>
          rw [hb] at HLL
          have HLT : Hid (¬ ltK K (Hp.nth 0 bs' j) (Hp.nth 0 bs' i)) := by show ¬ ltK K _ _; rw [e1, e2]; unfold ltK; rw [hb]; simp
          have HF : Hid (Hp.Heap (ltK K) (Hp.nth 0 bs') n) := HD'.out.done fun k h0 hk hp => HO.out.tr HLT.out (HM.out k h0 hk hp)
          clear q1 q2 e1 e2 hb
          go_wp2_with fail
          refine HLL.out.mono ?_
          rintro r w5 ⟨rfl, hb2⟩
          have HS3 := hid (HS2.out.below hb2)
          go_wp2_with fail
          go_ret
          exact ⟨⟨_, rfl⟩, bs', HS3.out, HF.out, HK.out⟩
    · have c1 : (n : Int) ≤ ((2 * i + 1 : Nat) : Int) := by omega
      have HF : Hid (Hp.Heap (ltK K) (Hp.nth 0 bs') n) := HD'.out.done fun k h0 hk hp => by omega
      go_wp2_with fail
      go_ret
      exact ⟨⟨_, rfl⟩, bs', HS.out, HF.out, HK.out⟩
end Go.Proofs.YtolgpnaoaodepaaGreat
/- up, and heap's Pop. -/
namespace Go.Proofs.YtolgpnaoaodepaaGreat
open Go.RowKit

set_option maxHeartbeats 2000000 in
set_option maxRecDepth 4000 in
theorem hUp_any (sb : Nat) (fr ub : ByteArray) (v : Value) (K : Nat → ByteArray × Nat) (bs : List Nat) (n : Nat) (w : World) (hs : ScB w sb fr ub v) (h : OwnsPt 0 w v bs) (hp : PlK w K bs) (hn : bs.length = n + 1) (hl : bs.length ≤ 1000000000) (hd : Hp.Heap (ltK K) (Hp.nth 0 bs) n) (O : Hp.Ord (ltK K)) :
    Calls Tryz.prog 236 #[.iface 193 (.pointer (some ⟨sb, 2, none⟩)), .int .i64 (n : Nat)] w fun r w' => r = .returned (.tuple #[]) ∧ ∃ bs', HpS w sb fr ub v K bs bs' w' ∧ Hp.Heap (ltK K) (Hp.nth 0 bs') (n + 1) := by
  have H0 : Hid (HpS w sb fr ub v K bs bs w) := ⟨hs, h, hp, List.Perm.refl _, World.grownBy.refl _ _⟩
  have HD : Hid (Hp.UpI (ltK K) (Hp.nth 0 bs) (n + 1) n) := Hp.UpI.start hd
  have HO := hid O
  clear hs h hp hd O
  go_enter Tryz.func236, Tryz.ntmps236
  go_wp2_with fail
  go_loopw [1] (fun vj wr => ∃ j bs', vj = .int .i64 (j : Nat) ∧ j ≤ n ∧ HpS w sb fr ub v K bs bs' wr ∧ Hp.UpI (ltK K) (Hp.nth 0 bs') (n + 1) j) (fun vj _ => (intOf vj).toNat)
  case atStart => exact ⟨n, bs, rfl, Nat.le_refl _, H0.out, HD.out⟩
  case round =>
    obtain ⟨j, bs', rfl, hjn, hS, hD⟩ := hrel
    have HS := hid hS
    have HD' := hid hD
    have hlen : bs'.length = bs.length := hS.perm.length_eq
    clear hS hD
    have xw1 : IntKind.i64.wrap ((j : Int) - 1) = (j : Int) - 1 := by rw [IntKind.wrap_i64]; omega
    by_cases hj0 : j = 0
    · subst hj0
      have HF : Hid (Hp.Heap (ltK K) (Hp.nth 0 bs') (n + 1)) := HD'.out.done (.inl rfl)
      go_wp2_with fail
      go_end0
      exact ⟨rfl, bs', HS.out, HF.out⟩
    · obtain ⟨i, hi⟩ : ∃ i, i = (j - 1) / 2 := ⟨_, rfl⟩
      have hij : i < j := by omega
      have xw2 : IntKind.i64.wrap (((j : Int) - 1).tdiv 2) = (i : Int) := by
        rw [show ((j : Int) - 1) = ((j - 1 : Nat) : Int) by omega, Int.tdiv_eq_ediv_of_nonneg (by omega), IntKind.wrap_i64]; omega
      have xw3 : ((j : Int) - 1).tdiv 2 = (i : Int) := by
        rw [show ((j : Int) - 1) = ((j - 1 : Nat) : Int) by omega, Int.tdiv_eq_ediv_of_nonneg (by omega)]; omega
      have HI := hid hi
      clear hi
      have hne : ((i : Int) == (j : Int)) = false := by simp; omega
      have hjl : j < bs'.length := by omega
      have hil : i < bs'.length := by omega
      obtain ⟨u1, c1', q1⟩ := HS.out.pl _ (List.getElem_mem hjl)
      obtain ⟨u2, c2', q2⟩ := HS.out.pl _ (List.getElem_mem hil)
      have HLL := hid (pLess_any v bs' j i wr HS.out.row hjl hil _ _ _ _ _ _ _ _ q1 q2)
      have hm := mLess ⟨sb, 2, none⟩ wr v HS.out.sc.cells.2.2.1
      have e1 := Hp.nth_get 0 bs' hjl
      have e2 := Hp.nth_get 0 bs' hil
      cases hb : lessB (K (bs'[j]'hjl)).1 (K (bs'[j]'hjl)).2 (K (bs'[i]'hil)).1 (K (bs'[i]'hil)).2 with
      | true =>
        rw [hb] at HLL
        have HLT : Hid (ltK K (Hp.nth 0 bs' j) (Hp.nth 0 bs' i)) := by show ltK K _ _; rw [e1, e2]; exact hb
        clear q1 q2 e1 e2 hb
        go_wp2_with fail
        refine HLL.out.mono ?_
        rintro r w5 ⟨rfl, hb2⟩
        have HS3 := hid (HS.out.below hb2)
        have hm2 := mSwap ⟨sb, 2, none⟩ w5 v HS3.out.sc.cells.2.2.1
        have HWS := hid (pSwap_any v bs' i j w5 HS3.out.row hil hjl)
        go_wp2_with fail
        refine HWS.out.mono ?_
        rintro r w6 ⟨rfl, ho3, hg3, -⟩
        have HS4 := hid (HS3.out.swap hil hjl ho3 hg3)
        have HD4 : Hid (Hp.UpI (ltK K) (Hp.nth 0 (Hp.swL 0 bs' i j)) (n + 1) i) := by
          have := HD'.out.step HO.out HI.out (by omega) (by omega) HLT.out
          rw [show Hp.nth 0 (Hp.swL 0 bs' i j) = Hp.swp (Hp.nth 0 bs') i j from funext fun k => Hp.swL_nth 0 bs' hil hjl k]
          exact this
        clear ho3 hg3 hb2
        go_wp2_with fail
        exact ⟨⟨i, _, rfl, by omega, HS4.out, HD4.out⟩, by simp [intOf]; omega⟩
      | false =>
        rw [hb] at HLL
        have HF : Hid (Hp.Heap (ltK K) (Hp.nth 0 bs') (n + 1)) := HD'.out.done (.inr (by rw [← HI.out, e1, e2]; unfold ltK; rw [hb]; simp))
        clear q1 q2 e1 e2 hb
        go_wp2_with fail
        refine HLL.out.mono ?_
        rintro r w5 ⟨rfl, hb2⟩
        have HS3 := hid (HS.out.below hb2)
        go_wp2_with fail
        go_end0
        exact ⟨rfl, bs', HS3.out, HF.out⟩
theorem HpS.trans {w : World} {sb : Nat} {fr ub : ByteArray} {v : Value} {K : Nat → ByteArray × Nat} {bs0 bs1 bs2 : List Nat} {w1 w2 : World} (h1 : HpS w sb fr ub v K bs0 bs1 w1) (h2 : HpS w1 sb fr ub v K bs1 bs2 w2) : HpS w sb fr ub v K bs0 bs2 w2 := ⟨h2.sc, h2.row, h2.pl, h2.perm.trans h1.perm, gr_trans h1.gr h2.gr⟩
/-- A heap of places. -/
structure HpQ (sb : Nat) (fr ub : ByteArray) (v : Value) (K : Nat → ByteArray × Nat) (bs : List Nat) (w : World) : Prop where
  sc : ScB w sb fr ub v
  row : OwnsPt 0 w v bs
  pl : PlK w K bs
  heap : Hp.Heap (ltK K) (Hp.nth 0 bs) bs.length
theorem getLast_nth (bs : List Nat) {n : Nat} (h : bs.length = n + 1) : bs = bs.take n ++ [Hp.nth 0 bs n] := by
  rw [Hp.nth_get 0 bs (by omega), List.take_append_getElem (by omega), List.take_of_length_le (by omega)]

set_option maxHeartbeats 400000 in
set_option maxRecDepth 4000 in
theorem hPop_any (sb : Nat) (fr ub : ByteArray) (v : Value) (K : Nat → ByteArray × Nat) (bs : List Nat) (w : World) (h : HpQ sb fr ub v K bs w) (hpos : 0 < bs.length) (hl : bs.length ≤ 1000000000) (O : Hp.Ord (ltK K)) :
    Calls Tryz.prog 131 #[.iface 193 (.pointer (some ⟨sb, 2, none⟩))] w fun r w' => ∃ b bs' v', r = .returned (.iface 137 (.pointer (some ⟨b, 0, none⟩))) ∧ bs.Perm (b :: bs') ∧ (∀ c ∈ bs', ¬ ltK K c b) ∧ HpQ sb fr ub v' K bs' w' ∧ v'.ownBlock = v.ownBlock ∧ (∀ g, g < w.heap.size → g ≠ sb → v.ownBlock ≠ some g → w'.heap[g]? = w.heap[g]?) ∧ w.heap.size ≤ w'.heap.size ∧ w'.os = w.os ∧ w'.tape = w.tape ∧ w'.output = w.output := by
  obtain ⟨n, hn⟩ : ∃ n, bs.length = n + 1 := ⟨bs.length - 1, by omega⟩
  obtain ⟨a, c, hv⟩ := rowShape h.row
  have H0 : Hid (HpS w sb fr ub v K bs bs w) := ⟨h.sc, h.row, h.pl, List.Perm.refl _, World.grownBy.refl _ _⟩
  have HH := hid h.heap
  have HO := hid O
  have hm0 := mLen ⟨sb, 2, none⟩ w v h.sc.cells.2.2.1
  have hm1 := mSwap ⟨sb, 2, none⟩ w v h.sc.cells.2.2.1
  have HSW := hid (pSwap_any v bs 0 n w h.row (by omega) (by omega))
  have xw : IntKind.i64.wrap (((n + 1 : Nat) : Int) - 1) = (n : Int) := by rw [IntKind.wrap_i64]; omega
  have xw' : IntKind.i64.wrap ((n : Int) + 1 - 1) = (n : Int) := by rw [IntKind.wrap_i64]; omega
  have HL := hid (pLen_any a bs.length c w)
  rw [← hv, hn] at HL
  clear hv
  have hmp := fun w' => mPop ⟨sb, 2, none⟩ w'
  clear h O
  go_enter Tryz.func131, Tryz.ntmps131
  go_wp2_with fail
  refine HL.out.mono ?_
  rintro r w ⟨rfl, rfl⟩
  go_wp2_with fail
  refine HSW.out.mono ?_
  rintro r w1 ⟨rfl, ho1, hg1, -⟩
  have hS1 := H0.out.swap (i := 0) (j := n) (by omega) (by omega) ho1 hg1
  have hfun : Hp.nth 0 (Hp.swL 0 bs 0 n) = Hp.swp (Hp.nth 0 bs) 0 n := funext fun k => Hp.swL_nth 0 bs (by omega) (by omega) k
  have hD1 : Hp.DownI (ltK K) (Hp.nth 0 (Hp.swL 0 bs 0 n)) n 0 := by
    rw [hfun]
    have := HH.out
    rw [hn] at this
    exact Hp.DownI.start this
  have hl1 : (Hp.swL 0 bs 0 n).length = n + 1 := by rw [Hp.swL_len, hn]
  have HDN := hid (hDown_any sb fr ub v K (Hp.swL 0 bs 0 n) n w1 hS1.sc hS1.row hS1.pl (by omega) (by omega) hD1 HO.out)
  have HS1 := hid hS1
  clear hS1 hD1 ho1 hg1 HSW HL
  go_wp2_with fail
  refine HDN.out.mono ?_
  rintro r w2 ⟨⟨q, rfl⟩, bs2, hS2, hH2, hK2⟩
  have hl2 : bs2.length = n + 1 := by rw [hS2.perm.length_eq, hl1]
  have hlast : Hp.nth 0 bs2 n = Hp.nth 0 bs 0 := by rw [hK2 n (Nat.le_refl _), hfun, Hp.swp_j]
  have hsplit := getLast_nth bs2 hl2
  rw [hlast] at hsplit
  have hS3 := HS1.out.trans hS2
  have hrow3 := hS3.row
  rw [hsplit] at hrow3
  have HP := hid (pPop_any sb fr ub v (bs2.take n) (Hp.nth 0 bs 0) w2 hS3.sc hrow3 (by simp; omega))
  have HS3 := hid hS3
  have HSP := hid hsplit
  have HH2 := hid hH2
  clear hS2 hH2 hK2 hS3 hrow3 hlast
  go_wp2_with fail
  refine HP.out.mono ?_
  rintro r w3 ⟨rfl, v', rfl, ho4, hv4⟩
  have HF : Hid (bs.Perm (Hp.nth 0 bs 0 :: bs2.take n) ∧ (∀ c ∈ bs2.take n, ¬ ltK K c (Hp.nth 0 bs 0)) ∧ HpQ sb fr ub v' K (bs2.take n) (w2.setCell ⟨sb, 2, none⟩ v') ∧ v'.ownBlock = v.ownBlock ∧ (∀ g, g < w.heap.size → g ≠ sb → v.ownBlock ≠ some g → (w2.setCell ⟨sb, 2, none⟩ v').heap[g]? = w.heap[g]?) ∧ w.heap.size ≤ (w2.setCell ⟨sb, 2, none⟩ v').heap.size ∧ (w2.setCell ⟨sb, 2, none⟩ v').os = w.os ∧ (w2.setCell ⟨sb, 2, none⟩ v').tape = w.tape ∧ (w2.setCell ⟨sb, 2, none⟩ v').output = w.output) := by
    have hS3 := HS3.out
    have hb := but_set sb 2 w2 v'
    have hperm : bs.Perm (Hp.nth 0 bs 0 :: bs2.take n) := by
      have h1 := hS3.perm.symm
      have h2 : bs2.Perm (Hp.nth 0 bs 0 :: bs2.take n) := by
        conv => lhs; rw [HSP.out]
        exact List.perm_append_comm
      exact h1.trans h2
    refine ⟨hperm, fun c hc => ?_, ⟨hS3.sc.set v', ?_, fun b hb' => ?_, ?_⟩, hv4, fun g hg h1 h2 => ?_, ?_, ?_, ?_, ?_⟩
    · have hcm : c ∈ bs := hperm.mem_iff.2 (List.mem_cons_of_mem _ hc)
      obtain ⟨k, hk, rfl⟩ := List.getElem_of_mem hcm
      have := HH.out.root HO.out k hk
      rw [Hp.nth_get 0 bs hk] at this
      exact this
    · refine row_same ho4 fun g hg _ => hb.block g ?_ (fun e => ?_)
      · exact (World.ownsRow.lt ho4 g hg).2
      · have : g = sb := by simpa using e
        rw [this] at hg
        exact blk_type hS3.sc ho4 (by decide) hg
    · have hbm : b ∈ bs2 := List.mem_of_mem_take hb'
      obtain ⟨u, c, q⟩ := hS3.pl b hbm
      refine ⟨u, c, (hb.block b q.lt (fun e => ?_)).trans q⟩
      have e : b = sb := by simpa using e
      rw [e] at q
      have q1 := hS3.sc
      unfold PlB at q
      unfold ScB at q1
      rw [q] at q1
      simp at q1
    · have hlt : (bs2.take n).length = n := by rw [List.length_take]; omega
      rw [hlt]
      refine HH2.out.congr fun k hk => ?_
      unfold Hp.nth
      rw [List.getElem?_take_of_lt hk]
    · exact (hb.block g (by have := hS3.gr.size; omega) (fun e => h1 (by simpa using e))).trans (hS3.gr.block g hg (fun e => h2 e.symm))
    · have := hS3.gr.size; have := hb.size; omega
    · exact hb.os.trans hS3.gr.os
    · exact hb.tape.trans hS3.gr.tape
    · exact hb.output.trans hS3.gr.output
  clear HS3 HSP HH2 HP HH ho4 hv4
  go_wp2_with fail
  go_ret
  exact ⟨_, _, _, rfl, HF.out⟩
end Go.Proofs.YtolgpnaoaodepaaGreat
/- A place is added. -/
namespace Go.Proofs.YtolgpnaoaodepaaGreat
open Go.RowKit

theorem info_pt : (Tryz.prog.info? 137).map (fun i => (i.zero, i.size, i.bytes)) = some (some (.pointer none), 1, 8) := by kernel_rfl
theorem assertPt (a : Option Addr) (w : World) : (Instr.typeAssert (.iface 137 (.pointer a)) 20 137 false).run Tryz.prog w = .ok (.pointer a) w := by kernel_rfl
theorem one_ptcells (l : List Nat) : ∀ v ∈ ptcells l, v.oneCell' = true := fun v hv => by
  obtain ⟨b, _, rfl⟩ := List.mem_map.1 hv; rfl
theorem row_one (w : World) (b : Nat) : (w.alloc (.cells #[.pointer (some ⟨b, 0, none⟩)] 137)).ownsRow 0 137 1 (.slice (some ⟨w.heap.size, 0, none⟩) 1 1) 1 (ptcells [b]) :=
  ⟨rfl, .inr ⟨w.heap.size, 1, #[.pointer (some ⟨b, 0, none⟩)], rfl, Nat.zero_le _, heap_alloc_new _ _, Nat.le_refl _, by unfold maxLen; omega, by simp, by simp [ptcells]⟩⟩

set_option maxHeartbeats 400000 in
set_option maxRecDepth 4000 in
theorem pPush_any (sb : Nat) (fr ub : ByteArray) (v : Value) (bs : List Nat) (b : Nat) (w : World) (hs : ScB w sb fr ub v) (h : OwnsPt 0 w v bs) (hl : bs.length ≤ 100000000) :
    Calls Tryz.prog 296 #[.pointer (some ⟨sb, 2, none⟩), .iface 137 (.pointer (some ⟨b, 0, none⟩))] w fun r w' => r = .returned (.tuple #[]) ∧ ∃ v', ScB w' sb fr ub v' ∧ OwnsPt 0 w' v' (bs ++ [b]) ∧ (v'.ownBlock = v.ownBlock ∨ ∃ k, w.heap.size ≤ k ∧ v'.ownBlock = some k) ∧ Mod (fun g => g = sb ∨ v.ownBlock = some g) w w' := by
  have hb1 : Below w.heap.size w (w.alloc (.cells #[.pointer (some ⟨b, 0, none⟩)] 137)) := (Below.refl _ w).alloc (Nat.le_refl _) _
  have h1 : OwnsPt 0 (w.alloc (.cells #[.pointer (some ⟨b, 0, none⟩)] 137)) v bs := row_below h hb1 (Nat.le_refl _)
  obtain ⟨a0, c0, rfl⟩ := rowShape h
  obtain ⟨v2, w2, e2, o2, g2, k2⟩ := run_rows (w.alloc (.cells #[.pointer (some ⟨b, 0, none⟩)] 137)).drew 141 141 137 Tryz.underlying141 _ 1 8 info_pt rfl (by decide) (by decide) (.slice a0 bs.length c0) (.slice (some ⟨w.heap.size, 0, none⟩) 1 1) bs.length 1 (ptcells bs) (ptcells [b]) h1 (row_one w b) (one_ptcells _) (by omega)
  have hne : (Value.slice a0 bs.length c0).ownBlock ≠ some sb := blk_type hs h (by decide)
  have m1 : Mod (fun _ => False) w (w.alloc (.cells #[.pointer (some ⟨b, 0, none⟩)] 137)).drew := ⟨hb1.os, hb1.tape, hb1.output, hb1.size, fun k hk _ => hb1.block k hk⟩
  have m2 : Mod (fun k => (Value.slice a0 bs.length c0).ownBlock = some k) (w.alloc (.cells #[.pointer (some ⟨b, 0, none⟩)] 137)).drew w2 := Mod.of_grown g2
  have m12 : Mod (fun g => g = sb ∨ (Value.slice a0 bs.length c0).ownBlock = some g) w w2 := m1.trans m2 (fun _ _ q => q.elim) (fun _ _ q => .inr q)
  have hs2 : ScB w2 sb fr ub (.slice a0 bs.length c0) := (m2.block sb (Nat.lt_of_lt_of_le hs.lt m1.size) hne).trans ((m1.block sb hs.lt id).trans hs)
  have m3 := Mod.setCell w2 sb 2 v2
  obtain ⟨a2, n2, c2, rfl⟩ := shape3 o2
  have hvn : (Value.slice a2 n2 c2).ownBlock ≠ some sb := blk_type hs2 o2 (by decide)
  have HF : Hid (ScB (w2.setCell ⟨sb, 2, none⟩ (.slice a2 n2 c2)) sb fr ub (.slice a2 n2 c2) ∧ OwnsPt 0 (w2.setCell ⟨sb, 2, none⟩ (.slice a2 n2 c2)) (.slice a2 n2 c2) (bs ++ [b]) ∧ ((Value.slice a2 n2 c2).ownBlock = (Value.slice a0 bs.length c0).ownBlock ∨ ∃ k, w.heap.size ≤ k ∧ (Value.slice a2 n2 c2).ownBlock = some k) ∧ Mod (fun g => g = sb ∨ (Value.slice a0 bs.length c0).ownBlock = some g) w (w2.setCell ⟨sb, 2, none⟩ (.slice a2 n2 c2))) := by
    refine ⟨hs2.set _, m3.row ?_ (fun g hg q => hvn (by rw [← q]; exact hg)), k2.imp id (fun q => ⟨_, m1.size, q⟩), m12.trans m3 (fun _ _ q => q) (fun _ _ q => .inl q)⟩
    rw [List.length_append, show ptcells (bs ++ [b]) = ptcells bs ++ ptcells [b] by simp [ptcells]]
    exact o2
  have HE2 := hid e2
  obtain ⟨s0, s1, s2, s3⟩ := hs.cells
  obtain ⟨t0, t1, t2, t3⟩ := hs2.cells
  have hsl := hs.lt
  have y2 : (w.alloc (.cells #[.pointer (some ⟨b, 0, none⟩)] 137)).cell? ⟨sb, 2, none⟩ = some (.slice a0 bs.length c0) := (hb1.cell (p := ⟨sb, 2, none⟩) hsl).trans s2
  clear hs h hb1 h1 e2 o2 g2 k2 hne m1 m2 m12 hs2 m3 hvn
  have hta := fun W => assertPt (some ⟨b, 0, none⟩) W
  go_enter Tryz.func296, Tryz.ntmps296
  go_upto_region 0 with fail
  go_region_law (refine stepAp _ (by rfl) (.tmp 7) (.tmp 10) _ _ (by rfl) _ _ (by rfl) (by simp [Act.eval]) _ _ HE2.out ?_)
  all_goals
    go_wp2_with fail
    go_end0
    exact ⟨rfl, _, HF.out⟩
end Go.Proofs.YtolgpnaoaodepaaGreat
