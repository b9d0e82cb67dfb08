/- The walk of the reference's old. -/
import Derived.Test.YtolgpnaoaodepaaGreatMathVm
import Derived.Test.YtolgpnaoaodepaaGreatLawYm
import Derived.Test.YtolgpnaoaodepaaGreatRefCm
import Derived.Test.YtolgpnaoaodepaaGreatLawUm
import Derived.Test.YtolgpnaoaodepaaGreatMathUm
namespace Go.Proofs.YtolgpnaoaodepaaGreat
open Go.RowKit

/-- What the reference's old ends in. -/
def OldE (w : World) (t : List UInt8) (r : Ending) (w' : World) : Prop :=
  Below w.heap.size w w' ∧ ∃ kd il cl pl ml v b, r = .returned (.tuple #[v, .bool b]) ∧ NodeV w.heap.size w' v kd il cl pl ml ∧ (b = true → Pr.wellT (kd, plain il, cl, lists pl, plainCh ml) = true ∧ Pr.oldT (kd, plain il, cl, lists pl, plainCh ml) = t) ∧ (∀ n, Pr.wellT n = true → Pr.oldT n = t → b = true ∧ n = (kd, plain il, cl, lists pl, plainCh ml))
/-- While it reads: its result, its node, its cursor. -/
structure OlMid (w wr : World) (c : Pg.Cur) (kd : Int) (il : List (ByteArray × ByteArray)) (cl : List Nat) (pl : List ByteArray) (ml : List (Int × ByteArray × ByteArray)) (vi vc vp vm : Value) : Prop where
  res : ResF w wr
  nd : NdB (w.heap.size + 1) (w.heap.size + 3) wr (.int .i64 kd) il cl pl ml vi vc vp vm
  cur : Curs wr (w.heap.size + 2) c
theorem OlMid.step {w wr wx : World} {c c' : Pg.Cur} {kd : Int} {il : List (ByteArray × ByteArray)} {cl : List Nat} {pl : List ByteArray} {ml : List (Int × ByteArray × ByteArray)} {vi vc vp vm : Value} (h : OlMid w wr c kd il cl pl ml vi vc vp vm) (hc : Curs wx (w.heap.size + 2) c') (hb : But (w.heap.size + 2) wr wx) : OlMid w wx c' kd il cl pl ml vi vc vp vm :=
  ⟨h.res.but hb (by omega), h.nd.butLow hb (by omega) (by omega), hc⟩
theorem OlMid.below {w wr wx : World} {c : Pg.Cur} {kd : Int} {il : List (ByteArray × ByteArray)} {cl : List Nat} {pl : List ByteArray} {ml : List (Int × ByteArray × ByteArray)} {vi vc vp vm : Value} (h : OlMid w wr c kd il cl pl ml vi vc vp vm) (hb : Below wr.heap.size wr wx) : OlMid w wx c kd il cl pl ml vi vc vp vm :=
  ⟨h.res.below hb, h.nd.below hb, h.cur.below hb⟩
theorem OlMid.drewN {w wr : World} {c : Pg.Cur} {kd : Int} {il : List (ByteArray × ByteArray)} {cl : List Nat} {pl : List ByteArray} {ml : List (Int × ByteArray × ByteArray)} {vi vc vp vm : Value} (h : OlMid w wr c kd il cl pl ml vi vc vp vm) (q : Nat) : OlMid w (wr.drewN q) c kd il cl pl ml vi vc vp vm :=
  ⟨h.res.drewN q, h.nd.drewN q, h.cur.drewN q⟩
theorem OlMid.other {w wr wx : World} {c : Pg.Cur} {kd kd' : Int} {il il' : List (ByteArray × ByteArray)} {cl cl' : List Nat} {pl pl' : List ByteArray} {ml ml' : List (Int × ByteArray × ByteArray)} {vi vc vp vm vi' vc' vp' vm' u : Value} {i : Nat} (h : OlMid w wr c kd il cl pl ml vi vc vp vm) (hb : Below (w.heap.size + 3) wr wx) (hn : NdB (w.heap.size + 1) (w.heap.size + 3) (wx.setCell ⟨w.heap.size + 1, i, none⟩ u) (.int .i64 kd') il' cl' pl' ml' vi' vc' vp' vm') : OlMid w (wx.setCell ⟨w.heap.size + 1, i, none⟩ u) c kd' il' cl' pl' ml' vi' vc' vp' vm' :=
  ⟨(h.res.belowB hb (by omega)).but (but_set (w.heap.size + 1) i wx u) (by omega), hn, (h.cur.other (hb.block (w.heap.size + 2) (by omega))).other (Below.heap_setCell wx (⟨w.heap.size + 1, i, none⟩ : Addr) u (w.heap.size + 2) (by show w.heap.size + 2 ≠ w.heap.size + 1; omega))⟩
theorem NdB.setK {nb B : Nat} {wr : World} {kd : Value} {il : List (ByteArray × ByteArray)} {cl : List Nat} {pl : List ByteArray} {ml : List (Int × ByteArray × ByteArray)} {vi vc vp vm : Value} (h : NdB nb B wr kd il cl pl ml vi vc vp vm) (kd' : Value) : NdB nb B (wr.setCell ⟨nb, 0, none⟩ kd') kd' il cl pl ml vi vc vp vm := by
  have hlt := h.lt
  have hle := h.le
  exact ⟨h.var.set0 kd', row_set h.its hlt _, row_set h.kids hlt _, row_set h.pivs hlt _, row_set h.chgs hlt _, h.ic, h.ip, h.im, h.cp, h.cm, h.pm, hlt, by simp [World.setCell]; omega⟩
theorem oldPage_any (v : Value) (kd : Int) (il : List (ByteArray × ByteArray)) (cl : List Nat) (pl : List ByteArray) (ml : List (Int × ByteArray × ByteArray)) (w : World) (h : IsNode w v kd il (cl.map Int.ofNat) pl ml) (hw : Pr.wellT (kd, plain il, cl, lists pl, plainCh ml) = true) :
    Calls Tryz.prog 49 #[v] w fun r w' => r = .returned (.string ⟨(Pr.oldT (kd, plain il, cl, lists pl, plainCh ml)).toArray⟩) ∧ Below w.heap.size w w' := by
  obtain ⟨v1, v2, v3, v4, rfl, h1, h2, h3, h4, h5⟩ := h
  unfold Pr.wellT Pg.well at hw
  simp only at hw
  by_cases hk : kd = 1
  · subst hk
    rw [if_pos rfl] at hw
    simp only [Bool.and_eq_true, decide_eq_true_eq] at hw
    obtain ⟨⟨⟨⟨ho, hl⟩, _⟩, _⟩, _⟩ := hw
    refine oldLeaf_any v1 v2 v3 v4 il w h1 (by simpa [plain] using hl) fun x hx => ?_
    have := Pg.okList_sz _ _ ho (x.1.data.toList, x.2.data.toList) (List.mem_map.2 ⟨x, hx, rfl⟩)
    simpa only [len_size] using this
  · rw [if_neg hk] at hw
    simp only [Bool.and_eq_true, decide_eq_true_eq] at hw
    obtain ⟨⟨⟨⟨⟨⟨⟨⟨hp, hc⟩, hm⟩, hk2⟩, _⟩, _⟩, hc4⟩, hpc⟩, hm8⟩ := hw
    subst hk2
    rw [List.map_map, List.length_map] at h3
    have e3 : (lists pl).length = pl.length := by simp [lists]
    have e4 : (plainCh ml).length = ml.length := by simp [plainCh]
    rw [List.length_map] at hc4 hpc
    refine oldBranch_any v1 v2 v3 v4 cl pl ml w h3 h4 h5 hc4 (fun c hcm => ?_) (by omega) (fun x hx => ?_) (by omega) (fun x hx => ?_)
    · have := List.all_eq_true.1 hc (Int.ofNat c) (List.mem_map.2 ⟨c, hcm, rfl⟩)
      simp only [Pg.okChild, Bool.and_eq_true, decide_eq_true_eq] at this
      have := this.2
      simp only [Int.ofNat_eq_natCast] at this
      omega
    · have := Pg.okPivots_sz _ _ hp x.data.toList (List.mem_map.2 ⟨x, hx, rfl⟩)
      simpa only [len_size] using this
    · have := List.all_eq_true.1 hm (x.1, x.2.1.data.toList, x.2.2.data.toList) (List.mem_map.2 ⟨x, hx, rfl⟩)
      simp only [Pg.okChange, Pg.isChange, Bool.and_eq_true, Bool.or_eq_true, decide_eq_true_eq, len_size] at this
      have hky := Pg.isKey_le this.1.1
      omega
set_option maxHeartbeats 8000000 in
set_option maxRecDepth 100000 in
theorem old_any (s : ByteArray) (w : World) (hs : s.size ≤ 10000000) :
    Calls Tryz.prog 159 #[.string s] w fun r w' => OldE w s.data.toList r w' := by
  have HM0 : Hid (OlMid w (((w.alloc (.cells #[.int .i64 0, .slice none 0 0, .slice none 0 0, .slice none 0 0, .slice none 0 0] 79)).alloc (.cells #[.int .i64 0, .slice none 0 0, .slice none 0 0, .slice none 0 0, .slice none 0 0] 79)).alloc (.cells #[.string s, .int .i64 0, .bool false] 259)) ⟨s.data.toList, false⟩ 0 [] [] [] [] (.slice none 0 0) (.slice none 0 0) (.slice none 0 0) (.slice none 0 0)) := by
    generalize hO : (Obj.cells #[.int .i64 0, .slice none 0 0, .slice none 0 0, .slice none 0 0, .slice none 0 0] 79) = O
    have key : ∀ W : World, NodeB (W.alloc O) W.heap.size (.int .i64 0) (.slice none 0 0) (.slice none 0 0) (.slice none 0 0) (.slice none 0 0) := fun W => by rw [← hO]; exact nodeB_new W _ _ _ _ _
    have s1 : (w.alloc O).heap.size = w.heap.size + 1 := by simp
    have s2 : ((w.alloc O).alloc O).heap.size = w.heap.size + 2 := by simp
    have k1 := key (w.alloc O)
    rw [s1] at k1
    have kc := curs_new s ((w.alloc O).alloc O) (by omega)
    rw [s2] at kc
    exact ⟨⟨((key w).keep ((Below.refl _ _).alloc (Nat.le_refl _) _)).keep ((Below.refl _ _).alloc (Nat.le_refl _) _), (((Below.refl _ w).alloc (Nat.le_refl _) _).alloc (by simp) _).alloc (by simp; omega) _⟩, ndB_new (k1.keep ((Below.refl _ _).alloc (Nat.le_refl _) _)) (by omega) (by simp), kc⟩
  go_enter Tryz.func159, Tryz.ntmps159
  go_wp2_with fail
  generalize ((w.alloc (.cells #[.int .i64 0, .slice none 0 0, .slice none 0 0, .slice none 0 0, .slice none 0 0] 79)).alloc (.cells #[.int .i64 0, .slice none 0 0, .slice none 0 0, .slice none 0 0, .slice none 0 0] 79)).alloc (.cells #[.string s, .int .i64 0, .bool false] 259) = w0 at *
  rw [show w.heap.size + 1 + 1 = w.heap.size + 2 from rfl]
  refine (take_any (w.heap.size + 2) 3 _ w0 HM0.out.cur (by omega)).mono ?_
  rintro r w1 ⟨rfl, hc1, hb1⟩
  have HM1 := hid (HM0.out.step hc1 hb1)
  clear hc1 hb1 HM0
  rw [show ((⟨s.data.toList, false⟩ : Pg.Cur).take 3) = Pg.oM s.data.toList from rfl] at HM1 ⊢
  go_wp2_with fail
  refine (take_any (w.heap.size + 2) 1 _ w1 HM1.out.cur (by omega)).mono ?_
  rintro r w2 ⟨rfl, hc2, hb2⟩
  have HM2 := hid (HM1.out.step hc2 hb2)
  clear hc2 hb2 HM1
  go_wp2_with fail
  refine (high_any _ _ (by rw [byte_any]; omega)).mono ?_
  rintro r w3 ⟨rfl, rfl⟩
  rw [show Pg.high (⟨((Pg.oM s.data.toList).2.take 1).1.toArray⟩ : ByteArray).data.toList = Pg.oK s.data.toList from rfl]
  rw [show ((Pg.oM s.data.toList).2.take 1).2 = Pg.oC s.data.toList from rfl] at HM2
  have hK : Pg.oK s.data.toList < 256 := Pg.byte_lt _
  have HRO : Hid (∀ x, Pg.refOld s.data.toList = x ↔ (if (Pg.oM s.data.toList).1 = [83, 49, 76] then ((1, (Pg.rdIts (Pg.oK s.data.toList) (Pg.oC s.data.toList)).1, [], [], []), (Pg.rdIts (Pg.oK s.data.toList) (Pg.oC s.data.toList)).2)
  else ((2, [], (Pg.rdLongs (Pg.oK s.data.toList) (Pg.oC s.data.toList)).1, (Pg.rdTexts (Pg.oK s.data.toList - 1) (Pg.rdLongs (Pg.oK s.data.toList) (Pg.oC s.data.toList)).2).1, (Pg.chAt (Pg.rdTexts (Pg.oK s.data.toList - 1) (Pg.rdLongs (Pg.oK s.data.toList) (Pg.oC s.data.toList)).2).2).1), (Pg.chAt (Pg.rdTexts (Pg.oK s.data.toList - 1) (Pg.rdLongs (Pg.oK s.data.toList) (Pg.oC s.data.toList)).2).2).2)) = x) := fun x => Iff.rfl
  generalize Pg.oK s.data.toList = K at *
  generalize Pg.oC s.data.toList = c0 at *
  obtain ⟨mk, hmk⟩ : ∃ mk : ByteArray, mk = ⟨(Pg.oM s.data.toList).1.toArray⟩ := ⟨_, rfl⟩
  have HMK : Hid (mk.data.toList = (Pg.oM s.data.toList).1) := by rw [hmk]; exact rfl
  rw [← hmk]
  clear hmk
  go_upto_region 5 with fail
  go_cut [24] (fun c wx => c = .bool (decide (mk.data.toList = [83, 49, 76])) ∧ wx = w3)
  case first =>
    by_cases hp : mk.data.toList = [83, 49, 76]
    · have hx : mk = ⟨#[83, 49, 76]⟩ := bytes_ext hp
      have HD := hid (decide_eq_true hp)
      clear hp
      go_wp2_with fail
      go_meet
      exact ⟨by rw [HD.out], rfl⟩
    · have hne : (mk.toList == (⟨#[83, 49, 76]⟩ : ByteArray).toList) = false := by rw [toList_is, toList_is]; simpa using hp
      have hne2 : ¬ mk = ⟨#[83, 49, 76]⟩ := fun e => hp (by rw [e])
      have hne3 : (mk.toList == [83, 49, 76]) = false := by rw [toList_is]; simpa using hp
      have HD := hid (decide_eq_false hp)
      clear hp
      go_wp2_with fail
      go_meet
      exact ⟨by rw [HD.out], rfl⟩
  case rest =>
    obtain ⟨rfl, rfl⟩ := hcut
    go_upto_if 24 with fail
    go_cut [] (fun wx => ∃ kd il cl pl ml c vi vc vp vm, Pg.refOld s.data.toList = ((kd, plain il, cl, lists pl, plainCh ml), c) ∧ OlMid w wx c kd il cl pl ml vi vc vp vm ∧ il.length ≤ 255 ∧ cl.length ≤ 255 ∧ pl.length ≤ 255 ∧ ml.length ≤ 255)
    case first =>
      by_cases hp : mk.data.toList = [83, 49, 76]
      · rw [decide_eq_true hp]
        have HRL : Hid (Pg.refOld s.data.toList = ((1, (Pg.rdIts K c0).1, [], [], []), (Pg.rdIts K c0).2)) := by
          show _ = _; rw [HRO.out, ← HMK.out, if_pos hp]
        clear hp HRO
        obtain ⟨n0, n1, n2, n3, n4, x0, x1, x2, x3, x4⟩ := HM2.out.nd.var.cells
        have HM3 := hid (HM2.out.other (i := 0) (u := .int .i64 1) (Below.refl _ _) (HM2.out.nd.setK (.int .i64 1)))
        go_wp2_with fail
        generalize wc.setCell ⟨w.heap.size + 1, 0, none⟩ (.int .i64 1) = w4 at *
        clear HM2 n0 n1 n2 n3 n4 x0 x1 x2 x3 x4
        go_loopw [8] (fun i wr => ∃ (j : Nat) (il : List (ByteArray × ByteArray)) (c : Pg.Cur) (vi : Value), j ≤ K ∧ i = .int .i64 j ∧ il.length = j ∧ OlMid w wr c 1 il [] [] [] vi (.slice none 0 0) (.slice none 0 0) (.slice none 0 0) ∧ plain il ++ (Pg.rdIts (K - j) c).1 = (Pg.rdIts K c0).1 ∧ (Pg.rdIts (K - j) c).2 = (Pg.rdIts K c0).2) (fun i _ => K - (intOf i).toNat)
        case atStart => exact ⟨0, [], c0, _, Nat.zero_le _, rfl, rfl, HM3.out, rfl, rfl⟩
        case round =>
          clear HM3
          obtain ⟨j, il, c, vi, hj, rfl, hil, hm, he1, he2⟩ := hrel
          have HIL := hid hil
          have HM := hid hm
          have HE1 := hid he1
          have HE2 := hid he2
          obtain ⟨la, lc, rfl⟩ := rowShape hm.nd.its
          obtain ⟨d2, z2⟩ := hm.cur.cells
          have hle := hm.nd.le
          have hill : il.length ≤ 255 := by omega
          clear hil hm he1 he2
          by_cases hgo : j < K ∧ c.bad = false
          · obtain ⟨hjk, hbad⟩ := hgo
            rw [hbad] at d2
            obtain ⟨m, hm⟩ : ∃ m, K - j = m + 1 := ⟨K - j - 1, by omega⟩
            have HMM : Hid (m = K - (j + 1)) := by show _ = _; omega
            rw [hm, Pg.rdIts, if_neg (by rw [hbad]; decide)] at HE1 HE2
            have HT1 := hid (text_c (w.heap.size + 2) 12 c wr HM.out.cur (by omega))
            have HT2 := hid (fun W h => text_c (w.heap.size + 2) 16 (c.text 12).2 W h (by omega))
            generalize (c.text 12).1 = kx at *
            generalize (c.text 12).2 = c1 at *
            generalize (c1.text 16).1 = vx at *
            generalize (c1.text 16).2 = c2 at *
            have hi1 : (j : Int) < (K : Int) := by omega
            clear hm hbad
            go_wp2_with fail
            refine HT1.out.mono ?_
            rintro r w5 ⟨rfl, hc5, hb5⟩
            have HM5 := hid (HM.out.step hc5 hb5)
            have BA := (Below.refl w5.heap.size w5).alloc (Nat.le_refl _) (.cells #[.string ⟨kx.toArray⟩, .string ⟨#[]⟩] 51)
            have HM6 := hid (HM5.out.below BA)
            have HX6 : Hid ((w5.alloc (.cells #[.string ⟨kx.toArray⟩, .string ⟨#[]⟩] 51)).heap[w5.heap.size]? = some (.cells #[.string ⟨kx.toArray⟩, .string ⟨#[]⟩] 51 (0, 0))) := heap_alloc_new _ _
            have hz6 : w5.heap.size < (w5.alloc (.cells #[.string ⟨kx.toArray⟩, .string ⟨#[]⟩] 51)).heap.size := by simp
            have hne := own_ne2 HM5.out.nd.its (Nat.le_refl w5.heap.size)
            have hz5 := hb5.size
            clear hc5 hb5 BA HM HT1 d2 z2 HM5
            go_wp2_with fail
            generalize w5.alloc (.cells #[.string ⟨kx.toArray⟩, .string ⟨#[]⟩] 51) = w6 at *
            have hxb : w.heap.size + 3 ≤ w5.heap.size := by omega
            generalize w5.heap.size = xb at *
            refine (HT2.out w6 HM6.out.cur).mono ?_
            rintro r w7 ⟨rfl, hc7, hb7⟩
            have HM7 := hid (HM6.out.step hc7 hb7)
            have HX7 := hid ((hb7.block xb hz6 (by simp; omega)).trans HX6.out)
            have hz7 := hb7.size
            have BU := but_set xb 1 w7 (.string ⟨vx.toArray⟩)
            have HX8 := hid (heap_setCell_at (i := 1) HX7.out (.string ⟨vx.toArray⟩))
            have HM8 : Hid (OlMid w (w7.setCell ⟨xb, 1, none⟩ (.string ⟨vx.toArray⟩)) c2 1 il [] [] [] (.slice la il.length lc) (.slice none 0 0) (.slice none 0 0) (.slice none 0 0)) :=
              ⟨HM7.out.res.but BU (by omega), HM7.out.nd.but BU (by omega) hne (by simp [Value.ownBlock]) (by simp [Value.ownBlock]) (by simp [Value.ownBlock]), HM7.out.cur.other (Below.heap_setCell w7 (⟨xb, 1, none⟩ : Addr) (.string ⟨vx.toArray⟩) (w.heap.size + 2) (by show w.heap.size + 2 ≠ xb; omega))⟩
            have f0 : w7.cell? ⟨xb, 0, none⟩ = some (.string ⟨kx.toArray⟩) := by unfold World.cell?; rw [HX7.out]; rfl
            have f1 : w7.cell? ⟨xb, 1, none⟩ = some (.string ⟨#[]⟩) := by unfold World.cell?; rw [HX7.out]; rfl
            have f2 : w7.frozen? ⟨xb, 1, none⟩ = false := by unfold World.frozen?; rw [HX7.out]; rfl
            have g0 : (w7.setCell ⟨xb, 1, none⟩ (.string ⟨vx.toArray⟩)).cell? ⟨xb, 0, none⟩ = some (.string ⟨kx.toArray⟩) := by unfold World.cell?; rw [HX8.out]; rfl
            have g1 : (w7.setCell ⟨xb, 1, none⟩ (.string ⟨vx.toArray⟩)).cell? ⟨xb, 1, none⟩ = some (.string ⟨vx.toArray⟩) := by unfold World.cell?; rw [HX8.out]; rfl
            obtain ⟨n0, n1, n2, n3, n4, x0, x1, x2, x3, x4⟩ := HM8.out.nd.var.cells
            clear hc7 hb7 BU HM6 HM7 HX6 HX7 HT2
            go_wp2_with (first
              | (at_builtin; refine wpApG (w7.setCell ⟨xb, 1, none⟩ (.string ⟨vx.toArray⟩)) rfl (.tmp 45) (.tmp 47) 30 51 Tryz.underlying30 _ 2 32 info_item rfl (by decide) (by decide) rfl (w.heap.size + 3) (.slice la il.length lc) il.length (icells il) rfl HM8.out.nd.its [.string ⟨kx.toArray⟩, .string ⟨vx.toArray⟩] rfl (by intro u hu; simp at hu; rcases hu with rfl | rfl <;> rfl) (by simp [Act.eval]) (by omega) HM8.out.nd.le ?_))
            intro v9 w9 ho9 hg9 hat9
            have HO9 : Hid (OwnsI (w.heap.size + 3) w9 v9 (il ++ [(⟨kx.toArray⟩, ⟨vx.toArray⟩)])) := by
              show OwnsI _ _ _ _; unfold OwnsI; rw [List.length_append, icells_snoc]; exact ho9
            obtain ⟨ya, yc, rfl⟩ := rowShape ho9
            have HAP := hid (HM8.out.nd.apI HO9.out hg9 (by rw [setSize]; exact hat9))
            obtain ⟨p0, p1, p2, p3, p4, q0, q1, q2, q3, q4⟩ := HAP.out.1.cells
            have HMZ := hid (HM8.out.other HAP.out.2.2 HAP.out.2.1)
            clear ho9 hg9 hat9 HAP HM8 HO9
            have HLZ : Hid ((il ++ [((⟨kx.toArray⟩ : ByteArray), (⟨vx.toArray⟩ : ByteArray))]).length = j + 1) := by show _ = _; rw [List.length_append, HIL.out]; rfl
            have HPZ : Hid (plain (il ++ [((⟨kx.toArray⟩ : ByteArray), (⟨vx.toArray⟩ : ByteArray))]) ++ (Pg.rdIts m c2).1 = (Pg.rdIts K c0).1) := by show _ = _; rw [plain_snoc, ← HE1.out]; simp
            go_wp2_with fail
            go_roundw
            case rel => exact ⟨j + 1, _, c2, _, by omega, by go_num, HLZ.out, HMZ.out, by rw [← HMM.out, HPZ.out], by rw [← HMM.out, ← HE2.out]⟩
            case measure => simp [intOf]; omega
          · have HSX : Hid (Pg.rdIts (K - j) c = ([], c)) := by
              show _ = _
              rcases Nat.lt_or_ge j K with h | h
              · have hb : c.bad = true := by
                  cases hbb : c.bad with
                  | true => rfl
                  | false => exact absurd ⟨h, hbb⟩ hgo
                rw [show K - j = (K - j - 1) + 1 by omega, Pg.rdIts, if_pos hb]
              · rw [show K - j = 0 by omega]; rfl
            have hsp : (¬ (j : Int) < (K : Int)) ∨ ((j : Int) < (K : Int) ∧ c.bad = true) := by
              rcases Nat.lt_or_ge j K with h | h
              · refine .inr ⟨by omega, ?_⟩
                cases hbb : c.bad with
                | true => rfl
                | false => exact absurd ⟨h, hbb⟩ hgo
              · exact .inl (by omega)
            rw [HSX.out] at HE1 HE2
            have HFN : Hid (Pg.refOld s.data.toList = ((1, plain il, [], lists [], plainCh []), c)) := by
              show _ = _; rw [HRL.out, ← HE1.out, ← HE2.out]; simp [lists, plainCh]
            clear hgo HE1 HE2 HSX
            rcases hsp with hx | ⟨hx, hy⟩
            · go_wp2_with fail
              go_meet
              exact ⟨_, _, _, _, _, _, _, _, _, _, HFN.out, HM.out, hill, by simp, by simp, by simp⟩
            · rw [hy] at d2
              go_wp2_with fail
              go_meet
              exact ⟨_, _, _, _, _, _, _, _, _, _, HFN.out, HM.out, hill, by simp, by simp, by simp⟩
      · rw [decide_eq_false hp]
        obtain ⟨M, hM⟩ : ∃ M, M = K - 1 := ⟨_, rfl⟩
        have HRL : Hid (Pg.refOld s.data.toList = ((2, [], (Pg.rdLongs K c0).1, (Pg.rdTexts M (Pg.rdLongs K c0).2).1, (Pg.chAt (Pg.rdTexts M (Pg.rdLongs K c0).2).2).1), (Pg.chAt (Pg.rdTexts M (Pg.rdLongs K c0).2).2).2)) := by
          show _ = _; rw [hM, HRO.out, ← HMK.out, if_neg hp]
        have hMN : K ≤ M + 1 ∧ (M = 0 ∨ M + 1 ≤ K) := by omega
        clear hp HRO hM
        obtain ⟨n0, n1, n2, n3, n4, x0, x1, x2, x3, x4⟩ := HM2.out.nd.var.cells
        have HM3 := hid (HM2.out.other (i := 0) (u := .int .i64 2) (Below.refl _ _) (HM2.out.nd.setK (.int .i64 2)))
        go_wp2_with fail
        generalize wc.setCell ⟨w.heap.size + 1, 0, none⟩ (.int .i64 2) = w4 at *
        clear HM2 n0 n1 n2 n3 n4 x0 x1 x2 x3 x4
        go_loopw [10] (fun i wr => ∃ (k : Nat) (cl : List Nat) (c : Pg.Cur) (vc : Value), k ≤ K ∧ i = .int .i64 k ∧ cl.length = k ∧ OlMid w wr c 2 [] cl [] [] (.slice none 0 0) vc (.slice none 0 0) (.slice none 0 0) ∧ cl ++ (Pg.rdLongs (K - k) c).1 = (Pg.rdLongs K c0).1 ∧ (Pg.rdLongs (K - k) c).2 = (Pg.rdLongs K c0).2) (fun i _ => K - (intOf i).toNat)
        case atStart => exact ⟨0, [], c0, _, Nat.zero_le _, rfl, rfl, HM3.out, rfl, rfl⟩
        case round =>
          clear HM3
          obtain ⟨k, cl, c, vc, hk, rfl, hcl, hm, he1, he2⟩ := hrel
          have HCL := hid hcl
          have HM := hid hm
          have HE1 := hid he1
          have HE2 := hid he2
          obtain ⟨ca, cc, rfl⟩ := rowShape hm.nd.kids
          obtain ⟨d2, z2⟩ := hm.cur.cells
          obtain ⟨n0, n1, n2, n3, n4, x0, x1, x2, x3, x4⟩ := hm.nd.var.cells
          have hle := hm.nd.le
          have hcll : cl.length ≤ 255 := by omega
          clear hcl hm he1 he2
          by_cases hgo : k < K ∧ c.bad = false
          · obtain ⟨hkn, hbad⟩ := hgo
            rw [hbad] at d2
            obtain ⟨m, hm⟩ : ∃ m, K - k = m + 1 := ⟨K - k - 1, by omega⟩
            have HMM : Hid (m = K - (k + 1)) := by show _ = _; omega
            rw [hm, Pg.rdLongs, if_neg (by rw [hbad]; decide)] at HE1 HE2
            have HCN := hid (take_any (w.heap.size + 2) 4 c (World.drew wr) HM.out.cur (by omega))
            have hl4 := Pg.take_len c 4 (by decide)
            generalize (c.take 4).1 = x4l at *
            generalize (c.take 4).2 = c' at *
            have hi1 : (k : Int) < (K : Int) := by omega
            have hz4 := size_mk x4l
            have HHI := hid (fun W => high_any ⟨x4l.toArray⟩ W (by rw [hz4]; omega))
            rw [show (⟨x4l.toArray⟩ : ByteArray).data.toList = x4l from rfl] at HHI
            generalize Pg.high x4l = nv at *
            clear hm hbad
            go_wp2_with fail
            go_region_law (first
              | (refine stepApN _ (by rfl) (.tmp 64) (.tmp 68) (by rfl) (w.heap.size + 3) (.slice ca cl.length cc) cl (by simp [Act.eval]) H9.out.nd.kids nv w8.heap.size (by simp [Act.eval]) HCE9.out (by omega) H9.out.nd.le ?_
                 intro v9 w9 ho9 hg9 hat9
                 obtain ⟨a9, c9, rfl⟩ := rowShape ho9
                 have HAP := hid (H9.out.nd.apC ho9 hg9 hat9)
                 obtain ⟨e0, e1, e2, e3, e4, y0, y1, y2, y3, y4⟩ := HAP.out.1.cells
                 clear ho9 hg9 hat9)
              | (go_simp
                 go_at_call 209
                 refine HCN.out.mono ?_
                 rintro r w8 ⟨rfl, hc8, hb8⟩
                 have HM8 := hid (HM.out.step hc8 (but_drew hb8))
                 have BAL := (Below.refl w8.heap.size w8).alloc (Nat.le_refl _) (.cells #[.int .i64 (nv : Int)] 3)
                 have H9 := hid (HM8.out.below BAL)
                 have HCE9 : Hid ((w8.alloc (.cells #[.int .i64 (nv : Int)] 3)).cell? ⟨w8.heap.size, 0, none⟩ = some (.int .i64 (nv : Int))) := by show _ = _; simp
                 obtain ⟨g0, g1, g2, g3, g4, f0, f1, f2, f3, f4⟩ := HM8.out.nd.var.cells
                 obtain ⟨-, -, g2a, -, -, -, -, f2a, -, -⟩ := H9.out.nd.var.cells
                 clear hc8 hb8 BAL)
              | (go_simp
                 go_at_call 207
                 refine (HHI.out w8).mono ?_
                 rintro r w8 ⟨rfl, rfl⟩))
            all_goals
              have HMZ := hid (H9.out.other HAP.out.2.2 HAP.out.2.1)
              clear HAP H9 HCE9
              go_wp2_with fail
              go_roundw
              case rel => exact ⟨k + 1, cl ++ [nv], c', _, by omega, by go_num, by rw [List.length_append, HCL.out]; rfl, HMZ.out, by rw [← HMM.out, ← HE1.out]; simp, by rw [← HMM.out, ← HE2.out]⟩
              case measure => simp [intOf]; omega
          · have HSX : Hid (Pg.rdLongs (K - k) c = ([], c)) := by
              show _ = _
              rcases Nat.lt_or_ge k K with h | h
              · have hb : c.bad = true := by
                  cases hbb : c.bad with
                  | true => rfl
                  | false => exact absurd ⟨h, hbb⟩ hgo
                rw [show K - k = (K - k - 1) + 1 by omega, Pg.rdLongs, if_pos hb]
              · rw [show K - k = 0 by omega]; rfl
            have hsp : (¬ (k : Int) < (K : Int)) ∨ ((k : Int) < (K : Int) ∧ c.bad = true) := by
              rcases Nat.lt_or_ge k K with h | h
              · refine .inr ⟨by omega, ?_⟩
                cases hbb : c.bad with
                | true => rfl
                | false => exact absurd ⟨h, hbb⟩ hgo
              · exact .inl (by omega)
            rw [HSX.out] at HE1 HE2
            rw [← HE1.out, ← HE2.out, List.append_nil] at HRL
            clear hgo HE1 HE2 HSX
            go_upto_region 15 with fail
            go_cut [60] (fun b wx => b = .bool false ∧ wx = wr)
            case first =>
              rcases hsp with hx | ⟨hx, hy⟩
              · go_wp2_with fail
                go_meet
                exact ⟨rfl, rfl⟩
              · rw [hy] at d2
                go_wp2_with fail
                go_meet
                exact ⟨rfl, rfl⟩
            case rest =>
              obtain ⟨rfl, rfl⟩ := hcut
              clear hsp d2 z2 n0 n1 n2 n3 n4 x0 x1 x2 x3 x4
              go_wp2_with fail
              go_loopw [11] (fun i wr => ∃ (k : Nat) (pl : List ByteArray) (c' : Pg.Cur) (vp : Value), k ≤ M ∧ i = .int .i64 k ∧ pl.length = k ∧ OlMid w wr c' 2 [] cl pl [] (.slice none 0 0) (.slice ca cl.length cc) vp (.slice none 0 0) ∧ lists pl ++ (Pg.rdTexts (M - k) c').1 = (Pg.rdTexts M c).1 ∧ (Pg.rdTexts (M - k) c').2 = (Pg.rdTexts M c).2) (fun i _ => K - (intOf i).toNat)
              case atStart => exact ⟨0, [], c, _, Nat.zero_le _, rfl, rfl, HM.out, rfl, rfl⟩
              case round =>
                clear HM hk HCL hle
                obtain ⟨k, pl, cq, vp, hk, rfl, hpl, hm, he1, he2⟩ := hrel
                have HPL := hid hpl
                have HM := hid hm
                have HE1 := hid he1
                have HE2 := hid he2
                obtain ⟨pa, pc, rfl⟩ := rowShape hm.nd.pivs
                obtain ⟨d2, z2⟩ := hm.cur.cells
                obtain ⟨n0, n1, n2, n3, n4, x0, x1, x2, x3, x4⟩ := hm.nd.var.cells
                have hle := hm.nd.le
                have hpll : pl.length ≤ 255 := by omega
                clear hpl hm he1 he2
                by_cases hgo : k < M ∧ cq.bad = false
                · obtain ⟨hkn, hbad⟩ := hgo
                  rw [hbad] at d2
                  obtain ⟨m, hm⟩ : ∃ m, M - k = m + 1 := ⟨M - k - 1, by omega⟩
                  have HMM : Hid (m = M - (k + 1)) := by show _ = _; omega
                  rw [hm, Pg.rdTexts, if_neg (by rw [hbad]; decide)] at HE1 HE2
                  have HCN := hid (text_c (w.heap.size + 2) 12 cq (World.drew wr) HM.out.cur (by omega))
                  generalize (cq.text 12).1 = nv at *
                  generalize (cq.text 12).2 = c' at *
                  have hi1 : (k : Int) + 1 < (K : Int) := by omega
                  clear hm hbad
                  go_wp2_with fail
                  go_region_law (first
                    | (refine stepApT _ (by rfl) (.tmp 85) (.tmp 88) (by rfl) (w.heap.size + 3) (.slice pa pl.length pc) pl (by simp [Act.eval]) H9.out.nd.pivs ⟨nv.toArray⟩ w8.heap.size (by simp [Act.eval]) HCE9.out (by omega) H9.out.nd.le ?_
                       intro v9 w9 ho9 hg9 hat9
                       obtain ⟨a9, c9, rfl⟩ := ho9.shape
                       generalize hl9 : (pl ++ [(⟨nv.toArray⟩ : ByteArray)]).length = l9 at *
                       have HAP := hid (H9.out.nd.apP ho9 hg9 hat9)
                       obtain ⟨e0, e1, e2, e3, e4, y0, y1, y2, y3, y4⟩ := HAP.out.1.cells
                       clear ho9 hg9 hat9 hl9)
                    | (go_simp
                       refine HCN.out.mono ?_
                       rintro r w8 ⟨rfl, hc8, hb8⟩
                       have HM8 := hid (HM.out.step hc8 (but_drew hb8))
                       have BAL := (Below.refl w8.heap.size w8).alloc (Nat.le_refl _) (.cells #[.string ⟨nv.toArray⟩] 9)
                       have H9 := hid (HM8.out.below BAL)
                       have HCE9 : Hid ((w8.alloc (.cells #[.string ⟨nv.toArray⟩] 9)).cell? ⟨w8.heap.size, 0, none⟩ = some (.string ⟨nv.toArray⟩)) := by show _ = _; simp
                       obtain ⟨g0, g1, g2, g3, g4, f0, f1, f2, f3, f4⟩ := HM8.out.nd.var.cells
                       obtain ⟨-, -, -, g3a, -, -, -, -, f3a, -⟩ := H9.out.nd.var.cells
                       clear hc8 hb8 BAL))
                  all_goals
                    have HMZ := hid (H9.out.other HAP.out.2.2 HAP.out.2.1)
                    clear HAP H9 HCE9
                    go_wp2_with fail
                    go_roundw
                    case rel => exact ⟨k + 1, pl ++ [⟨nv.toArray⟩], c', _, by omega, by go_num, by rw [List.length_append, HPL.out]; rfl, HMZ.out, by rw [← HMM.out, ← HE1.out, lists_snoc]; simp, by rw [← HMM.out, ← HE2.out]⟩
                    case measure => simp [intOf]; omega
                · have HSX : Hid (Pg.rdTexts (M - k) cq = ([], cq)) := by
                    show _ = _
                    rcases Nat.lt_or_ge k M with h | h
                    · have hb : cq.bad = true := by
                        cases hbb : cq.bad with
                        | true => rfl
                        | false => exact absurd ⟨h, hbb⟩ hgo
                      rw [show M - k = (M - k - 1) + 1 by omega, Pg.rdTexts, if_pos hb]
                    · rw [show M - k = 0 by omega]; rfl
                  have hsp : (¬ (k : Int) + 1 < (K : Int)) ∨ ((k : Int) + 1 < (K : Int) ∧ cq.bad = true) := by
                    rcases Nat.lt_or_ge k M with h | h
                    · refine .inr ⟨by omega, ?_⟩
                      cases hbb : cq.bad with
                      | true => rfl
                      | false => exact absurd ⟨h, hbb⟩ hgo
                    · exact .inl (by omega)
                  rw [HSX.out] at HE1 HE2
                  rw [← HE1.out, ← HE2.out, List.append_nil] at HRL
                  clear hgo HE1 HE2 HSX
                  go_upto_region 19 with fail
                  go_cut [81] (fun b wx => b = .bool false ∧ wx = wr)
                  case first =>
                    rcases hsp with hx | ⟨hx, hy⟩
                    · go_wp2_with fail
                      go_meet
                      exact ⟨rfl, rfl⟩
                    · rw [hy] at d2
                      go_wp2_with fail
                      go_meet
                      exact ⟨rfl, rfl⟩
                  case rest =>
                    obtain ⟨rfl, rfl⟩ := hcut
                    clear hsp d2 z2 n0 n1 n2 n3 n4 x0 x1 x2 x3 x4
                    go_wp2_with fail
                    refine (changesR_any (w.heap.size + 2) cq wc HM.out.cur).mono ?_
                    rintro r w7 ⟨v7, ml, rfl, hml, hml255, ho7, hc7, hb7⟩
                    rw [show Pg.chAt cq = Pg.rdChanges cq.byte (cq.take 1).2 from rfl, ← hml] at HRL
                    have HM7 := hid (HM.out.step hc7 hb7)
                    obtain ⟨ma, mc, rfl⟩ := rowShape ho7
                    have HN8 := hid (HM7.out.nd.setM ho7 hle (fun k hk => by simp [Value.ownBlock] at hk) (fun k hk => (World.ownsRow.lt HM.out.nd.kids k hk).2) (fun k hk => (World.ownsRow.lt HM.out.nd.pivs k hk).2))
                    have HM8 := hid (HM7.out.other (Below.refl _ _) HN8.out)
                    obtain ⟨n0, n1, n2, n3, n4, x0, x1, x2, x3, x4⟩ := HM7.out.nd.var.cells
                    have HFN : Hid (Pg.refOld s.data.toList = ((2, plain [], cl, lists pl, plainCh ml), (Pg.rdChanges cq.byte (cq.take 1).2).2)) := HRL.out
                    clear hml ho7 hc7 hb7 HN8 HM HM7
                    go_wp2_with fail
                    go_meet
                    exact ⟨_, _, _, _, _, _, _, _, _, _, HFN.out, HM8.out, by simp, hcll, hpll, hml255⟩
    case rest =>
      obtain ⟨kd, il, cl, pl, ml, c, vi, vc, vp, vm, hro, hm, b1, b2, b3, b4⟩ := hcut
      clear HRO HM2 HMK
      have HRO := hid hro
      have HM := hid hm
      clear hro hm
      go_wp2_with fail
      refine (take_any (w.heap.size + 2) 4 c wc HM.out.cur (by omega)).mono ?_
      rintro r w5 ⟨rfl, hc5, hb5⟩
      have HM5 := hid (HM.out.step hc5 hb5)
      have HEN : Hid ((c.take 4).2.ends = Pg.oEnd s.data.toList) := by show _ = _; unfold Pg.oEnd; rw [HRO.out]
      clear hc5 hb5 HM
      go_wp2_with fail
      refine (ends_c (w.heap.size + 2) _ w5 HM5.out.cur).mono ?_
      rintro r w6 ⟨rfl, q, rfl⟩
      have HM6 := hid (HM5.out.drewN q)
      rw [HEN.out]
      clear HM5 HEN
      generalize w5.drewN q = w6 at *
      have HNV := hid (HM6.out.nd.nodeV (by omega) b2 b3 b4)
      obtain ⟨ia, ic, ka, kc, pa, pc, ma, mc, he⟩ := HNV.out.shape
      simp only [Value.agg.injEq, Array.mk.injEq, List.cons.injEq, true_and, and_true] at he
      obtain ⟨rfl, rfl, rfl, rfl⟩ := he
      obtain ⟨n0, n1, n2, n3, n4, -⟩ := HM6.out.nd.var.cells
      go_wp2_with fail
      refine (well_any _ kd il (cl.map Int.ofNat) pl ml _ HNV.out.isNode).mono ?_
      rintro r w7 ⟨rfl, hb7⟩
      have HM7 := hid (HM6.out.below hb7)
      have HCAN : Hid (∀ n, Pr.wellT n = true → Pr.oldT n = s.data.toList → Pg.oEnd s.data.toList = true ∧ n = (kd, plain il, cl, lists pl, plainCh ml)) := fun n h1 h2 => by
        obtain ⟨e1, e2⟩ := Pg.refOld_is h1
        rw [h2] at e1 e2
        rw [HRO.out] at e1
        exact ⟨e2, e1.symm⟩
      have HWE : Hid (Pg.well kd (plain il) (cl.map Int.ofNat) (lists pl) (plainCh ml) = Pr.wellT (kd, plain il, cl, lists pl, plainCh ml)) := rfl
      rw [HWE.out]
      clear hb7 HM6 HNV n0 n1 n2 n3 n4 HRO
      generalize Pg.oEnd s.data.toList = eo at *
      have HNV := hid (HM7.out.nd.nodeV (by omega) b2 b3 b4)
      have HEND : Hid (∀ (wx : World) (b : Bool), ResF w wx → NodeV (w.heap.size + 3) wx (.agg #[.int .i64 kd, .slice ia il.length ic, .slice ka cl.length kc, .slice pa pl.length pc, .slice ma ml.length mc]) kd il cl pl ml → (b = true → Pr.wellT (kd, plain il, cl, lists pl, plainCh ml) = true ∧ Pr.oldT (kd, plain il, cl, lists pl, plainCh ml) = s.data.toList) → (∀ n, Pr.wellT n = true → Pr.oldT n = s.data.toList → b = true ∧ n = (kd, plain il, cl, lists pl, plainCh ml)) → OldE w s.data.toList (.returned (.tuple #[.agg #[.int .i64 kd, .slice ia il.length ic, .slice ka cl.length kc, .slice pa pl.length pc, .slice ma ml.length mc], .bool b])) (put5 wx w.heap.size (.int .i64 kd) (.slice ia il.length ic) (.slice ka cl.length kc) (.slice pa pl.length pc) (.slice ma ml.length mc))) :=
        fun wx b h1 h2 h3 h4 => ⟨below_put h1.2 (Nat.le_refl _) _ _ _ _ _, kd, il, cl, pl, ml, _, b, rfl, (h2.put (by omega) _ _ _ _ _).shrink (by omega), h3, h4⟩
      have HENDD : Hid (∀ (wx : World) (b : Bool), ResF w wx → NodeV (w.heap.size + 3) wx (.agg #[.int .i64 kd, .slice ia il.length ic, .slice ka cl.length kc, .slice pa pl.length pc, .slice ma ml.length mc]) kd il cl pl ml → (b = true → Pr.wellT (kd, plain il, cl, lists pl, plainCh ml) = true ∧ Pr.oldT (kd, plain il, cl, lists pl, plainCh ml) = s.data.toList) → (∀ n, Pr.wellT n = true → Pr.oldT n = s.data.toList → b = true ∧ n = (kd, plain il, cl, lists pl, plainCh ml)) → OldE w s.data.toList (.returned (.tuple #[.agg #[.int .i64 kd, .slice ia il.length ic, .slice ka cl.length kc, .slice pa pl.length pc, .slice ma ml.length mc], .bool b])) (World.drew (put5 wx w.heap.size (.int .i64 kd) (.slice ia il.length ic) (.slice ka cl.length kc) (.slice pa pl.length pc) (.slice ma ml.length mc)))) :=
        fun wx b h1 h2 h3 h4 => ⟨(below_put h1.2 (Nat.le_refl _) _ _ _ _ _).drew, kd, il, cl, pl, ml, _, b, rfl, ((h2.put (by omega) _ _ _ _ _).shrink (by omega)).below (Below.refl _ _).drew, h3, h4⟩
      have HND := hid (HNV.out.below (Below.refl w7.heap.size w7).drew)
      have HWI := hid (fun (h : Pr.wellT (kd, plain il, cl, lists pl, plainCh ml) = true) => oldPage_any _ kd il cl pl ml (World.drew w7) HND.out.isNode h)
      obtain ⟨n0, n1, n2, n3, n4, -⟩ := HM7.out.nd.var.cells
      obtain ⟨r0, r1, r2, r3, r4, y0, y1, y2, y3, y4⟩ := HM7.out.res.1.cells
      have HRD : Hid (ResF w (World.drew w7)) := ⟨HM7.out.res.1, HM7.out.res.2.drew⟩
      obtain ⟨q0, q1, q2, q3, q4⟩ := nodeB_res HM7.out.res.1 (.int .i64 kd) (.slice ia il.length ic) (.slice ka cl.length kc) (.slice pa pl.length pc) (.slice ma ml.length mc)
      unfold put5 at q0 q1 q2 q3 q4
      cases eo with
      | false =>
        have HFIN := hid (HENDD.out _ false HM7.out.res HNV.out (nomatch ·) (fun n h1 h2 => absurd (HCAN.out n h1 h2).1 (by simp)))
        generalize Pr.wellT (kd, plain il, cl, lists pl, plainCh ml) = wl at *
        clear HWI HWE
        go_wp2_with fail
        first
        | go_region_law (fail)
        | fail
        all_goals
          go_wp2_with fail
          refine bodyPost_ret (v := .tuple #[.agg #[.int .i64 kd, .slice ia il.length ic, .slice ka cl.length kc, .slice pa pl.length pc, .slice ma ml.length mc], .bool false]) ?_ rfl HFIN.out
          simp [results, Tryz.results159, go_sem, q0, q1, q2, q3, q4]
      | true =>
        cases hwl : Pr.wellT (kd, plain il, cl, lists pl, plainCh ml) with
        | false =>
          have HFIN := hid (HENDD.out _ false HM7.out.res HNV.out (nomatch ·) (fun n h1 h2 => by
            obtain ⟨-, rfl⟩ := HCAN.out n h1 h2
            rw [hwl] at h1; simp at h1))
          clear HWI HWE hwl
          go_wp2_with fail
          first
          | go_region_law (fail)
          | fail
          all_goals
            go_wp2_with fail
            refine bodyPost_ret (v := .tuple #[.agg #[.int .i64 kd, .slice ia il.length ic, .slice ka cl.length kc, .slice pa pl.length pc, .slice ma ml.length mc], .bool false]) ?_ rfl HFIN.out
            simp [results, Tryz.results159, go_sem, q0, q1, q2, q3, q4]
        | true =>
          have HCO := hid (HWI.out hwl)
          have HWL := hid hwl
          clear HWI HWE hwl
          by_cases heq : Pr.oldT (kd, plain il, cl, lists pl, plainCh ml) = s.data.toList
          · have HEQ := hid heq
            rw [heq, mk_data] at HCO
            clear heq
            go_wp2_with fail
            go_region_law (go_simp; refine HCO.out.mono ?_; rintro r w8 ⟨rfl, hb8⟩; have HR8 := hid (HRD.out.below hb8); have HN8 := hid (HND.out.below hb8); have HV8 := hid (HM7.out.nd.var.keep (below_drew hb8)); obtain ⟨m0, m1, m2, m3, m4, -⟩ := HV8.out.cells; obtain ⟨s0, s1, s2, s3, s4, u0', u1', u2', u3', u4'⟩ := HR8.out.1.cells; clear hb8)
            all_goals
              have HFIN := hid (HEND.out _ true HR8.out HN8.out (fun _ => ⟨HWL.out, HEQ.out⟩) (fun n h1 h2 => ⟨rfl, (HCAN.out n h1 h2).2⟩))
              obtain ⟨q0, q1, q2, q3, q4⟩ := nodeB_res HR8.out.1 (.int .i64 kd) (.slice ia il.length ic) (.slice ka cl.length kc) (.slice pa pl.length pc) (.slice ma ml.length mc)
              unfold put5 at q0 q1 q2 q3 q4
              go_wp2_with fail
              refine bodyPost_ret (v := .tuple #[.agg #[.int .i64 kd, .slice ia il.length ic, .slice ka cl.length kc, .slice pa pl.length pc, .slice ma ml.length mc], .bool true]) ?_ rfl HFIN.out
              simp [results, Tryz.results159, go_sem, q0, q1, q2, q3, q4]
          · have HEQ := hid heq
            have hne : ((⟨(Pr.oldT (kd, plain il, cl, lists pl, plainCh ml)).toArray⟩ : ByteArray).toList == s.toList) = false := by rw [toList_is, toList_is]; simpa using heq
            have hne2 : ¬ (⟨(Pr.oldT (kd, plain il, cl, lists pl, plainCh ml)).toArray⟩ : ByteArray) = s := fun e => heq (by rw [← e])
            clear heq
            generalize (⟨(Pr.oldT (kd, plain il, cl, lists pl, plainCh ml)).toArray⟩ : ByteArray) = pg at *
            go_wp2_with fail
            go_region_law (go_simp; refine HCO.out.mono ?_; rintro r w8 ⟨rfl, hb8⟩; have HR8 := hid (HRD.out.below hb8); have HN8 := hid (HND.out.below hb8); have HV8 := hid (HM7.out.nd.var.keep (below_drew hb8)); obtain ⟨m0, m1, m2, m3, m4, -⟩ := HV8.out.cells; obtain ⟨s0, s1, s2, s3, s4, u0', u1', u2', u3', u4'⟩ := HR8.out.1.cells; clear hb8)
            all_goals
              have HFIN := hid (HEND.out _ false HR8.out HN8.out (nomatch ·) (fun n h1 h2 => by
                obtain ⟨-, rfl⟩ := HCAN.out n h1 h2
                exact absurd h2 HEQ.out))
              obtain ⟨q0, q1, q2, q3, q4⟩ := nodeB_res HR8.out.1 (.int .i64 kd) (.slice ia il.length ic) (.slice ka cl.length kc) (.slice pa pl.length pc) (.slice ma ml.length mc)
              unfold put5 at q0 q1 q2 q3 q4
              go_wp2_with fail
              refine bodyPost_ret (v := .tuple #[.agg #[.int .i64 kd, .slice ia il.length ic, .slice ka cl.length kc, .slice pa pl.length pc, .slice ma ml.length mc], .bool false]) ?_ rfl HFIN.out
              simp [results, Tryz.results159, go_sem, q0, q1, q2, q3, q4]
end Go.Proofs.YtolgpnaoaodepaaGreat
/- The walks of a Reader's Long and of Unseal. -/
namespace Go.Proofs.YtolgpnaoaodepaaGreat
open Go.RowKit
theorem long_or (a c d e : Nat) (ha : a < 256) (hc : c < 256) (hd : d < 256) (he : e < 256) : bits .or .u32 (bits .or .u32 (bits .or .u32 ((a : Int) % 4294967296) ((c : Int) % 4294967296 * 256 % 4294967296)) ((d : Int) % 4294967296 * 65536 % 4294967296)) ((e : Int) % 4294967296 * 16777216 % 4294967296) = ((a + 256 * (c + 256 * (d + 256 * e)) : Nat) : Int) := by
  have e0 : (a : Int) % 4294967296 = ((a : Nat) : Int) := by omega
  have e1 : (c : Int) % 4294967296 * 256 % 4294967296 = ((c * 2 ^ 8 : Nat) : Int) := by omega
  have e2 : (d : Int) % 4294967296 * 65536 % 4294967296 = ((d * 2 ^ 16 : Nat) : Int) := by omega
  have e3 : (e : Int) % 4294967296 * 16777216 % 4294967296 = ((e * 2 ^ 24 : Nat) : Int) := by omega
  rw [e0, e1, e2, e3, u32_or_nat _ _ (by omega) (by omega), or_sum 8 c a (by omega), u32_or_nat _ _ (by omega) (by omega), or_sum 16 d _ (by omega), u32_or_nat _ _ (by omega) (by omega), or_sum 24 e _ (by omega)]
  omega
def lv (n : Nat) : Value := .int .u32 (n : Int)
set_option maxHeartbeats 1000000 in
set_option maxRecDepth 20000 in
theorem rlong_any (b : Nat) (t : List UInt8) (w : World) (hr : Rd w b t) :
    Calls Tryz.prog 269 #[.pointer (some ⟨b, 0, none⟩)] w fun r w' => RdQ lv b w (Pr.longR t) r w' := by
  go_enter Tryz.func269, Tryz.ntmps269
  have HC := hid (rtake_any b 4 t w hr)
  clear hr
  go_wp2_with fail
  refine HC.out.mono ?_
  rintro r w1 ⟨hb1, ⟨hn, rfl⟩ | ⟨x, u, hs, rfl, hr1⟩⟩
  · have HT : Hid (Pr.longR t = none) := by show _ = _; unfold Pr.longR; rw [hn]; rfl
    have HB := hid hb1
    clear hb1 hn
    unfold gaveUp
    go_wp2_with fail
    exact ⟨rfl, HB.out, .inl ⟨HT.out, rfl⟩⟩
  · obtain ⟨a, c, d, e, rfl, HT⟩ : ∃ a c d e, x = [a, c, d, e] ∧ Hid (Pr.longR t = some (a.toNat + 256 * (c.toNat + 256 * (d.toNat + 256 * e.toNat)), u)) := by
      obtain ⟨h1, h2⟩ := Pr.takeR_len hs
      match x, h1 with
      | [a, c, d, e], _ => exact ⟨a, c, d, e, rfl, show _ = _ by unfold Pr.longR; rw [hs]; simp [Pg.high]⟩
    have HB := hid hb1
    have HR := hid hr1
    clear hb1 hr1 hs
    have ha : a.toNat < 256 := a.toNat_lt
    have hc : c.toNat < 256 := c.toNat_lt
    have hd : d.toNat < 256 := d.toNat_lt
    have he : e.toNat < 256 := e.toNat_lt
    unfold sv
    go_wp2_with fail
    go_quiet (fail)
    have HOR := hid (long_or a.toNat c.toNat d.toNat e.toNat ha hc hd he)
    go_wp2_with fail
    go_ret
    refine ⟨but_trans HB.out (but_drewN _ _ _), .inr ⟨_, _, HT.out, ?_, HR.out.drewN _⟩⟩
    unfold lv; rw [← HOR.out]; rfl
set_option maxHeartbeats 1000000 in
set_option maxRecDepth 20000 in
theorem unseal_any (t : List UInt8) (w : World) (ht : t.length ≤ 10000000) :
    Calls Tryz.prog 256 #[.string ⟨t.toArray⟩] w fun r w' => Below w.heap.size w w' ∧ ((Pr.unsealR t = none ∧ r = gaveUp) ∨ ∃ b, Pr.unsealR t = some b ∧ r = .returned (.string ⟨b.toArray⟩)) := by
  have hz := size_mk t
  go_enter Tryz.func256, Tryz.ntmps256
  by_cases h4 : 4 ≤ t.length
  · have hi : (4 : Int) ≤ (t.length : Int) := by omega
    have HU : Hid (Pr.unsealR t = if Pg.high (t.drop (t.length - 4)) = Pg.crc (t.take (t.length - 4)) then some (t.take (t.length - 4)) else none) := by show _ = _; unfold Pr.unsealR; rw [if_pos h4]
    obtain ⟨n, hn⟩ : ∃ n, t.length = n + 4 := ⟨t.length - 4, by omega⟩
    rw [show t.length - 4 = n by omega] at HU
    have hlen : (t.drop n).length = 4 := by rw [List.length_drop]; omega
    have HX1 : Hid ((⟨t.toArray⟩ : ByteArray).extract 0 n = ⟨(t.take n).toArray⟩) := bytes_ext (by rw [Lib.extract_data]; simp)
    have HX2 : Hid ((⟨t.toArray⟩ : ByteArray).extract n (n + 4) = ⟨(t.drop n).toArray⟩) := bytes_ext (by rw [Lib.extract_data, List.take_of_length_le (by simp; omega)])
    have hzt : (⟨(t.take n).toArray⟩ : ByteArray).size = n := by rw [size_mk, List.length_take]; omega
    rw [hn] at hz
    have hi2 : (n : Int) + 4 - 4 = (n : Int) := by omega
    have hnb : n ≤ 10000000 := by omega
    clear hn h4 hi ht
    have hd4 : (4 : Int) ≤ (n : Int) + 4 := by omega
    have hd5 : (n : Int) ≤ (n : Int) + 4 := by omega
    have HLR : Hid (Pr.longR (t.drop n) = some (Pg.high (t.drop n), [])) := by
      have e1 : (t.drop n).take 4 = t.drop n := List.take_of_length_le (by omega)
      have e2 : (t.drop n).drop 4 = [] := List.drop_eq_nil_of_le (by omega)
      show _ = _; unfold Pr.longR; rw [Pr.takeR_yes (by omega), e1, e2]; rfl
    have hhi : Pg.high (t.drop n) < 4294967296 := Pg.high_lt _ 4 (by omega)
    have hcr := Pg.crc_lt (t.take n)
    go_wp2_with fail
    refine (unless_yes _).mono ?_
    rintro r w1 ⟨rfl, rfl⟩
    have hx1 := HX1.out
    have hx2 := HX2.out
    go_wp2_with fail
    refine (newReader_any (t.drop n) _).mono ?_
    rintro r w2 ⟨rfl, rfl⟩
    have HR2 := hid (rd_new w1 (t.drop n))
    have HB2 := hid ((Below.refl w1.heap.size w1).alloc (Nat.le_refl _) (.cells #[.string ⟨(t.drop n).toArray⟩] 298))
    go_wp2_with fail
    generalize w1.alloc (.cells #[.string ⟨(t.drop n).toArray⟩] 298) = w2 at *
    refine (rlong_any _ _ _ HR2.out).mono ?_
    rintro r w3 ⟨hb3, ⟨hno, -⟩ | ⟨x, u, hyes, rfl, -⟩⟩
    · rw [HLR.out] at hno; simp at hno
    rw [HLR.out] at hyes
    simp only [Option.some.injEq, Prod.mk.injEq] at hyes
    obtain ⟨rfl, -⟩ := hyes
    have HB3 := hid (but_to_below HB2.out hb3 (Nat.le_refl _) HB2.out.size)
    have HCK := hid (check_any ⟨(t.take n).toArray⟩ w3 (by rw [hzt]; omega))
    rw [show (⟨(t.take n).toArray⟩ : ByteArray).data.toList = t.take n from rfl] at HCK
    clear hb3 HB2 HR2 HLR
    unfold lv
    generalize hh1 : Pg.high (t.drop n) = hi at *
    generalize hh2 : Pg.crc (t.take n) = cr at *
    clear hh1 hh2
    go_wp2_with fail
    refine HCK.out.mono ?_
    rintro r w4 ⟨rfl, rfl⟩
    by_cases hec : hi = cr
    · subst hec
      rw [if_pos rfl] at HU
      go_wp2_with fail
      refine (unless_yes _).mono ?_
      rintro r w5 ⟨rfl, rfl⟩
      go_wp2_with fail
      go_ret
      exact ⟨HB3.out, .inr ⟨_, HU.out, rfl⟩⟩
    · rw [if_neg hec] at HU
      have hne : ((hi : Int) == (cr : Int)) = false := by simp; omega
      go_wp2_with fail
      refine (unless_no _).mono ?_
      rintro r w5 ⟨rfl, rfl⟩
      unfold gaveUp
      go_wp2_with fail
      exact ⟨rfl, HB3.out, .inl ⟨HU.out, rfl⟩⟩
  · have hi : ¬ (4 : Int) ≤ (t.length : Int) := by omega
    have HU : Hid (Pr.unsealR t = none) := by show _ = _; unfold Pr.unsealR; rw [if_neg h4]
    go_wp2_with fail
    refine (unless_no _).mono ?_
    rintro r w1 ⟨rfl, rfl⟩
    unfold gaveUp
    go_wp2_with fail
    exact ⟨rfl, Below.refl _ _, .inl ⟨HU.out, rfl⟩⟩
end Go.Proofs.YtolgpnaoaodepaaGreat
/- The walk of pages' readOldBranch. -/
namespace Go.Proofs.YtolgpnaoaodepaaGreat
open Go.RowKit

/-- What the readers of an old page's inside end in. -/
def OlQ (b : Nat) (w : World) (o : Option (Pr.NodeT × List UInt8)) (r : Ending) (w' : World) : Prop := But b w w' ∧ ((o = none ∧ r = gaveUp) ∨ ∃ kd il cl pl ml v u, o = some ((kd, plain il, cl, lists pl, plainCh ml), u) ∧ r = .returned v ∧ NodeV w.heap.size w' v kd il cl pl ml ∧ Rd w' b u)
/-- While they read: the result, as yet empty; the node; the reader. -/
structure OlN (b : Nat) (w wr : World) (u : List UInt8) (kd : Int) (il : List (ByteArray × ByteArray)) (cl : List Nat) (pl : List ByteArray) (ml : List (Int × ByteArray × ByteArray)) (vi vc vp vm : Value) : Prop where
  res : NodeB wr w.heap.size (.int .i64 0) (.slice none 0 0) (.slice none 0 0) (.slice none 0 0) (.slice none 0 0)
  but : But b w wr
  nd : NdB (w.heap.size + 1) (w.heap.size + 2) wr (.int .i64 kd) il cl pl ml vi vc vp vm
  rd : Rd wr b u
  lt : b < w.heap.size
theorem but_new {b : Nat} {w wr wx : World} {B : Nat} (h : But b w wr) (hb : Below B wr wx) (hB : w.heap.size ≤ B) : But b w wx :=
  ⟨hb.os.trans h.os, hb.tape.trans h.tape, hb.output.trans h.output, Nat.le_trans h.size hb.size, fun k hk hr => (hb.block k (by omega)).trans (h.block k hk hr)⟩
theorem but_setNew {b c i : Nat} {w wr : World} (h : But b w wr) (hc : w.heap.size ≤ c) (u : Value) : But b w (wr.setCell ⟨c, i, none⟩ u) :=
  ⟨h.os, h.tape, h.output, by rw [setSize]; exact h.size, fun k hk hr => (Below.heap_setCell wr (⟨c, i, none⟩ : Addr) u k (by show k ≠ c; omega)).trans (h.block k hk hr)⟩
theorem OlN.step {b : Nat} {w wr wx : World} {u u' : List UInt8} {kd : Int} {il : List (ByteArray × ByteArray)} {cl : List Nat} {pl : List ByteArray} {ml : List (Int × ByteArray × ByteArray)} {vi vc vp vm : Value} (h : OlN b w wr u kd il cl pl ml vi vc vp vm) (hr : Rd wx b u') (hb : But b wr wx) : OlN b w wx u' kd il cl pl ml vi vc vp vm := by
  have hl := h.lt
  exact ⟨h.res.but hb (by omega), but_trans h.but hb, h.nd.butLow hb (by omega) (by omega), hr, hl⟩
theorem OlN.below {b : Nat} {w wr wx : World} {u : List UInt8} {kd : Int} {il : List (ByteArray × ByteArray)} {cl : List Nat} {pl : List ByteArray} {ml : List (Int × ByteArray × ByteArray)} {vi vc vp vm : Value} (h : OlN b w wr u kd il cl pl ml vi vc vp vm) (hb : Below wr.heap.size wr wx) : OlN b w wx u kd il cl pl ml vi vc vp vm :=
  ⟨h.res.keep hb, but_new h.but hb h.but.size, h.nd.below hb, h.rd.below hb h.rd.lt, h.lt⟩
theorem OlN.other {b i : Nat} {w wr wx : World} {u : List UInt8} {kd kd' : Int} {il il' : List (ByteArray × ByteArray)} {cl cl' : List Nat} {pl pl' : List ByteArray} {ml ml' : List (Int × ByteArray × ByteArray)} {vi vc vp vm vi' vc' vp' vm' z : Value} (h : OlN b w wr u kd il cl pl ml vi vc vp vm) (hb : Below (w.heap.size + 2) wr wx) (hn : NdB (w.heap.size + 1) (w.heap.size + 2) (wx.setCell ⟨w.heap.size + 1, i, none⟩ z) (.int .i64 kd') il' cl' pl' ml' vi' vc' vp' vm') : OlN b w (wx.setCell ⟨w.heap.size + 1, i, none⟩ z) u kd' il' cl' pl' ml' vi' vc' vp' vm' := by
  have hl := h.lt
  refine ⟨(h.res.below hb (by omega)).but (but_set (w.heap.size + 1) i wx z) (by omega), but_setNew (but_new h.but hb (by omega)) (by omega) z, hn, ?_, hl⟩
  exact (h.rd.below hb (by omega)).setOther (by omega) z
theorem oln_new {b : Nat} {w : World} {u : List UInt8} (kd : Int) (hr : Rd w b u) : OlN b w ((w.alloc (.cells #[.int .i64 0, .slice none 0 0, .slice none 0 0, .slice none 0 0, .slice none 0 0] 79)).alloc (.cells #[.int .i64 kd, .slice none 0 0, .slice none 0 0, .slice none 0 0, .slice none 0 0] 79)) u kd [] [] [] [] (.slice none 0 0) (.slice none 0 0) (.slice none 0 0) (.slice none 0 0) := by
  have hb := ((Below.refl w.heap.size w).alloc (Nat.le_refl _) (.cells #[.int .i64 0, .slice none 0 0, .slice none 0 0, .slice none 0 0, .slice none 0 0] 79)).alloc (by simp) (.cells #[.int .i64 kd, .slice none 0 0, .slice none 0 0, .slice none 0 0, .slice none 0 0] 79)
  have hn := nodeB_new (w.alloc (.cells #[.int .i64 0, .slice none 0 0, .slice none 0 0, .slice none 0 0, .slice none 0 0] 79)) (.int .i64 kd) (.slice none 0 0) (.slice none 0 0) (.slice none 0 0) (.slice none 0 0)
  rw [show (w.alloc (.cells #[.int .i64 0, .slice none 0 0, .slice none 0 0, .slice none 0 0, .slice none 0 0] 79)).heap.size = w.heap.size + 1 by simp] at hn
  exact ⟨(nodeB_new w _ _ _ _ _).keep ((Below.refl _ _).alloc (Nat.le_refl _) _), but_below hb, ndB_new hn (by omega) (by simp), hr.below hb hr.lt, hr.lt⟩
theorem nodeB_res2 {w : World} {b : Nat} {v0 v1 v2 v3 v4 : Value} (h : NodeB w b v0 v1 v2 v3 v4) (u0 u1 u2 u3 u4 : Value) : (put5 w b u0 u1 u2 u3 u4).cell? ⟨b, 0, none⟩ = some u0 ∧ (put5 w b u0 u1 u2 u3 u4).cell? ⟨b, 1, none⟩ = some u1 ∧ (put5 w b u0 u1 u2 u3 u4).cell? ⟨b, 2, none⟩ = some u2 ∧ (put5 w b u0 u1 u2 u3 u4).cell? ⟨b, 3, none⟩ = some u3 ∧ (put5 w b u0 u1 u2 u3 u4).cell? ⟨b, 4, none⟩ = some u4 := by
  obtain ⟨a, b, c, d, e, -⟩ := (h.put u0 u1 u2 u3 u4).cells
  exact ⟨a, b, c, d, e⟩
theorem olQ_end {b : Nat} {w wr : World} {u : List UInt8} {kd : Int} {il : List (ByteArray × ByteArray)} {cl : List Nat} {pl : List ByteArray} {ml : List (Int × ByteArray × ByteArray)} {vi vc vp vm : Value} {o : Option (Pr.NodeT × List UInt8)} (h : OlN b w wr u kd il cl pl ml vi vc vp vm) (ho : o = some ((kd, plain il, cl, lists pl, plainCh ml), u)) (h1 : il.length ≤ 1020) (h2 : cl.length ≤ 255) (h3 : pl.length ≤ 255) (h4 : ml.length ≤ 255) :
    OlQ b w o (.returned (.agg #[.int .i64 kd, vi, vc, vp, vm])) (put5 wr w.heap.size (.int .i64 kd) vi vc vp vm) := by
  have hl := h.lt
  have hbut : But b w (put5 wr w.heap.size (.int .i64 kd) vi vc vp vm) := by
    unfold put5
    exact but_setNew (but_setNew (but_setNew (but_setNew (but_setNew h.but (Nat.le_refl _) _) (Nat.le_refl _) _) (Nat.le_refl _) _) (Nat.le_refl _) _) (Nat.le_refl _) _
  have hrd : Rd (put5 wr w.heap.size (.int .i64 kd) vi vc vp vm) b u := by
    unfold put5
    exact ((((h.rd.setOther (by omega) _).setOther (by omega) _).setOther (by omega) _).setOther (by omega) _).setOther (by omega) _
  exact ⟨hbut, .inr ⟨kd, il, cl, pl, ml, _, u, ho, rfl, ((h.nd.nodeV h1 h2 h3 h4).put (by omega) _ _ _ _ _).shrink (by omega), hrd⟩⟩
/-- The pivots, made in one go. -/
theorem NdB.setP {nb B S : Nat} {wr : World} {kd : Value} {il : List (ByteArray × ByteArray)} {cl : List Nat} {pl px : List ByteArray} {ml : List (Int × ByteArray × ByteArray)} {vi vc vp vm v' : Value} (h : NdB nb B wr kd il cl pl ml vi vc vp vm) (ho : OwnsS S wr v' px) (hS : B ≤ S) (h1 : ∀ k, vi.ownBlock = some k → k < S) (h2 : ∀ k, vc.ownBlock = some k → k < S) (h3 : ∀ k, vm.ownBlock = some k → k < S) : NdB nb B (wr.setCell ⟨nb, 3, none⟩ v') kd il cl px ml vi vc v' vm := by
  have hlt := h.lt
  have hle := h.le
  have ap : ∀ u : Value, (∀ k, u.ownBlock = some k → k < S) → Apart u v' := fun u hu k hk e => by have := (World.ownsRow.lt ho k e).1; have := hu k hk; omega
  exact ⟨h.var.set3 v', row_set h.its hlt _, row_set h.kids hlt _, row_set (row_shrink ho hS) hlt _, row_set h.chgs hlt _, h.ic, ap vi h1, h.im, ap vc h2, h.cm, (ap vm h3).symm, hlt, by simp [World.setCell]; omega⟩
theorem rlong_yes (b : Nat) (t : List UInt8) (w : World) (hr : Rd w b t) {x : Nat} {u : List UInt8} (h : Pr.longR t = some (x, u)) : Calls Tryz.prog 269 #[.pointer (some ⟨b, 0, none⟩)] w fun r w' => r = .returned (.int .u32 (x : Int)) ∧ Rd w' b u ∧ But b w w' := (rlong_any b t w hr).mono fun _ _ q => rdq_yes (f := lv) q h
theorem rlong_no (b : Nat) (t : List UInt8) (w : World) (hr : Rd w b t) (h : Pr.longR t = none) : Calls Tryz.prog 269 #[.pointer (some ⟨b, 0, none⟩)] w fun r w' => r = gaveUp ∧ But b w w' := (rlong_any b t w hr).mono fun _ _ q => rdq_no q h
set_option maxHeartbeats 1000000 in
set_option maxRecDepth 20000 in
theorem readOldBranch_any (b : Nat) (t : List UInt8) (w : World) (hr : Rd w b t) (ht : t.length ≤ 10000000) :
    Calls Tryz.prog 258 #[.pointer (some ⟨b, 0, none⟩)] w fun r w' => OlQ b w ((Pr.oldBrR t).map fun x => ((2, [], x.1.1, x.1.2.1, x.1.2.2), x.2)) r w' := by
  have HM0 := hid (oln_new (w := w) 2 hr)
  have HLT := hid hr.lt
  clear hr
  go_enter Tryz.func258, Tryz.ntmps258
  go_wp2_with fail
  generalize (w.alloc (.cells #[.int .i64 0, .slice none 0 0, .slice none 0 0, .slice none 0 0, .slice none 0 0] 79)).alloc (.cells #[.int .i64 2, .slice none 0 0, .slice none 0 0, .slice none 0 0, .slice none 0 0] 79) = w0 at *
  refine (rbyte_any b t w0 HM0.out.rd).mono ?_
  rintro r w1 ⟨hb1, ⟨hn, rfl⟩ | ⟨nb, u1, hs, rfl, hr1⟩⟩
  · have HT : Hid ((Pr.oldBrR t).map (fun x => (((2 : Int), ([] : Pr.Its), x.1.1, x.1.2.1, x.1.2.2), x.2)) = none) := by show _ = _; unfold Pr.oldBrR; rw [hn]; rfl
    have HB := hid (but_trans HM0.out.but hb1)
    clear hb1 hn
    unfold gaveUp
    go_wp2_with fail
    exact ⟨rfl, HB.out, .inl ⟨HT.out, rfl⟩⟩
  have HM1 := hid (HM0.out.step hr1 hb1)
  have HT1 : Hid (Pr.oldBrR t = (Pr.longsR nb.toNat u1).bind fun x => (Pr.pivotsR (nb.toNat - 1) x.2).bind fun p => (Pr.chgsR p.2).map fun m => ((x.1, p.1, m.1), m.2)) := by show _ = _; unfold Pr.oldBrR; rw [hs]; rfl
  have hn256 : nb.toNat < 256 := nb.toNat_lt
  have hul : u1.length ≤ 10000000 := by have := Pr.byteR_len hs; rw [this] at ht; simp at ht; omega
  clear hb1 hr1 hs HM0 ht
  unfold bv
  generalize nb.toNat = n at *
  go_wp2_with fail
  go_loopw [10] (fun i wr => ∃ (k : Nat) (cl : List Nat) (q : List UInt8) (vc : Value), k ≤ n ∧ i = .int .i64 k ∧ cl.length = k ∧ q.length ≤ 10000000 ∧ OlN b w wr q 2 [] cl [] [] (.slice none 0 0) vc (.slice none 0 0) (.slice none 0 0) ∧ (Pr.longsR (n - k) q).map (fun r => (cl ++ r.1, r.2)) = Pr.longsR n u1) (fun i _ => n - (intOf i).toNat)
  case atStart => exact ⟨0, [], u1, _, Nat.zero_le _, rfl, rfl, hul, HM1.out, by simp⟩
  case round =>
    clear HM1 hul
    obtain ⟨k, cl, q, vc, hk, rfl, hcl, hq, hm, heq⟩ := hrel
    have HCL := hid hcl
    have HM := hid hm
    have HEQ := hid heq
    obtain ⟨ca, cc, rfl⟩ := rowShape hm.nd.kids
    obtain ⟨n0, n1, n2, n3, n4, x0, x1, x2, x3, x4⟩ := hm.nd.var.cells
    have hle := hm.nd.le
    have hcll : cl.length ≤ 255 := by omega
    clear hcl hm heq
    by_cases hkn : k < n
    · have hi1 : (k : Int) < (n : Int) := by omega
      obtain ⟨m, hm⟩ : ∃ m, n - k = m + 1 := ⟨n - k - 1, by omega⟩
      have HMK : Hid (m = n - (k + 1)) := by show _ = _; omega
      rw [hm, Pr.longsR] at HEQ
      clear hm
      cases hl : Pr.longR q with
      | none =>
        have HT : Hid ((Pr.oldBrR t).map (fun x => (((2 : Int), ([] : Pr.Its), x.1.1, x.1.2.1, x.1.2.2), x.2)) = none) := by
          show _ = _; rw [HT1.out, ← HEQ.out, hl]; rfl
        have HC := hid (rlong_no b q (World.drew wr) HM.out.rd hl)
        clear hl
        go_wp2_with fail
        go_region_dies
        all_goals
          refine HC.out.mono ?_
          rintro r w5 ⟨rfl, hb5⟩
          have HB5 := hid (but_trans HM.out.but (but_drew hb5))
          clear hb5
          unfold gaveUp
          go_wp2_with fail
          exact ⟨rfl, HB5.out, .inl ⟨HT.out, rfl⟩⟩
      | some y =>
        obtain ⟨nv, q'⟩ := y
        have HC := hid (rlong_yes b q (World.drew wr) HM.out.rd hl)
        obtain ⟨hiv, hnv⟩ := Pr.longR_inv hl
        have hq' : q'.length ≤ 10000000 := by have := congrArg List.length hiv; rw [List.length_append] at this; omega
        have HEQ2 : Hid ((Pr.longsR m q').map (fun r => ((cl ++ [nv]) ++ r.1, r.2)) = Pr.longsR n u1) := by
          show _ = _; rw [← HEQ.out, hl]; simp only [Option.bind_some, Option.map_map]; congr 1; funext r; simp
        have hw1 : IntKind.i64.wrap (nv : Int) = (nv : Int) := IntWalk.i64_in _ ⟨by omega, by omega⟩
        clear hl HEQ hiv
        go_wp2_with fail
        go_region_law (first
          | (refine stepApN _ (by rfl) (.tmp 13) (.tmp 17) (by rfl) (w.heap.size + 2) (.slice ca cl.length cc) cl (by simp [Act.eval]) H9.out.nd.kids nv w8.heap.size (by simp [Act.eval]) HCE9.out (by omega) H9.out.nd.le ?_
             intro v9 w9 ho9 hg9 hat9
             obtain ⟨a9, c9, rfl⟩ := rowShape ho9
             have HAP := hid (H9.out.nd.apC ho9 hg9 hat9)
             obtain ⟨e0, e1, e2, e3, e4, y0, y1, y2, y3, y4⟩ := HAP.out.1.cells
             clear ho9 hg9 hat9)
          | (go_simp
             refine HC.out.mono ?_
             rintro r w8 ⟨rfl, hr8, hb8⟩
             have HM8 := hid (HM.out.step hr8 (but_drew hb8))
             have BAL := (Below.refl w8.heap.size w8).alloc (Nat.le_refl _) (.cells #[.int .i64 (nv : Int)] 3)
             have H9 := hid (HM8.out.below BAL)
             have HCE9 : Hid ((w8.alloc (.cells #[.int .i64 (nv : Int)] 3)).cell? ⟨w8.heap.size, 0, none⟩ = some (.int .i64 (nv : Int))) := by show _ = _; simp
             obtain ⟨g0, g1, g2, g3, g4, f0, f1, f2, f3, f4⟩ := HM8.out.nd.var.cells
             obtain ⟨-, -, g2a, -, -, -, -, f2a, -, -⟩ := H9.out.nd.var.cells
             clear hr8 hb8 BAL))
        all_goals
          have HMZ := hid (H9.out.other HAP.out.2.2 HAP.out.2.1)
          clear HAP H9 HCE9
          go_wp2_with fail
          go_roundw
          case rel => exact ⟨k + 1, cl ++ [nv], q', _, by omega, by go_num, by rw [List.length_append, HCL.out]; rfl, hq', HMZ.out, by rw [← HMK.out, HEQ2.out]⟩
          case measure => simp [intOf]; omega
    · have hi1 : ¬ (k : Int) < (n : Int) := by omega
      have HEQ2 : Hid (Pr.longsR n u1 = some (cl, q)) := by show _ = _; rw [← HEQ.out, show n - k = 0 by omega]; simp [Pr.longsR]
      rw [HEQ2.out] at HT1
      clear HEQ HEQ2
      have HCP := hid (readPivots_any b n q wr HM.out.rd (by omega) hq)
      go_wp2_with fail
      refine HCP.out.mono ?_
      rintro r w5 ⟨hb5, ⟨hno, rfl⟩ | ⟨pl, vp, u5, hyes, rfl, ho5, hpl, hr5⟩⟩
      · have HT : Hid ((Pr.oldBrR t).map (fun x => (((2 : Int), ([] : Pr.Its), x.1.1, x.1.2.1, x.1.2.2), x.2)) = none) := by
          show _ = _; rw [HT1.out]; simp only [Option.bind_some]; rw [hno]; rfl
        have HB5 := hid (but_trans HM.out.but hb5)
        clear hb5 hno
        unfold gaveUp
        go_wp2_with fail
        exact ⟨rfl, HB5.out, .inl ⟨HT.out, rfl⟩⟩
      have HM5 := hid (HM.out.step hr5 hb5)
      obtain ⟨pa, pc, rfl⟩ := rowShape ho5
      have HN6 := hid (HM5.out.nd.setP ho5 hle (fun k hk => by simp [Value.ownBlock] at hk) (fun k hk => (World.ownsRow.lt HM.out.nd.kids k hk).2) (fun k hk => by simp [Value.ownBlock] at hk))
      have HM6 := hid (HM5.out.other (Below.refl _ _) HN6.out)
      have HT5 : Hid (Pr.oldBrR t = (Pr.chgsR u5).map fun m => ((cl, lists pl, m.1), m.2)) := by show _ = _; rw [HT1.out]; simp only [Option.bind_some]; rw [hyes]; rfl
      have hu5 : u5.length ≤ 10000000 := by
        have := (Pr.pivots_inv _ _ _ _ hyes).1
        have := congrArg List.length this
        rw [List.length_append] at this
        omega
      have hz6 := HM6.out.nd.le
      clear n0 n1 n2 n3 n4 x0 x1 x2 x3 x4
      obtain ⟨n0, n1, n2, n3, n4, x0, x1, x2, x3, x4⟩ := HM5.out.nd.var.cells
      clear hb5 hyes ho5 hr5 HN6 HM HM5 HT1 HCP
      go_wp2_with fail
      generalize w5.setCell ⟨w.heap.size + 1, 3, none⟩ (.slice pa pl.length pc) = w6 at *
      refine (readChanges_any b u5 w6 HM6.out.rd hu5).mono ?_
      rintro r w7 ⟨hb7, ⟨hno, rfl⟩ | ⟨ml, vm, u7, hyes, rfl, ho7, hml, hr7⟩⟩
      · have HT : Hid ((Pr.oldBrR t).map (fun x => (((2 : Int), ([] : Pr.Its), x.1.1, x.1.2.1, x.1.2.2), x.2)) = none) := by
          show _ = _; rw [HT5.out, hno]; rfl
        have HB7 := hid (but_trans HM6.out.but hb7)
        clear hb7 hno
        unfold gaveUp
        go_wp2_with fail
        exact ⟨rfl, HB7.out, .inl ⟨HT.out, rfl⟩⟩
      have HM7 := hid (HM6.out.step hr7 hb7)
      obtain ⟨ma, mc, rfl⟩ := rowShape ho7
      have HN8 := hid (HM7.out.nd.setM ho7 hz6 (fun k hk => by simp [Value.ownBlock] at hk) (fun k hk => (World.ownsRow.lt HM6.out.nd.kids k hk).2) (fun k hk => (World.ownsRow.lt HM6.out.nd.pivs k hk).2))
      have HM8 := hid (HM7.out.other (Below.refl _ _) HN8.out)
      have HT7 : Hid ((Pr.oldBrR t).map (fun x => (((2 : Int), ([] : Pr.Its), x.1.1, x.1.2.1, x.1.2.2), x.2)) = some ((2, plain [], cl, lists pl, plainCh ml), u7)) := by show _ = _; rw [HT5.out, hyes]; rfl
      clear n0 n1 n2 n3 n4 x0 x1 x2 x3 x4
      obtain ⟨n0, n1, n2, n3, n4, x0, x1, x2, x3, x4⟩ := HM7.out.nd.var.cells
      obtain ⟨m0, m1, m2, m3, m4, -⟩ := HM8.out.nd.var.cells
      obtain ⟨r0, r1, r2, r3, r4, y0, y1, y2, y3, y4⟩ := HM8.out.res.cells
      have HEND := hid (olQ_end HM8.out HT7.out (by simp) hcll hpl hml)
      obtain ⟨q0, q1, q2, q3, q4⟩ := nodeB_res2 HM8.out.res (.int .i64 2) (.slice none 0 0) (.slice ca cl.length cc) (.slice pa pl.length pc) (.slice ma ml.length mc)
      unfold put5 at q0 q1 q2 q3 q4
      clear hb7 hyes ho7 hr7 HN8 HM6 HM7
      go_wp2_with fail
      refine bodyPost_ret (v := .agg #[.int .i64 2, .slice none 0 0, .slice ca cl.length cc, .slice pa pl.length pc, .slice ma ml.length mc]) ?_ rfl HEND.out
      simp [results, Tryz.results258, go_sem, q0, q1, q2, q3, q4]
end Go.Proofs.YtolgpnaoaodepaaGreat
