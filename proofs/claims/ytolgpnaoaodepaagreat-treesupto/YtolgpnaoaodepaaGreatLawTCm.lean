/- The walks of added and scanned. -/
import Derived.Test.YtolgpnaoaodepaaGreatLawTBm
import Derived.Test.YtolgpnaoaodepaaGreatScaYm
import Derived.BigQuiet
import Derived.Test.YtolgpnaoaodepaaGreatSilAm
import Derived.Test.YtolgpnaoaodepaaGreatTreZJm
import Derived.Test.YtolgpnaoaodepaaGreatRefGm
import Derived.Test.YtolgpnaoaodepaaGreatTreLm
import Derived.Deep.DeepCutAuto
namespace Go.Proofs.YtolgpnaoaodepaaGreat
open Go.RowKit

theorem info_pp : (Tryz.prog.info? 84).map (fun i => (i.zero, i.size, i.bytes)) = some (some (.pointer none), 1, 8) := by kernel_rfl
theorem cell_grown {w w' : World} {b : Nat} {v : Value} {r : Option Nat} (h : w.cell? ⟨b, 0, none⟩ = some v ∧ w.frozen? ⟨b, 0, none⟩ = false) (hb : b < w.heap.size) (hg : w.grownBy w' r) (hr : r ≠ some b) : w'.cell? ⟨b, 0, none⟩ = some v ∧ w'.frozen? ⟨b, 0, none⟩ = false := by
  have e := hg.block b hb fun q => hr q.symm
  simp only [World.cell?, World.frozen?, e] at *
  exact h
set_option maxHeartbeats 400000 in
set_option maxRecDepth 20000 in
theorem added_any {b k N : Nat} {X : Nat → Prop} {vl : Value} {qs : List (Nat × List Nat)} {x y b' : Nat} {F : List Nat} {v : Value} {il : List (ByteArray × ByteArray)} {V : Tr.Key → Option Tr.Key} {w : World} (h : LW b k N (fun g => X g ∨ g ∈ x :: y :: b' :: (F ++ blk v)) vl qs w) (hst : ST w x b') (htr : TreM V N b' F w) (hrt : RT w y v) (hrow : OwnsI 0 w v il) (hris : Tr.Rising (plain il)) (hval : ∀ k, Tr.look (plain il) k = V k) (hlen : il.length ≤ N) (h16 : ∀ z ∈ il, z.2.size ≤ 16) (hnd : (x :: y :: b' :: (F ++ blk v)).Nodup) (hGX : ∀ g ∈ x :: y :: b' :: (F ++ blk v), ¬ X g) (hN : N ≤ 900000) :
    Calls Tryz.prog 52 #[.pointer (some ⟨b, 0, none⟩), .pointer (some ⟨x, 0, none⟩), .pointer (some ⟨y, 0, none⟩)] w (AdQ b k N X qs w) := by
  obtain ⟨c0, f0⟩ := h.cell
  have hb3 : Below w.heap.size w (w.alloc (.cells #[.pointer (some ⟨x, 0, none⟩), .pointer (some ⟨y, 0, none⟩)] 117)) := (Below.refl _ w).alloc (Nat.le_refl _) _
  have hs3 : (w.alloc (.cells #[.pointer (some ⟨x, 0, none⟩), .pointer (some ⟨y, 0, none⟩)] 117)).heap.size = w.heap.size + 1 := by simp
  have HR3 : Hid ((w.alloc (.cells #[.pointer (some ⟨x, 0, none⟩), .pointer (some ⟨y, 0, none⟩)] 117)).ownsRow 0 84 1 vl qs.length (qs.map fun p => .pointer (some ⟨p.1, 0, none⟩))) := row_below h.trs.row hb3 (Nat.le_refl _)
  have hc3 := (h.below hb3).cell
  have hqn := h.cnt
  have HADD := hid (fun w3 w4 vl' => LW.add (w3 := w3) (w4 := w4) (vl' := vl') h hst htr hrt hrow hris hval hlen h16 hnd hGX)
  have HB : Hid (∀ g, vl.ownBlock = some g → b < g) := fun g hg => (h.far g (List.mem_append_left _ (mem_blk.2 hg))).1
  have hbl := h.lt
  obtain ⟨va, vc, rfl⟩ := rowShape h.trs.row
  clear h hst htr hrt hrow hris hval hlen h16 hnd hGX hb3
  go_enter Tryz.func52, Tryz.ntmps52
  go_wp2_with (at_builtin; refine wpApG (w.alloc (.cells #[.pointer (some ⟨x, 0, none⟩), .pointer (some ⟨y, 0, none⟩)] 117)) rfl (.tmp 18) (.tmp 23) 67 84 Tryz.underlying67 _ 1 8 info_pp rfl (by decide) (by decide) rfl 0 (.slice va qs.length vc) qs.length _ rfl HR3.out [.pointer (some ⟨w.heap.size, 0, none⟩)] rfl (by intro u hu; simp at hu; rw [hu]; rfl) (by simp [Act.eval]) (by omega) (Nat.zero_le _) ?_; intro v2 w2 ho2 hg2 hb2; have HA := hid (HADD.out _ w2 v2 rfl ho2 hg2 hb2); have hc2 : w2.cell? ⟨b, 0, none⟩ = some (.slice va qs.length vc) ∧ w2.frozen? ⟨b, 0, none⟩ = false := cell_grown hc3 (by rw [hs3]; omega) hg2 (fun e => by have := HB.out b e; omega); obtain ⟨y0, y1⟩ := hc2; obtain ⟨a2, n2, p2, rfl⟩ := shape3 ho2; clear ho2 hg2 hb2 hc3 c0 f0)
  go_ret
  exact HA.out

/-- What a scan leaves: the trees as they were. -/
structure ScQ (b k N : Nat) (X : Nat → Prop) (vl : Value) (qs : List (Nat × List Nat)) (w : World) (r : Ending) (w' : World) : Prop where
  ret : r = .returned (.bool true)
  lw : LW b (k + 4) N X vl qs w'
  bel : Below b w w'
  same : ∀ g, X g → w'.heap[g]? = w.heap[g]?
  row : ∀ g ∈ blk vl, w'.heap[g]? = w.heap[g]?
theorem LW.owned {b k N : Nat} {X : Nat → Prop} {vl : Value} {qs : List (Nat × List Nat)} {w wr w' : World} (h : LW b k N X vl qs w) (hb : Below w.heap.size w wr) (hbk : Bk w' b vl (k + 4) (fun g => X g ∨ g ∈ blk vl ++ prB qs)) (hbel : Below b wr w') (hs : ∀ g, (X g ∨ g ∈ blk vl ++ prB qs) → w'.heap[g]? = wr.heap[g]?) : ScQ b k N X vl qs w (.returned (.bool true)) w' :=
  ⟨rfl, ⟨h.trs.keep fun g hg => (hs g (.inr hg)).trans (hb.block g (h.trs.lt g hg)), hbk, h.far, fun g hg => ⟨(h.xs g hg).1, Nat.lt_of_lt_of_le (h.xs g hg).2 (Nat.le_trans hb.size hbel.size)⟩, h.cnt⟩, (hb.mono (Nat.le_of_lt h.lt)).trans hbel, fun g hg => (hs g (.inl hg)).trans (hb.block g (h.xs g hg).2), fun g hg => (hs g (.inr (List.mem_append_left _ hg))).trans (hb.block g (h.trs.lt g (List.mem_append_left _ hg)))⟩

set_option maxHeartbeats 1000000 in
set_option maxRecDepth 20000 in
theorem scanned_any {b k N : Nat} {X : Nat → Prop} {vl : Value} {qs : List (Nat × List Nat)} {w : World} (h : LW b k N X vl qs w) (hk : k ≤ 90000000) (hN : N ≤ 90000) (p : Nat × List Nat) (hp : p ∈ qs) (fr ub : ByteArray) :
    Calls Tryz.prog 29 #[.pointer (some ⟨b, 0, none⟩), .pointer (some ⟨p.1, 0, none⟩), .string fr, .string ub] w (ScQ b k N X vl qs w) := by
  obtain ⟨x, y, b', F, v, il, V, hq, hG⟩ := h.trs.prs p hp
  have HL := hid h
  have HQ := hid hq
  obtain ⟨p0, p1⟩ := hq.pb.cells
  have hnx : x ∉ b' :: F := fun z => by
    have := (List.nodup_cons.1 (List.nodup_cons.1 hq.nd).2).1
    exact this (by rcases List.mem_cons.1 z with e | e <;> simp [e])
  have HSS := hid (sScan_any V N x b' F fr ub w hq.st hq.tr hnx hN)
  have hil : il.length ≤ 90000 := Nat.le_trans hq.len hN
  clear h hq hG hnx
  go_enter Tryz.func29, Tryz.ntmps29
  go_wp2_with fail
  refine HSS.out.mono ?_
  rintro r w1 ⟨v1, il1, rfl, ho1, hb1, hr1, hv1⟩
  have HSM := hid (scan_same hr1 hv1 HQ.out.ris HQ.out.val)
  have HO1 := hid ho1
  have HB1 := hid hb1
  obtain ⟨a1, c1, rfl⟩ := rowShape ho1
  have hpb1 : PB w1 p.1 x y := (hb1.block _ HQ.out.pb.lt).trans HQ.out.pb
  have HRS := hid (rScan_any y v il fr ub w1 ((hb1.block _ HQ.out.rt.lt).trans HQ.out.rt) (row_below HQ.out.row hb1 (Nat.le_refl _)) (by omega))
  clear p0 p1
  obtain ⟨p0, p1⟩ := hpb1.cells
  have hl1 : il1.length ≤ 90000 := by rw [HSM.out]; exact Nat.le_trans (List.length_filter_le ..) hil
  clear ho1 hb1 hr1 hv1 hpb1 HSS
  go_wp2_with fail
  refine HRS.out.mono ?_
  rintro r w2 ⟨v2, rfl, ho2, hb2⟩
  rw [← HSM.out] at ho2
  have HO2 := hid ho2
  have HB2 := hid hb2
  obtain ⟨a2, c2, rfl⟩ := rowShape ho2
  have HO12 : Hid (OwnsI w.heap.size w2 (.slice a1 il1.length c1) il1) := row_below HO1.out hb2 (Nat.le_refl _)
  clear ho2 hb2 HRS p0 p1
  go_wp2_with fail
  go_loopw [12, 13] (fun v12 v13 wr => v12 = .bool true ∧ ∃ j : Nat, j ≤ il1.length ∧ v13 = .int .i64 (j : Nat) ∧ Below w2.heap.size w2 wr) (fun _ v13 _ => il1.length - (intOf v13).toNat)
  case atStart => exact ⟨by simp, 0, Nat.zero_le _, rfl, Below.refl _ _⟩
  case round =>
    obtain ⟨rfl, j, hj, rfl, hbr⟩ := hrel
    have HBR := hid hbr
    by_cases hjl : j < il1.length
    · have o1 : OwnsI w.heap.size wr (.slice a1 il1.length c1) il1 := row_below HO12.out hbr (Nat.le_refl _)
      have o2 : OwnsI w1.heap.size wr (.slice a2 il1.length c2) il1 := row_below HO2.out hbr (Nat.le_refl _)
      obtain ⟨g1, q1, e1, z1, -, -, d0, d1⟩ := o1.at j hjl
      obtain ⟨g2, q2, e2, z2, -, -, d2, d3⟩ := o2.at j hjl
      simp only [Value.slice.injEq] at e1 e2
      obtain ⟨rfl, -, rfl⟩ := e1
      obtain ⟨rfl, -, rfl⟩ := e2
      generalize il1[j]'hjl = z at *
      obtain ⟨zk, zv⟩ := z
      simp only at d0 d1 d2 d3
      clear hbr o1 o2
      go_upto_region 7 with fail
      go_quiet (fail)
      go_wp2_with fail
      exact ⟨⟨rfl, j + 1, by omega, by go_num, below_drewN HBR.out _⟩, by simp [intOf]; omega⟩
    · obtain rfl : j = il1.length := by omega
      clear hbr
      have hbw : Below w.heap.size w wr := (HB1.out.trans (HB2.out.mono HB1.out.size)).trans (HBR.out.mono (Nat.le_trans HB1.out.size HB2.out.size))
      have ho : OwnsI w.heap.size wr (.slice a1 il1.length c1) il1 := row_below HO12.out HBR.out (Nat.le_refl _)
      have hlt := HL.out.lt
      have hX0 : ∀ g, (X g ∨ g ∈ blk vl ++ prB qs) → b < g ∧ g < w.heap.size := fun g hg => hg.elim (HL.out.xs g) fun q => ⟨(HL.out.far g q).1, HL.out.trs.lt g q⟩
      have HOW := hid (ownItems_bk b vl k (fun g => (X g ∨ g ∈ blk vl ++ prB qs) ∨ (Value.slice a1 il1.length c1).ownBlock = some g) (fun g => X g ∨ g ∈ blk vl ++ prB qs) (.slice a1 il1.length c1) il1.length (icells il1) wr (HL.out.bk.below2 hbw fun g hg => hg.imp id fun q => (World.ownsRow.lt ho g q).1) (row_zero ho) (by omega) (by omega) (fun g hg => ⟨by have := (World.ownsRow.lt ho g hg).1; omega, .inr hg⟩) (fun g hg => ⟨.inl hg, fun q => by have h1 := (World.ownsRow.lt ho g q).1; have h2 := (hX0 g hg).2; omega, Nat.lt_of_lt_of_le (hX0 g hg).2 hbw.size⟩) (fun g hg => hg.elim (fun q => (hX0 g q).1) fun q => by have := (World.ownsRow.lt ho g q).1; omega))
      have HBW := hid hbw
      clear hbw ho hX0
      go_wp2_with fail
      refine HOW.out.mono ?_
      rintro r w5 ⟨rfl, hbk5, hb5, hs5⟩
      have HE := hid (LW.owned HL.out HBW.out hbk5 hb5 hs5)
      clear hbk5 hb5 hs5
      go_wp2_with fail
      go_ret
      exact HE.out
end Go.Proofs.YtolgpnaoaodepaaGreat
/- The reference's tree: what Make makes of its list. -/
namespace Go.Proofs.YtolgpnaoaodepaaGreat
open Go.RowKit

theorem RT.set {w : World} {b : Nat} {v : Value} (h : RT w b v) (u : Value) : RT (w.setCell ⟨b, 0, none⟩ u) b u := by unfold RT at *; rw [heap_setCell_at (i := 0) h]; rfl
/-- A list's beginning. -/
theorem OwnsI.pre {w : World} {a : Option Addr} {n c : Nat} {A C : List (ByteArray × ByteArray)} (h : OwnsI 0 w (.slice a n c) (A ++ C)) : OwnsI 0 w (.slice a A.length c) A := by
  rcases h.2 with ⟨e, hn⟩ | ⟨g, cap, cur, e, hb, hg, hc, hm, hcs, htk⟩
  · simp only [Value.slice.injEq] at e
    obtain ⟨rfl, -, rfl⟩ := e
    have hA : A = [] := List.eq_nil_of_length_eq_zero (by rw [List.length_append] at hn; omega)
    subst hA
    exact World.ownsRow_nil _ _ _ _
  · simp only [Value.slice.injEq] at e
    obtain ⟨rfl, -, rfl⟩ := e
    refine ⟨icells_len2 A, .inr ⟨g, c, cur, rfl, hb, hg, ?_, hm, hcs, ?_⟩⟩
    · rw [List.length_append] at hc; omega
    · have := congrArg (List.take (A.length * 2)) htk
      rw [List.take_take, List.length_append, Nat.min_eq_left (by omega), icells_append, List.take_left' (by rw [icells_len2])] at this
      exact this
/-- A list's rest, cell by cell. -/
theorem OwnsI.rest {w : World} {g cap : Nat} {il : List (ByteArray × ByteArray)} (h : OwnsI 0 w (.slice (some ⟨g, 0, none⟩) il.length cap) il) (i : Nat) (hi : i ≤ il.length) : ∀ j u, (icells (il.drop i))[j]? = some u → w.cell? ((⟨g, i * 2, none⟩ : Addr).add j) = some u := fun j u hj => by
  have h0 := h.cells rfl
  have e : icells il = icells (il.take i) ++ icells (il.drop i) := by rw [← icells_append, List.take_append_drop]
  have h1 : (icells il)[i * 2 + j]? = some u := by
    rw [e, List.getElem?_append_right (by rw [icells_len2, List.length_take]; omega), icells_len2, List.length_take, Nat.min_eq_left hi]
    rw [show i * 2 + j - i * 2 = j by omega]; exact hj
  have h2 := h0 (i * 2 + j) u h1
  rw [off_add] at h2 ⊢
  simpa using h2
/-- The value that Make writes. -/
def newVal (il : List (ByteArray × ByteArray)) (k : Int) (key x : ByteArray) : Tr.Key := if headIs (cutC il key) key ∧ k = 3 then Tr.last16 ((headVal (cutC il key) key).getD [] ++ x.data.toList) else x.data.toList
theorem headVal_no {C : List (ByteArray × ByteArray)} {key : ByteArray} (h : headIs C key = false) : headVal C key = none := by
  cases C with
  | nil => rfl
  | cons y D => exact if_neg (of_decide_eq_false h)
/-- What Make's list says. -/
theorem make_list {il : List (ByteArray × ByteArray)} (hr : Tr.Rising (plain il)) (k : Int) (key x : ByteArray) (hx : x.size ≤ 16) (hk : k = 1 ∨ k = 2 ∨ k = 3) :
    Tr.leaf1 (plain il) (chP k key x) = plain (cutA il key) ++ ((if k = 2 then [] else [(key.data.toList, newVal il k key x)]) ++ plain (if headIs (cutC il key) key then (cutC il key).drop 1 else cutC il key)) := by
  have hlk := look_cut (cut_parted il key hr) hr
  unfold Tr.leaf1
  show Tr.putK (plain il) key.data.toList (Tr.after (Tr.look (plain il) key.data.toList) (chP k key x)) = _
  rw [hlk]
  have ho : ∀ s, s = headVal (cutC il key) key → ((Tr.after s (chP k key x)).map fun v => (key.data.toList, v)).toList = if k = 2 then [] else [(key.data.toList, newVal il k key x)] := by
    rintro s rfl
    unfold Tr.after newVal
    show (Option.map _ (if k = 2 then none else if k = 3 then some (Tr.last16 ((headVal (cutC il key) key).getD [] ++ x.data.toList)) else some x.data.toList)).toList = _
    rcases hk with rfl | rfl | rfl
    · simp
    · simp
    · cases hh : headIs (cutC il key) key with
      | true => simp
      | false =>
        rw [headVal_no hh]
        simp only [Option.getD_none, List.nil_append]
        rw [Tr.last16_short (by rw [len_size]; exact hx)]
        simp
  cases hh : headIs (cutC il key) key with
  | false => rw [put_no rfl rfl hh, ho _ rfl]; rfl
  | true =>
    cases hC : cutC il key with
    | nil => rw [hC] at hh; cases hh
    | cons y D =>
      rw [hC] at hh
      rw [← hC, put_yes rfl hC (of_decide_eq_true hh), ho _ rfl, hC]; rfl
end Go.Proofs.YtolgpnaoaodepaaGreat
/- The walk of the reference's Make. -/
namespace Go.Proofs.YtolgpnaoaodepaaGreat
open Go.RowKit

/-- The change in its box; the list as it was. -/
structure RmB (w : World) (b : Nat) (v : Value) (il : List (ByteArray × ByteArray)) (k : Int) (key x : ByteArray) (W : World) : Prop where
  bel : Below w.heap.size w W
  ch : ChB W w.heap.size k key x
  rt : RT W b v
  row : OwnsI 0 W v il
theorem RmB.below {w : World} {b : Nat} {v : Value} {il : List (ByteArray × ByteArray)} {k : Int} {key x : ByteArray} {W W' : World} (h : RmB w b v il k key x W) (hb : Below W.heap.size W W') : RmB w b v il k key x W' :=
  ⟨h.bel.trans (hb.mono h.bel.size), (hb.block _ h.ch.lt).trans h.ch, (hb.block _ h.rt.lt).trans h.rt, row_below h.row hb (Nat.le_refl _)⟩
def RmQ (w : World) (b : Nat) (v : Value) (il : List (ByteArray × ByteArray)) (k : Int) (key x : ByteArray) (r : Ending) (w' : World) : Prop :=
  r = .returned (.int .i64 (if Pg.isChange k key.size x.size then 0 else 1)) ∧ Mod (fun g => g = b) w w' ∧ (Pg.isChange k key.size x.size = false → RT w' b v) ∧ (Pg.isChange k key.size x.size = true → ∃ v' il', RT w' b v' ∧ OwnsI 0 w' v' il' ∧ plain il' = Tr.leaf1 (plain il) (chP k key x) ∧ ∀ g, v'.ownBlock = some g → w.heap.size ≤ g)

theorem rm_end {w w3 w6 : World} {b : Nat} {v v6 : Value} {il l1 l2 : List (ByteArray × ByteArray)} {k : Int} {key x : ByteArray} (hc : Pg.isChange k key.size x.size = true) (h3 : RmB w b v il k key x w3) (hb : Below w3.heap.size w3 w6) (hbl : b < w.heap.size) {m : Nat} (hm : m = l2.length) (h6 : w6.ownsRow w3.heap.size 51 2 v6 (l1.length + m) (icells l1 ++ icells l2)) (hp : plain (l1 ++ l2) = Tr.leaf1 (plain il) (chP k key x)) : RmQ w b v il k key x (.returned (.int .i64 0)) (w6.setCell ⟨b, 0, none⟩ v6) := by
  have hs := h3.bel.size
  subst hm
  have m := Mod.setCell w6 b 0 v6
  have hB := (h3.below hb)
  refine ⟨by rw [hc]; rfl, (show Mod (fun g => g = b) w _ from (Mod.of_below (F := fun g => g = b) hB.bel).trans m (fun _ _ q => q) (fun _ _ q => q)), ⟨fun q => (by rw [hc] at q; cases q), fun _ => ⟨v6, l1 ++ l2, hB.rt.set v6, ?_, hp, fun g hg => Nat.le_trans hs (World.ownsRow.lt h6 g hg).1⟩⟩⟩
  refine m.row (row_zero (B := w3.heap.size) ?_) (fun g hg e => by have := (World.ownsRow.lt h6 g hg).1; omega)
  rw [List.length_append, icells_append]; exact h6

set_option maxHeartbeats 1000000 in
set_option maxRecDepth 20000 in
theorem rMake_any (b : Nat) (v : Value) (il : List (ByteArray × ByteArray)) (k : Int) (key x : ByteArray) (w : World) (hb : RT w b v) (h : OwnsI 0 w v il) (hl : il.length ≤ 1000000) (hr : Tr.Rising (plain il)) (h16 : ∀ z ∈ il, z.2.size ≤ 16) :
    Calls Tryz.prog 112 #[.pointer (some ⟨b, 0, none⟩), .agg #[.int .i64 k, .string key, .string x]] w (RmQ w b v il k key x) := by
  have hb0 : Below w.heap.size w (w.alloc (.cells #[.int .i64 k, .string key, .string x] 34)) := (Below.refl _ w).alloc (Nat.le_refl _) _
  have H0 : Hid (RmB w b v il k key x (w.alloc (.cells #[.int .i64 k, .string key, .string x] 34))) := ⟨hb0, heap_alloc_new _ _, (hb0.block b hb.lt).trans hb, row_below h hb0 (Nat.le_refl _)⟩
  have HBL := hid hb.lt
  obtain ⟨a, c, rfl⟩ := rowShape h
  have hlc : il.length ≤ c ∧ (a = none → c = 0) := by
    rcases h.2 with ⟨e, hn⟩ | ⟨g, cap, cur, e, _, _, hc, _⟩
    · simp only [Value.slice.injEq] at e
      obtain ⟨rfl, e2, rfl⟩ := e
      exact ⟨by omega, fun _ => rfl⟩
    · simp only [Value.slice.injEq] at e
      obtain ⟨rfl, -, rfl⟩ := e
      exact ⟨hc, fun q => by cases q⟩
  obtain ⟨hlc, -⟩ := hlc
  clear hb h hb0
  go_enter Tryz.func112, Tryz.ntmps112
  obtain ⟨c0, c1, c2⟩ := H0.out.ch.cells
  go_wp2_with fail
  generalize w.alloc (.cells #[.int .i64 k, .string key, .string x] 34) = w1 at *
  refine (change_any k key x w1).mono ?_
  rintro r w2 ⟨rfl, hb2⟩
  have H2 := hid (H0.out.below hb2)
  clear hb2 c0 c1 c2 H0
  obtain ⟨c0, c1, c2⟩ := H2.out.ch.cells
  cases hch : Pg.isChange k key.size x.size with
  | false =>
    have HCH := hid hch
    clear hch
    go_wp2_with fail
    go_ret
    refine ⟨by rw [HCH.out]; rfl, Mod.of_below H2.out.bel, fun _ => H2.out.rt, fun q => by rw [HCH.out] at q; cases q⟩
  | true =>
    have HCH := hid hch
    have hk : (k = 1 ∨ k = 2 ∨ k = 3) ∧ x.size ≤ 16 := by
      unfold Pg.isChange at hch
      simp only [Bool.and_eq_true, Bool.or_eq_true, decide_eq_true_eq] at hch
      exact ⟨by omega, hch.1.2⟩
    obtain ⟨hk, hx16⟩ := hk
    clear hch
    go_wp2_with fail
    refine (rFind_any b _ il key w2 H2.out.rt H2.out.row (by omega)).mono ?_
    rintro r w3 ⟨rfl, hb3⟩
    have H3 := hid (H2.out.below hb3)
    clear hb3 c0 c1 c2 H2
    obtain ⟨c0, c1, c2⟩ := H3.out.ch.cells
    obtain ⟨t0, t1⟩ := H3.out.rt.cells
    have HC3 := hid (cut_parted il key hr)
    have hn : (cutA il key).length ≤ il.length := by
      have := congrArg List.length HC3.out.1
      rw [List.length_append] at this
      omega
    have HNV : Hid (headIs (cutC il key) key = true → ∃ y D, cutC il key = y :: D ∧ (cutA il key).length < il.length ∧ headVal (cutC il key) key = some y.2.data.toList ∧ y.2.size ≤ 16 ∧ ∀ h : (cutA il key).length < il.length, il[(cutA il key).length]'h = y) := fun hh => by
      cases hC : cutC il key with
      | nil => rw [hC] at hh; cases hh
      | cons y D =>
        rw [hC] at hh
        have e := HC3.out.1
        rw [hC] at e
        have hlt : (cutA il key).length < il.length := by
          have := congrArg List.length e
          rw [List.length_append, List.length_cons] at this
          omega
        have hel := at_mid e hlt
        exact ⟨y, D, rfl, hlt, if_pos (of_decide_eq_true hh), h16 y (by rw [e]; simp), fun _ => hel⟩
    have HCASE : Hid (headIs (cutC il key) key = false ∨ (headIs (cutC il key) key = true ∧ k ≠ 3) ∨ (headIs (cutC il key) key = true ∧ k = 3)) := by
      cases headIs (cutC il key) key
      · exact .inl rfl
      · by_cases q : k = 3
        · exact .inr (.inr ⟨rfl, q⟩)
        · exact .inr (.inl ⟨rfl, q⟩)
    have HS3 := hid H3.out.bel.size
    have HLEN := hid (icells_len2 (cutA il key))
    rcases H3.out.row.2 with ⟨e, hn0⟩ | ⟨g, cap, cur, e, -, hg3, -⟩
    · simp only [Value.slice.injEq] at e
      obtain ⟨rfl, -, rfl⟩ := e
      have hil : il = [] := List.eq_nil_of_length_eq_zero hn0
      subst hil
      obtain ⟨i0, hi0, hz0, hz1, hz2⟩ := info_parts info_item
      have HNIL : Hid (w3.ownsRow w3.heap.size 51 2 (.slice none 0 0) 0 []) := World.ownsRow_nil _ _ _ _
      have HLE : Hid (w3.heap.size ≤ w3.heap.size) := Nat.le_refl _
      have HFL : Hid (plain (([] ++ if k = 2 then [] else [(key, x)]) ++ []) = Tr.leaf1 (plain []) (chP k key x)) := by
        show _ = _
        rw [make_list hr k key x hx16 hk]
        by_cases q : k = 2
        · rw [if_pos q, if_pos q]; rfl
        · rw [if_neg q, if_neg q]; rfl
      rw [show headIs (cutC [] key) key = false from rfl, show (cutA [] key).length = 0 from rfl]
      clear HCASE HNV HLEN
      by_cases hk2 : k = 2
      · have q2 : (k != 2) = false := by simpa using hk2
        have HF := HFL.out
        rw [if_pos hk2] at HF
        have HFF := hid HF
        clear HF hk2
        go_wp2_with (at_builtin; first
          | (refine wpList_append_own_none rfl (.tmp 47) (.tmp 53) 30 rfl w3.heap.size 51 i0 2 Tryz.underlying30 hi0 (.slice none 0 0) 0 [] rfl HNIL.out rfl ?_)
          | (refine wpList_append_own_none rfl (.tmp 69) (.tmp 75) 30 rfl w3.heap.size 51 i0 2 Tryz.underlying30 hi0 (.slice none 0 0) 0 [] rfl HNIL.out rfl ?_))
        go_ret
        exact rm_end (l1 := [] ++ []) (l2 := []) HCH.out H3.out (Below.refl _ _) HBL.out rfl (by simpa [icells] using HNIL.out) HFF.out
      · have q2 : (k != 2) = true := by simpa using hk2
        have HF := HFL.out
        rw [if_neg hk2] at HF
        have HFF := hid HF
        clear HF hk2
        go_wp2_with (at_builtin; first
          | (refine wpList_append_own_none rfl (.tmp 47) (.tmp 53) 30 rfl w3.heap.size 51 i0 2 Tryz.underlying30 hi0 (.slice none 0 0) 0 [] rfl HNIL.out rfl ?_)
          | (refine wpApG w3 rfl (.tmp 58) (.tmp 63) 30 51 Tryz.underlying30 _ 2 32 info_item rfl (by decide) (by decide) rfl w3.heap.size (.slice none 0 0) 0 [] rfl HNIL.out [.string key, .string x] rfl (by intro u hu; simp at hu; rcases hu with rfl | rfl <;> rfl) rfl (by omega) HLE.out ?_; intro v5 w5 o5 g5 k5; have O5 := hid o5; have HB5 : Hid (Below w3.heap.size w3 w5) := (Below.refl _ w3).grown g5 (Nat.le_refl _) (fun k hk => by simp [Value.ownBlock] at hk); clear o5 g5 k5 t0 t1 c0 c1 c2; obtain ⟨a5, m5, p5, rfl⟩ := shape3 O5.out; obtain ⟨t0, t1⟩ := (H3.out.below HB5.out).rt.cells)
          | (refine wpList_append_own_none rfl (.tmp 69) (.tmp 75) 30 rfl w3.heap.size 51 i0 2 Tryz.underlying30 hi0 _ _ _ rfl O5.out rfl ?_))
        go_ret
        exact rm_end (l1 := [] ++ [(key, x)]) (l2 := []) HCH.out H3.out HB5.out HBL.out rfl (by simpa [icells] using O5.out) HFF.out
    · simp only [Value.slice.injEq] at e
      obtain ⟨rfl, -, rfl⟩ := e
      have hgl : g < w3.heap.size := (Array.getElem?_eq_some_iff.1 hg3).1
      have HPRE : Hid (∀ j u, (icells (cutA il key))[j]? = some u → w3.cell? ((⟨g, 0, none⟩ : Addr).add j) = some u) := by
        have hpre : OwnsI 0 w3 (.slice (some ⟨g, 0, none⟩) (cutA il key).length c) (cutA il key) := OwnsI.pre (n := il.length) (C := cutC il key) (by rw [← HC3.out.1]; exact H3.out.row)
        exact hpre.cells rfl
      have HLE : Hid (w3.heap.size ≤ w3.heap.size) := Nat.le_refl _
      clear hg3
      rcases HCASE.out with hth | ⟨hth, hk3⟩ | ⟨hth, hk3⟩
      case' inr.inl =>
        obtain ⟨nv, hnv⟩ : ∃ nv, nv = x := ⟨x, rfl⟩
        have HVV : Hid (nv.data.toList = newVal il k key x) := by show _ = _; unfold newVal; rw [hnv, hth]; simp
        rw [← hnv] at c2
        clear hnv
        have HAT : Hid (headIs (cutC il key) key = false) := hth
        rw [hth]
      case' inr.inr.inl =>
        obtain ⟨nv, hnv⟩ : ∃ nv, nv = x := ⟨x, rfl⟩
        have HVV : Hid (nv.data.toList = newVal il k key x) := by show _ = _; unfold newVal; rw [hnv, if_neg (fun q => hk3 q.2)]
        rw [← hnv] at c2
        clear hnv
        have q3 : (k == 3) = false := by simpa using hk3
        obtain ⟨-, -, -, hlt, -⟩ := HNV.out hth
        have HAT : Hid (headIs (cutC il key) key = true) := hth
        rw [hth]
      case' inr.inr.inr =>
        obtain ⟨y, D, hC, hlt, hhv, hy16, hel⟩ := HNV.out hth
        obtain ⟨g', cap', e, hcp, -, hg, d0, d1⟩ := H3.out.row.at _ hlt
        simp only [Value.slice.injEq, Option.some.injEq, Addr.mk.injEq, and_true, true_and] at e
        obtain ⟨rfl, rfl⟩ := e
        rw [hel hlt] at d0 d1
        obtain ⟨yk, yv⟩ := y
        have HHV := hid hhv
        have HAT : Hid (headIs (cutC il key) key = true) := hth
        rw [hth]
        clear hC hel hhv
        have q3 : (k == 3) = true := by simpa using hk3
        have hv : (yv.size + x.size) ≤ 32 := by simp only at hy16; omega
      all_goals clear HCASE
      case' inr.inr.inr =>
        have hyx : (yv ++ x).size = yv.size + x.size := ByteArray.size_append
        have hdat : (yv ++ x).data.toList = yv.data.toList ++ x.data.toList := by rw [ByteArray.data_append, Array.toList_append]
        have HNW : Hid (newVal il k key x = Tr.last16 (yv.data.toList ++ x.data.toList)) := by
          show _ = _
          unfold newVal
          rw [if_pos ⟨hth, hk3⟩, HHV.out]; rfl
        by_cases hlong : 16 < yv.size + x.size
      case' pos =>
        obtain ⟨nv, hnv⟩ : ∃ nv, nv = (yv ++ x).extract (yv.size + x.size - 16) (yv.size + x.size) := ⟨_, rfl⟩
        have HVV : Hid (nv.data.toList = newVal il k key x) := by
          show _ = _
          rw [hnv, HNW.out, ← hdat, ← hyx, Lib.extract_data]
          unfold Tr.last16
          rw [len_size, List.take_of_length_le (by rw [List.length_drop, len_size]; omega)]
      case' neg =>
        obtain ⟨nv, hnv⟩ : ∃ nv, nv = yv ++ x := ⟨_, rfl⟩
        have HVV : Hid (nv.data.toList = newVal il k key x) := by
          show _ = _
          rw [hnv, HNW.out, ← hdat, Tr.last16_short (by rw [len_size]; omega)]
      case inr.inl =>
        generalize hnn : (cutA il key).length = n at *
        have HNN := hid hnn
        clear hnn
        go_upto_region 11 with fail
        try clear d0 d1
        try clear q3
        try clear hlong hyx hdat hv
        try rw [← hnv]
        try clear hnv
        go_upto_if 57 with (at_builtin; refine wpApAt w3 rfl (.tmp 47) (.tmp 53) 30 51 Tryz.underlying30 _ 2 32 info_item rfl (by decide) (by decide) rfl w3.heap.size (.slice none 0 0) 0 [] rfl (World.ownsRow_nil _ _ _ _) ⟨g, 0, none⟩ n c (icells (cutA il key)) rfl HLEN.out HPRE.out (one_icells _) (by omega) HLE.out ?_; intro v4 w4 o4 g4 k4; have c0' := ((H3.out.below ((Below.refl _ w3).grown g4 (Nat.le_refl _) (fun k hk => by simp [Value.ownBlock] at hk))).ch.cells).1)
        clear c0'
        have HB4 : Hid (Below w3.heap.size w3 w4) := (Below.refl _ w3).grown g4 (Nat.le_refl _) (fun k hk => by simp [Value.ownBlock] at hk)
        have H4 := hid (H3.out.below HB4.out)
        clear c0 c1 c2 t0 t1
        obtain ⟨c0, c1, c2⟩ := H4.out.ch.cells
        obtain ⟨t0, t1⟩ := H4.out.rt.cells
        have O4 : Hid (OwnsI w3.heap.size w4 v4 (cutA il key)) := by
          show OwnsI _ _ _ _
          unfold OwnsI
          rw [Nat.zero_add, List.nil_append] at o4
          rw [HNN.out]
          exact o4
        have hs4 := HB4.out.size
        clear o4 g4 k4
        go_cut [9] (fun v9 wx => OwnsI w3.heap.size wx v9 (cutA il key ++ if k = 2 then [] else [(key, nv)]) ∧ Below w3.heap.size w3 wx)
        case first =>
          by_cases hk2 : k = 2
          · try (exfalso; omega)
            all_goals
              have q2 : (k != 2) = false := by simpa using hk2
              have HF : Hid (OwnsI w3.heap.size w4 v4 (cutA il key ++ if k = 2 then [] else [(key, nv)])) := by
                show OwnsI _ _ _ _
                rw [if_pos hk2, List.append_nil]; exact O4.out
              clear hk2
              go_wp2_with fail
              go_meet
              exact ⟨HF.out, HB4.out⟩
          · have q2 : (k != 2) = true := by simpa using hk2
            have HK2 := hid hk2
            clear hk2
            go_wp2_with (at_builtin; refine wpApG w4 rfl (.tmp 58) (.tmp 63) 30 51 Tryz.underlying30 _ 2 32 info_item rfl (by decide) (by decide) rfl w3.heap.size v4 _ _ rfl O4.out [.string key, .string nv] rfl (by intro u hu; simp at hu; rcases hu with rfl | rfl <;> rfl) rfl (by have := HNN.out; omega) hs4 ?_; intro v5 w5 o5 g5 k5)
            go_meet
            have hb5 := HB4.out.grown g5 hs4 (fun k hk => (World.ownsRow.lt O4.out k hk).1)
            refine ⟨?_, hb5⟩
            rw [if_neg HK2.out]
            unfold OwnsI
            rw [List.length_append, icells_snoc]
            exact o5
        case rest =>
          obtain ⟨ho5, hb5⟩ := hcut
          have O5 := hid ho5
          have HB5 := hid hb5
          have H5 := hid (H3.out.below hb5)
          have hs5 := hb5.size
          clear ho5 hb5 c0 c1 c2 t0 t1 H4 HB4 O4
          obtain ⟨t0, t1⟩ := H5.out.rt.cells
          have hw1 : IntKind.i64.wrap ((n : Int) + 1) = (n : Int) + 1 := IntWalk.i64_in _ ⟨by omega, by omega⟩
          go_upto_region 16 with fail
          have hm : n ≤ il.length := by omega
          have HREST := hid (H5.out.row.rest (n) hm)
          have HRL : Hid ((icells (il.drop (n))).length = (il.length - (n)) * 2) := by show _ = _; rw [icells_len2, List.length_drop]
          have HFL : Hid (plain ((cutA il key ++ if k = 2 then [] else [(key, nv)]) ++ il.drop (n)) = Tr.leaf1 (plain il) (chP k key x)) := by
            show _ = _
            rw [make_list hr k key x hx16 hk, HAT.out]
            have e : il.drop (n) = cutC il key := by
              have e1 : il.drop n = cutC il key := by
                have e0 := congrArg (List.drop (cutA il key).length) HC3.out.1
                rw [List.drop_left, HNN.out] at e0
                exact e0
              exact e1
            rw [e, ← HVV.out]
            unfold plain
            rw [List.map_append, List.map_append, List.append_assoc]
            by_cases q : k = 2
            · rw [if_pos q, if_pos q]; rfl
            · rw [if_neg q, if_neg q]; rfl
          have HLN : Hid ((cutA il key ++ if k = 2 then [] else [(key, nv)]).length ≤ il.length + 1) := by
            show _ ≤ _
            rw [List.length_append, HNN.out]
            split <;> simp <;> omega
          by_cases hcm : c = n
          case' pos =>
            have HE : Hid (icells (il.drop (n)) = []) := by
              show _ = _
              rw [List.drop_of_length_le (by omega)]; rfl
          all_goals
            have hln : (cutA il key ++ if k = 2 then [] else [(key, nv)]).length + (il.length - (n)) ≤ 1000000000 := by have := HLN.out; omega
            go_wp2_with (at_builtin; first
              | (refine wpApAt wc rfl (.tmp 69) (.tmp 75) 30 51 Tryz.underlying30 _ 2 32 info_item rfl (by decide) (by decide) rfl w3.heap.size u9 _ _ rfl O5.out ⟨g, (n) * 2, none⟩ (il.length - (n)) (c - (n)) (icells (il.drop (n))) rfl HRL.out HREST.out (one_icells _) hln hs5 ?_; intro v6 w6 o6 g6 k6; have O6 := hid o6; have HB6 := hid (HB5.out.grown g6 hs5 (fun k hk => (World.ownsRow.lt O5.out k hk).1)); clear o6 g6 k6; obtain ⟨a6, m6, p6, rfl⟩ := shape3 O6.out; obtain ⟨y0, y1⟩ := (H3.out.below HB6.out).rt.cells)
              | (refine wpApAt wc rfl (.tmp 69) (.tmp 75) 30 51 Tryz.underlying30 _ 2 32 info_item rfl (by decide) (by decide) rfl w3.heap.size u9 _ _ rfl O5.out ⟨g, 0, none⟩ (il.length - (n)) 0 (icells (il.drop (n))) rfl HRL.out (fun j u hj => by rw [HE.out] at hj; simp at hj) (one_icells _) hln hs5 ?_; intro v6 w6 o6 g6 k6; have O6 := hid o6; have HB6 := hid (HB5.out.grown g6 hs5 (fun k hk => (World.ownsRow.lt O5.out k hk).1)); clear o6 g6 k6; obtain ⟨a6, m6, p6, rfl⟩ := shape3 O6.out; obtain ⟨y0, y1⟩ := (H3.out.below HB6.out).rt.cells))
            go_ret
            exact rm_end HCH.out H3.out HB6.out HBL.out (List.length_drop ..).symm O6.out HFL.out
      all_goals
        generalize hnn : (cutA il key).length = n at *
        have HNN := hid hnn
        clear hnn
        go_upto_region 11 with fail
        try clear d0 d1
        try clear q3
        try clear hlong hyx hdat hv
        try rw [← hnv]
        try clear hnv
        go_upto_if 57 with (at_builtin; refine wpApAt w3 rfl (.tmp 47) (.tmp 53) 30 51 Tryz.underlying30 _ 2 32 info_item rfl (by decide) (by decide) rfl w3.heap.size (.slice none 0 0) 0 [] rfl (World.ownsRow_nil _ _ _ _) ⟨g, 0, none⟩ n c (icells (cutA il key)) rfl HLEN.out HPRE.out (one_icells _) (by omega) HLE.out ?_; intro v4 w4 o4 g4 k4; have c0' := ((H3.out.below ((Below.refl _ w3).grown g4 (Nat.le_refl _) (fun k hk => by simp [Value.ownBlock] at hk))).ch.cells).1)
        clear c0'
        have HB4 : Hid (Below w3.heap.size w3 w4) := (Below.refl _ w3).grown g4 (Nat.le_refl _) (fun k hk => by simp [Value.ownBlock] at hk)
        have H4 := hid (H3.out.below HB4.out)
        clear c0 c1 c2 t0 t1
        obtain ⟨c0, c1, c2⟩ := H4.out.ch.cells
        obtain ⟨t0, t1⟩ := H4.out.rt.cells
        have O4 : Hid (OwnsI w3.heap.size w4 v4 (cutA il key)) := by
          show OwnsI _ _ _ _
          unfold OwnsI
          rw [Nat.zero_add, List.nil_append] at o4
          rw [HNN.out]
          exact o4
        have hs4 := HB4.out.size
        clear o4 g4 k4
        go_cut [9] (fun v9 wx => OwnsI w3.heap.size wx v9 (cutA il key ++ if k = 2 then [] else [(key, nv)]) ∧ Below w3.heap.size w3 wx)
        case first =>
          by_cases hk2 : k = 2
          · try (exfalso; omega)
            all_goals
              have q2 : (k != 2) = false := by simpa using hk2
              have HF : Hid (OwnsI w3.heap.size w4 v4 (cutA il key ++ if k = 2 then [] else [(key, nv)])) := by
                show OwnsI _ _ _ _
                rw [if_pos hk2, List.append_nil]; exact O4.out
              clear hk2
              go_wp2_with fail
              go_meet
              exact ⟨HF.out, HB4.out⟩
          · have q2 : (k != 2) = true := by simpa using hk2
            have HK2 := hid hk2
            clear hk2
            go_wp2_with (at_builtin; refine wpApG w4 rfl (.tmp 58) (.tmp 63) 30 51 Tryz.underlying30 _ 2 32 info_item rfl (by decide) (by decide) rfl w3.heap.size v4 _ _ rfl O4.out [.string key, .string nv] rfl (by intro u hu; simp at hu; rcases hu with rfl | rfl <;> rfl) rfl (by have := HNN.out; omega) hs4 ?_; intro v5 w5 o5 g5 k5)
            go_meet
            have hb5 := HB4.out.grown g5 hs4 (fun k hk => (World.ownsRow.lt O4.out k hk).1)
            refine ⟨?_, hb5⟩
            rw [if_neg HK2.out]
            unfold OwnsI
            rw [List.length_append, icells_snoc]
            exact o5
        case rest =>
          obtain ⟨ho5, hb5⟩ := hcut
          have O5 := hid ho5
          have HB5 := hid hb5
          have H5 := hid (H3.out.below hb5)
          have hs5 := hb5.size
          clear ho5 hb5 c0 c1 c2 t0 t1 H4 HB4 O4
          obtain ⟨t0, t1⟩ := H5.out.rt.cells
          have hw1 : IntKind.i64.wrap ((n : Int) + 1) = (n : Int) + 1 := IntWalk.i64_in _ ⟨by omega, by omega⟩
          go_upto_region 16 with fail
          try rw [show ((n : Int) + 1) = ((n + 1 : Nat) : Int) by omega]
          have hm : n + 1 ≤ il.length := by omega
          have HREST := hid (H5.out.row.rest (n + 1) hm)
          have HRL : Hid ((icells (il.drop (n + 1))).length = (il.length - (n + 1)) * 2) := by show _ = _; rw [icells_len2, List.length_drop]
          have HFL : Hid (plain ((cutA il key ++ if k = 2 then [] else [(key, nv)]) ++ il.drop (n + 1)) = Tr.leaf1 (plain il) (chP k key x)) := by
            show _ = _
            rw [make_list hr k key x hx16 hk, HAT.out]
            have e : il.drop (n + 1) = (cutC il key).drop 1 := by
              have e1 : il.drop n = cutC il key := by
                have e0 := congrArg (List.drop (cutA il key).length) HC3.out.1
                rw [List.drop_left, HNN.out] at e0
                exact e0
              rw [← e1, List.drop_drop]
            rw [e, ← HVV.out]
            unfold plain
            rw [List.map_append, List.map_append, List.append_assoc]
            by_cases q : k = 2
            · rw [if_pos q, if_pos q]; rfl
            · rw [if_neg q, if_neg q]; rfl
          have HLN : Hid ((cutA il key ++ if k = 2 then [] else [(key, nv)]).length ≤ il.length + 1) := by
            show _ ≤ _
            rw [List.length_append, HNN.out]
            split <;> simp <;> omega
          by_cases hcm : c = n + 1
          case' pos =>
            have HE : Hid (icells (il.drop (n + 1)) = []) := by
              show _ = _
              rw [List.drop_of_length_le (by omega)]; rfl
          all_goals
            have hln : (cutA il key ++ if k = 2 then [] else [(key, nv)]).length + (il.length - (n + 1)) ≤ 1000000000 := by have := HLN.out; omega
            go_wp2_with (at_builtin; first
              | (refine wpApAt wc rfl (.tmp 69) (.tmp 75) 30 51 Tryz.underlying30 _ 2 32 info_item rfl (by decide) (by decide) rfl w3.heap.size u9 _ _ rfl O5.out ⟨g, (n + 1) * 2, none⟩ (il.length - (n + 1)) (c - (n + 1)) (icells (il.drop (n + 1))) rfl HRL.out HREST.out (one_icells _) hln hs5 ?_; intro v6 w6 o6 g6 k6; have O6 := hid o6; have HB6 := hid (HB5.out.grown g6 hs5 (fun k hk => (World.ownsRow.lt O5.out k hk).1)); clear o6 g6 k6; obtain ⟨a6, m6, p6, rfl⟩ := shape3 O6.out; obtain ⟨y0, y1⟩ := (H3.out.below HB6.out).rt.cells)
              | (refine wpApAt wc rfl (.tmp 69) (.tmp 75) 30 51 Tryz.underlying30 _ 2 32 info_item rfl (by decide) (by decide) rfl w3.heap.size u9 _ _ rfl O5.out ⟨g, 0, none⟩ (il.length - (n + 1)) 0 (icells (il.drop (n + 1))) rfl HRL.out (fun j u hj => by rw [HE.out] at hj; simp at hj) (one_icells _) hln hs5 ?_; intro v6 w6 o6 g6 k6; have O6 := hid o6; have HB6 := hid (HB5.out.grown g6 hs5 (fun k hk => (World.ownsRow.lt O5.out k hk).1)); clear o6 g6 k6; obtain ⟨a6, m6, p6, rfl⟩ := shape3 O6.out; obtain ⟨y0, y1⟩ := (H3.out.below HB6.out).rt.cells))
            go_ret
            exact rm_end HCH.out H3.out HB6.out HBL.out (List.length_drop ..).symm O6.out HFL.out
end Go.Proofs.YtolgpnaoaodepaaGreat
/- A pair behind a change. -/
namespace Go.Proofs.YtolgpnaoaodepaaGreat
open Go.RowKit

theorem nd_turn {q x y b : Nat} {F F' L L' : List Nat} {S S' : Nat} (h : (q :: x :: y :: b :: (F ++ L)).Nodup) (hl : ∀ g ∈ q :: x :: y :: b :: (F ++ L), g < S) (hF : F'.Nodup) (hb : b ∉ F') (hs : ∀ g ∈ F', g ∈ b :: F ∨ S ≤ g) (hl' : ∀ g ∈ F', g < S') (hSS : S ≤ S') (hL : L'.Nodup) (hL' : ∀ g ∈ L', g ∈ L ∨ S' ≤ g) : (q :: x :: y :: b :: (F' ++ L')).Nodup := by
  have lq := hl q (by simp)
  have lx := hl x (by simp)
  have ly := hl y (by simp)
  have lb := hl b (by simp)
  have lL : ∀ g ∈ L, g < S := fun g hg => hl g (by simp [hg])
  simp only [List.nodup_cons, List.mem_cons, List.mem_append, not_or] at h
  obtain ⟨⟨q1, q2, q3, q4, q5⟩, ⟨x1, x2, x3, x4⟩, ⟨y1, y2, y3⟩, ⟨b1, b2⟩, hFL⟩ := h
  have hFL := (List.nodup_append.1 hFL).2.2
  have hin : ∀ g, g < S → g ≠ b → g ∉ F → g ∉ L → g ∉ F' ++ L' := fun g g1 g2 g3 g4 hg => by
    rcases List.mem_append.1 hg with z | z
    · rcases hs g z with z | z
      · rcases List.mem_cons.1 z with e | z
        · exact g2 e
        · exact g3 z
      · omega
    · rcases hL' g z with z | z
      · exact g4 z
      · omega
  refine List.nodup_cons.2 ⟨fun z => ?_, List.nodup_cons.2 ⟨fun z => ?_, List.nodup_cons.2 ⟨fun z => ?_, List.nodup_cons.2 ⟨fun z => ?_, List.nodup_append.2 ⟨hF, hL, fun a ha c hc e => ?_⟩⟩⟩⟩⟩
  · rcases List.mem_cons.1 z with e | z
    · exact q1 e
    · rcases List.mem_cons.1 z with e | z
      · exact q2 e
      · rcases List.mem_cons.1 z with e | z
        · exact q3 e
        · exact hin q lq q3 q4 q5 z
  · rcases List.mem_cons.1 z with e | z
    · exact x1 e
    · rcases List.mem_cons.1 z with e | z
      · exact x2 e
      · exact hin x lx x2 x3 x4 z
  · rcases List.mem_cons.1 z with e | z
    · exact y1 e
    · exact hin y ly y1 y2 y3 z
  · rcases List.mem_append.1 z with z | z
    · exact hb z
    · rcases hL' b z with z | z
      · exact b2 z
      · omega
  · subst e
    rcases hL' a hc with z | z
    · rcases hs a ha with y | y
      · rcases List.mem_cons.1 y with e | y
        · exact b2 (by rw [← e]; exact z)
        · exact hFL a y a z rfl
      · have := lL a z; omega
    · have := hl' a ha; omega
theorem TreM.nds {V : Tr.Key → Option Tr.Key} {N b : Nat} {F : List Nat} {w : World} (h : TreM V N b F w) : F.Nodup ∧ b ∉ F := by
  obtain ⟨h, p, t, hh, hq⟩ := h
  exact ⟨hq.nd, hq.nb⟩
/-- A pair, behind a change of the tree (to w1) and of the reference's (to w2). -/
theorem PrQ.made {N q x y b : Nat} {F : List Nat} {v : Value} {il : List (ByteArray × ByteArray)} {V : Tr.Key → Option Tr.Key} {w w1 w2 : World} {k : Int} {key x' : ByteArray} (h : PrQ N q x y b F v il V w) {r1 r2 : Ending} (h1 : SmQ V N x b F k key x' w r1 w1) (h2 : RmQ w1 y v il k key x' r2 w2) : ∃ G', PrM (N + 1) q G' w2 ∧ Mod (fun g => g ∈ q :: x :: y :: b :: (F ++ blk v)) w w2 ∧ ∀ g ∈ G', g ∈ q :: x :: y :: b :: (F ++ blk v) ∨ w.heap.size ≤ g := by
  obtain ⟨-, hst, F', htr, hg⟩ := h1
  obtain ⟨-, hm2, hno, hyes⟩ := h2
  have hlt := h.lt
  have hnd := h.nd
  have hz1 := hg.1.size
  have hz2 := hm2.size
  have hnd0 := hnd
  simp only [List.nodup_cons, List.mem_cons, List.mem_append, not_or] at hnd0
  obtain ⟨⟨q1, q2, q3, q4, q5⟩, ⟨x1, x2, x3, x4⟩, ⟨y1, y2, y3⟩, ⟨b1, b2⟩, hFL⟩ := hnd0
  have hFL := (List.nodup_append.1 hFL).2.2
  -- what is not the tree's stays at the first step
  have k1 : ∀ g, g < w.heap.size → g ≠ b → g ∉ F → w1.heap[g]? = w.heap[g]? := fun g g1 g2 g3 => hg.1.block g g1 fun z => (List.mem_cons.1 z).elim g2 g3
  have hq1 : PB w1 q x y := (k1 q (hlt q (by simp)) q3 q4).trans h.pb
  have hv1 : OwnsI 0 w1 v il := row_same h.row fun g hg' _ => k1 g (hlt g (by simp [mem_blk.2 hg'])) (fun e => b2 (by rw [← e]; exact mem_blk.2 hg')) (fun z => hFL g z g (mem_blk.2 hg') rfl)
  have hyF : y ∉ b :: F' := fun z => by
    rcases List.mem_cons.1 z with e | z
    · exact y1 e
    · rcases hg.2 y (List.mem_cons_of_mem _ z) with z | z
      · rcases List.mem_cons.1 z with e | z
        · exact y1 e
        · exact y2 z
      · have := hlt y (by simp); omega
  have k2 : ∀ g, g < w1.heap.size → g ≠ y → w2.heap[g]? = w1.heap[g]? := fun g g1 g2 => hm2.block g g1 g2
  have hq2 : PB w2 q x y := (k2 q hq1.lt q2).trans hq1
  have hs2 : ST w2 x b := (k2 x hst.lt x1).trans hst
  have ht2 : ∀ {V'}, TreM V' (N + 1) b F' w1 → TreM V' (N + 1) b F' w2 := fun ht => ht.keep fun g hg' => k2 g (ht.lt g hg') (fun e => hyF (by rw [← e]; exact hg'))
  have hF'lt : ∀ g ∈ F', g < w1.heap.size := fun g hg' => htr.lt g (List.mem_cons_of_mem _ hg')
  have hmod : Mod (fun g => g ∈ q :: x :: y :: b :: (F ++ blk v)) w w2 := hg.1.trans hm2 (fun g _ z => by rcases List.mem_cons.1 z with e | z <;> simp [*]) (fun g _ z => by simp [z])
  have hin : ∀ {L' : List Nat}, (∀ g ∈ L', g ∈ blk v ∨ w1.heap.size ≤ g) → ∀ g ∈ x :: y :: b :: (F' ++ L'), g ∈ q :: x :: y :: b :: (F ++ blk v) ∨ w.heap.size ≤ g := fun hL' g hg' => by
    rcases List.mem_cons.1 hg' with e | hg'
    · exact .inl (by simp [e])
    · rcases List.mem_cons.1 hg' with e | hg'
      · exact .inl (by simp [e])
      · rcases List.mem_cons.1 hg' with e | hg'
        · exact .inl (by simp [e])
        · rcases List.mem_append.1 hg' with z | z
          · rcases hg.2 g (List.mem_cons_of_mem _ z) with z | z
            · rcases List.mem_cons.1 z with e | z
              · exact .inl (by simp [e])
              · exact .inl (by simp [z])
            · exact .inr z
          · rcases hL' g z with z | z
            · exact .inl (by simp [z])
            · exact .inr (by omega)
  obtain ⟨hFn, hbn⟩ := htr.nds
  cases hc : Pg.isChange k key.size x'.size with
  | false =>
    rw [hc] at htr
    have hrow2 : OwnsI 0 w2 v il := row_same hv1 fun g hg' hl => k2 g hl (fun e => y3 (by rw [← e]; exact mem_blk.2 hg'))
    refine ⟨x :: y :: b :: (F' ++ blk v), ⟨x, y, b, F', v, il, V, ⟨hq2, hs2, ht2 htr, hno hc, hrow2, h.ris, h.val, Nat.le_succ_of_le h.len, h.v16, ?_⟩, rfl⟩, hmod, hin fun g hg' => .inl hg'⟩
    exact nd_turn (S := w.heap.size) (S' := w1.heap.size) hnd hlt hFn hbn (fun g z => hg.2 g (List.mem_cons_of_mem _ z)) hF'lt hz1 (blk_nodup _) fun g z => .inl z
  | true =>
    rw [hc] at htr
    obtain ⟨v', il', hrt', hrow', hpl, hnew⟩ := hyes hc
    have hx16 : x'.size ≤ 16 := by
      unfold Pg.isChange at hc
      simp only [Bool.and_eq_true, Bool.or_eq_true, decide_eq_true_eq] at hc
      exact hc.1.2
    have hL' : ∀ g ∈ blk v', g ∈ blk v ∨ w1.heap.size ≤ g := fun g z => .inr (hnew g (mem_blk.1 z))
    refine ⟨x :: y :: b :: (F' ++ blk v'), ⟨x, y, b, F', v', il', _, ⟨hq2, hs2, ht2 htr, hrt', hrow', by rw [hpl]; exact Tr.putK_rising h.ris _ _, fun k' => ?_, ?_, fun z hz => ?_, ?_⟩, rfl⟩, hmod, hin hL'⟩
    · rw [hpl, Tr.leaf1_look h.ris, h.val]; rfl
    · have e1 : il'.length = (plain il').length := by simp [plain]
      have e2 : il.length = (plain il).length := by simp [plain]
      have e3 := h.len
      have : (Tr.leaf1 (plain il) (chP k key x')).length ≤ (plain il).length + 1 := Tr.putK_len _ _ _
      rw [e1, hpl]; omega
    · have hz' : (z.1.data.toList, z.2.data.toList) ∈ plain il' := List.mem_map.2 ⟨z, hz, rfl⟩
      rw [hpl] at hz'
      rcases Tr.putK_mem hz' with w' | ⟨u, e, e'⟩
      · obtain ⟨z0, hz0, e0⟩ := List.mem_map.1 w'
        have := h.v16 z0 hz0
        have e1 := congrArg Prod.snd e0
        simp only at e1
        rw [← len_size, ← e1, len_size]; exact this
      · have h1 := Tr.after_some (c := chP k key x') (by show x'.data.toList.length ≤ 16; rw [len_size]; exact hx16) e
        have e1 := congrArg Prod.snd e'
        simp only at e1
        rw [← len_size, e1]; exact h1
    · exact nd_turn (S := w.heap.size) (S' := w1.heap.size) hnd hlt hFn hbn (fun g z => hg.2 g (List.mem_cons_of_mem _ z)) hF'lt hz1 (blk_nodup _) hL'
end Go.Proofs.YtolgpnaoaodepaaGreat
