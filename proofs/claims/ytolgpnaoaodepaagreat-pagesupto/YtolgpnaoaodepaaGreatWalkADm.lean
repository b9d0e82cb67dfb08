/- The walk of pages' Fetch. -/
import Derived.Test.YtolgpnaoaodepaaGreatWalkABm
namespace Go.Proofs.YtolgpnaoaodepaaGreat
open Go.RowKit

def fetchEnd (o : Option (Option (List UInt8))) : Ending := match o with
  | none => gaveUp
  | some none => .returned (.tuple #[.string ⟨#[]⟩, .bool false])
  | some (some v) => .returned (.tuple #[.string ⟨v.toArray⟩, .bool true])
theorem itemsQ_no {w : World} {o : Option (List (List UInt8 × List UInt8))} {r : Ending} {w' : World} (h : ItemsQ w o r w') (ho : o = none) : r = gaveUp ∧ Below w.heap.size w w' := by
  obtain ⟨h1, ⟨_, h2⟩ | ⟨l, v, h2, _⟩⟩ := h
  · exact ⟨h2, h1⟩
  · rw [ho] at h2; simp at h2
def ItemsY (w : World) (p : List (List UInt8 × List UInt8)) (r : Ending) (w' : World) : Prop := ∃ l v, p = plain l ∧ r = .returned v ∧ OwnsI w.heap.size w' v l ∧ l.length ≤ 255 ∧ (∀ x ∈ l, x.1.size ≤ 10000000 ∧ x.2.size ≤ 10000000) ∧ Below w.heap.size w w'
theorem itemsQ_yes {w : World} {o : Option (List (List UInt8 × List UInt8))} {r : Ending} {w' : World} {p : List (List UInt8 × List UInt8)} (h : ItemsQ w o r w') (ho : o = some p) : ItemsY w p r w' := by
  obtain ⟨h1, ⟨h2, _⟩ | ⟨l, v, h2, h3, h4, h5, h6⟩⟩ := h
  · rw [ho] at h2; simp at h2
  · rw [ho] at h2; simp only [Option.some.injEq] at h2
    exact ⟨l, v, h2, h3, h4, h5, h6, h1⟩
theorem IsLH.below {w w' : World} {v : Value} {ss : List Nat} {fs : List ByteArray} (h : IsLH w v ss fs) (hb : Below w.heap.size w w') : IsLH w' v ss fs := by
  obtain ⟨vs, vf, e, h1, h2⟩ := h
  exact ⟨vs, vf, e, h1.below hb, h2.below hb⟩

theorem mk_data (s : ByteArray) : (⟨s.data.toList.toArray⟩ : ByteArray) = s := bytes_ext (by simp)
theorem bas_no (v : Value) (ss : List Nat) (fs : List ByteArray) (i : Nat) (s : ByteArray) (w : World) (hv : IsLH w v ss fs) (h4 : fs.length ≤ 1000) (hi : i < fs.length) (h : Pr.basementR (lists fs) i s.data.toList = none) :
    Calls Tryz.prog 217 #[v, .int .i64 i, .string s] w fun r w' => r = gaveUp ∧ Below w.heap.size w w' := by
  have := basement_read v ss fs i s.data.toList w hv h4 hi
  rw [mk_data] at this
  exact this.mono fun _ _ q => itemsQ_no q h
theorem bas_yes (v : Value) (ss : List Nat) (fs : List ByteArray) (i : Nat) (s : ByteArray) (w : World) (hv : IsLH w v ss fs) (h4 : fs.length ≤ 1000) (hi : i < fs.length) {p : List (List UInt8 × List UInt8)} (h : Pr.basementR (lists fs) i s.data.toList = some p) :
    Calls Tryz.prog 217 #[v, .int .i64 i, .string s] w fun r w' => ItemsY w p r w' := by
  have := basement_read v ss fs i s.data.toList w hv h4 hi
  rw [mk_data] at this
  exact this.mono fun _ _ q => itemsQ_yes q h
theorem below_drew {B : Nat} {w w' : World} (h : Below B w.drew w') : Below B w w' := ⟨h.os, h.tape, h.output, h.size, h.block⟩

set_option maxHeartbeats 4000000 in
set_option maxRecDepth 20000 in
theorem pagesFetch_any (t : List UInt8) (key : ByteArray) (w : World) :
    Calls Tryz.prog 156 #[.string ⟨t.toArray⟩, .string key] w fun r w' => r = fetchEnd (Pr.fetchR t key.data.toList) ∧ Below w.heap.size w w' := by
  generalize hE : fetchEnd (Pr.fetchR t key.data.toList) = E
  have HE := hid hE
  clear hE
  go_enter Tryz.func156, Tryz.ntmps156
  go_wp2_with fail
  refine (leafHead_any t _).mono ?_
  rintro r w1 ⟨hb1, ⟨hn, rfl⟩ | ⟨ss, fs, v1, hh, rfl, hlh, hsf, hf4, hf12⟩⟩
  · have HT : Hid (gaveUp = E) := by show _ = _; rw [← HE.out]; unfold Pr.fetchR; rw [hn]; rfl
    have HB1 := hid hb1
    clear hb1 hn
    unfold gaveUp
    go_wp2_with fail
    exact ⟨rfl, HT.out, HB1.out⟩
  have HT1 : Hid (Pr.fetchR t key.data.toList = (Pr.cutR t ss).bind fun cs => if Pr.findN (lists fs) key.data.toList fs.length < 0 then some none else (Pr.basementR (lists fs) (Pr.findN (lists fs) key.data.toList fs.length).toNat (cs.getD (Pr.findN (lists fs) key.data.toList fs.length).toNat [])).map fun l => Pr.valueOf key.data.toList l) := by
    show _ = _; unfold Pr.fetchR; rw [hh]; simp only [Option.bind_some, lists_len]
  obtain ⟨vs, vf, rfl, h1, h2⟩ := id hlh
  obtain ⟨sa, ca, rfl, -, -⟩ := id h1
  obtain ⟨fa, cf, rfl, -, -⟩ := id h2
  have BA := (Below.refl w1.heap.size w1).alloc (Nat.le_refl _) (.cells #[.slice sa ss.length ca, .slice fa fs.length cf] 233)
  have HLH := hid (hlh.below BA)
  have HIS := hid (h1.below BA)
  have HB1 := hid (hb1.trans (BA.mono hb1.size))
  have HVAR : Hid ((w1.alloc (.cells #[.slice sa ss.length ca, .slice fa fs.length cf] 233)).heap[w1.heap.size]? = some (.cells #[.slice sa ss.length ca, .slice fa fs.length cf] 233 (0, 0))) := heap_alloc_new _ _
  have hs1 : w1.heap.size < (w1.alloc (.cells #[.slice sa ss.length ca, .slice fa fs.length cf] 233)).heap.size := by simp
  have hw1 := hb1.size
  have hssl : ss.length ≤ 4 := by omega
  have HSF := hid hsf
  clear hb1 hh hlh BA hsf hf12 h1 h2
  go_wp2_with fail
  generalize w1.alloc (.cells #[.slice sa ss.length ca, .slice fa fs.length cf] 233) = w2 at *
  generalize w1.heap.size = hb at *
  refine (cutBody_any t _ ss _ HIS.out (by omega)).mono ?_
  rintro r w3 ⟨hb3, ⟨hn, rfl⟩ | ⟨cl, v3, hc3, rfl, ho3⟩⟩
  · have HT : Hid (gaveUp = E) := by show _ = _; rw [← HE.out, HT1.out, hn]; rfl
    have HB3 := hid (HB1.out.trans (hb3.mono (by omega)))
    clear hb3 hn
    unfold gaveUp
    go_wp2_with fail
    exact ⟨rfl, HT.out, HB3.out⟩
  have HT3 : Hid (Pr.fetchR t key.data.toList = if Pr.findN (lists fs) key.data.toList fs.length < 0 then some none else (Pr.basementR (lists fs) (Pr.findN (lists fs) key.data.toList fs.length).toNat ((lists cl).getD (Pr.findN (lists fs) key.data.toList fs.length).toNat [])).map fun l => Pr.valueOf key.data.toList l) := by
    show _ = _; rw [HT1.out, hc3]; rfl
  have hcl : cl.length = ss.length := by have := (Pr.cutR_is hc3).2.2; rw [← this]; simp [lists]
  have HCL := hid hcl
  have HB3 := hid (HB1.out.trans (hb3.mono (by omega)))
  have HLH3 := hid (HLH.out.below hb3)
  have HV3 := hid ((hb3.block hb (by omega)).trans HVAR.out)
  have HO3 := hid ho3
  have hs3 := hb3.size
  obtain ⟨xa, xc, rfl⟩ := ho3.shape
  have m0 : w3.cell? ⟨hb, 0, none⟩ = some (.slice sa ss.length ca) := by unfold World.cell?; rw [HV3.out]; rfl
  have m1 : w3.cell? ⟨hb, 1, none⟩ = some (.slice fa fs.length cf) := by unfold World.cell?; rw [HV3.out]; rfl
  clear hb3 hc3 ho3 HLH HIS HVAR HT1 hcl
  go_wp2_with fail
  refine (find_any _ ss fs key _ HLH3.out (by omega)).mono ?_
  rintro r w4 ⟨rfl, hb4⟩
  have HB4 := hid (HB3.out.trans (hb4.mono (by omega)))
  have HLH4 := hid (HLH3.out.below hb4)
  have HV4 := hid ((hb4.block hb (by omega)).trans HV3.out)
  have HO4 : Hid (OwnsS w2.heap.size w4 (.slice xa cl.length xc) cl) := HO3.out.below hb4 (Nat.le_refl _)
  have hs4 := hb4.size
  have hfl := Pr.findN_lt (lists fs) key.data.toList fs.length
  clear hb4 HLH3 HV3 HO3 m0 m1
  have m0 : w4.cell? ⟨hb, 0, none⟩ = some (.slice sa ss.length ca) := by unfold World.cell?; rw [HV4.out]; rfl
  have m1 : w4.cell? ⟨hb, 1, none⟩ = some (.slice fa fs.length cf) := by unfold World.cell?; rw [HV4.out]; rfl
  generalize Pr.findN (lists fs) key.data.toList fs.length = fi at *
  by_cases hneg : fi < 0
  · have HT : Hid (.returned (.tuple #[.string ⟨#[]⟩, .bool false]) = E) := by show _ = _; rw [← HE.out, HT3.out, if_pos hneg]; rfl
    go_wp2_with fail
    go_ret2
    exact ⟨HT.out, HB4.out⟩
  rw [if_neg hneg] at HT3
  obtain ⟨j, rfl⟩ : ∃ j : Nat, fi = (j : Int) := ⟨fi.toNat, by omega⟩
  have hjf : j < fs.length := by omega
  simp only [Int.toNat_natCast] at HT3
  have hjc : j < cl.length := by rw [HCL.out, HSF.out]; exact hjf
  obtain ⟨g, cap, hge, hg1, hg2, hg3⟩ := HO4.out.shape_pos (by omega)
  injection hge with e1 e2 e3
  subst e1 e3
  have c0 := HO4.out.cellAt j (cl[j]'hjc) (List.getElem?_eq_getElem hjc)
  rw [lists_getD cl j hjc] at HT3
  generalize cl[j]'hjc = sx at *
  have hi1 : (0 : Int) ≤ (j : Int) := by omega
  have hi2 : (j : Int) < (cl.length : Int) := by omega
  have HLD : Hid (IsLH w4.drew (.agg #[.slice sa ss.length ca, .slice fa fs.length cf]) ss fs) := HLH4.out
  cases hbr : Pr.basementR (lists fs) j sx.data.toList with
  | none =>
    have HT : Hid (gaveUp = E) := by show _ = _; rw [← HE.out, HT3.out, hbr]; rfl
    have HC := hid (bas_no _ ss fs j sx w4.drew HLD.out (by omega) hjf hbr)
    clear hbr
    go_wp2_with fail
    go_region_dies
    all_goals
      refine HC.out.mono ?_
      rintro r w5 ⟨rfl, hb5⟩
      have HB5 := hid (HB4.out.trans ((below_drew hb5).mono (by show w.heap.size ≤ w4.heap.size; omega)))
      clear hb5
      unfold gaveUp
      go_wp2_with fail
      exact ⟨rfl, HT.out, HB5.out⟩
  | some p =>
    have HT4 : Hid (Pr.fetchR t key.data.toList = some (Pr.valueOf key.data.toList p)) := by show _ = _; rw [HT3.out, hbr]; rfl
    have HC := hid (bas_yes _ ss fs j sx w4.drew HLD.out (by omega) hjf hbr)
    clear hbr HT3
    go_wp2_with fail
    go_region_law (first
      | (go_simp
         refine HC.out.mono ?_
         rintro r w5 ⟨l, v5, rfl, rfl, ho5, hl255, hls, hb5⟩
         have HB5 := hid (HB4.out.trans ((below_drew hb5).mono (by show w.heap.size ≤ w4.heap.size; omega)))
         have HO5 := hid ho5
         have hs5 : w4.heap.size ≤ w5.heap.size := (below_drew hb5).size
         obtain ⟨ya, yc, rfl⟩ := rowShape ho5
         clear ho5 hls hb5))
    all_goals
      go_wp2_with fail
      go_simp
      go_loopw [30] (fun i wr => ∃ k : Nat, k ≤ l.length ∧ i = .int .i64 k ∧ Below w5.heap.size w5 wr ∧ Pr.valueOf key.data.toList (plain (l.drop k)) = Pr.valueOf key.data.toList (plain l)) (fun i _ => l.length - (intOf i).toNat)
      case atStart => exact ⟨0, Nat.zero_le _, rfl, Below.refl _ _, rfl⟩
      case round =>
        obtain ⟨k, hk, rfl, hbr, heq⟩ := hrel
        have HBR := hid hbr
        have HEQ := hid heq
        have hsr := hbr.size
        clear hbr heq
        by_cases hkl : k < l.length
        · obtain ⟨g5, cap5, hge5, -, -, hgw5, hia⟩ := HO5.out.isItems.resolve_left (by rintro ⟨_, _, _, rfl⟩; simp at hkl)
          injection hge5 with e1 e2 e3
          subst e1 e3
          obtain ⟨k0, k1⟩ := hia.below HBR.out hgw5 k hkl
          clear hia
          have HNX : Hid (plain (l.drop k) = ((l[k]'hkl).1.data.toList, (l[k]'hkl).2.data.toList) :: plain (l.drop (k + 1))) := by
            show _ = _; rw [List.drop_eq_getElem_cons hkl]; rfl
          generalize l[k]'hkl = x at *
          obtain ⟨kb, vb⟩ := x
          simp only [Nat.zero_add] at k0 k1
          rw [HNX.out, Pr.valueOf] at HEQ
          have HB6 := hid (HBR.out.alloc hsr (.cells #[.string kb, .string vb] 51))
          have HBW := hid (HB5.out.trans (HB6.out.mono (by omega)))
          by_cases hke : kb.data.toList = key.data.toList
          · have hkk : kb = key := bytes_ext hke
            have HT : Hid (.returned (.tuple #[.string vb, .bool true]) = E) := by
              show _ = _; rw [← HE.out, HT4.out, ← HEQ.out, if_pos hke]; unfold fetchEnd; simp only [mk_data]
            subst hkk
            clear hke
            go_wp2_with fail
            go_ret2
            exact ⟨HT.out, HBW.out⟩
          · simp only [if_neg hke] at HEQ
            have hne : (kb.toList == key.toList) = false := by rw [toList_is, toList_is]; simpa using hke
            have hne2 : ¬ kb = key := fun e => hke (by rw [e])
            clear hke
            go_wp2_with fail
            go_roundw
            case rel => exact ⟨k + 1, by omega, by go_num, HB6.out, HEQ.out⟩
            case measure => simp [intOf]; omega
        · have HT : Hid (.returned (.tuple #[.string ⟨#[]⟩, .bool false]) = E) := by
            show _ = _; rw [← HE.out, HT4.out, ← HEQ.out, List.drop_eq_nil_of_le (by omega)]; rfl
          have HBW := hid (HB5.out.trans (HBR.out.mono (by omega)))
          go_wp2_with fail
          go_ret2
          exact ⟨HT.out, HBW.out⟩
end Go.Proofs.YtolgpnaoaodepaaGreat
/- The walks of silt's Fetch: its literal, Catch around it. -/
namespace Go.Proofs.YtolgpnaoaodepaaGreat
open Go.RowKit

def valS (x : Option (List UInt8)) : ByteArray := match x with
  | none => ⟨#[]⟩
  | some v => ⟨v.toArray⟩
def LitQ (b : Nat) (w : World) (o : Option (Option (List UInt8))) (r : Ending) (w' : World) : Prop := But b w w' ∧ ((o = none ∧ r = gaveUp) ∨ ∃ x, o = some x ∧ r = .returned (.string (valS x)) ∧ w'.cell? ⟨b, 0, none⟩ = some (.bool x.isSome))
theorem fetch_cases (o : Option (Option (List UInt8))) : (o = none ∧ fetchEnd o = gaveUp) ∨ ∃ x, o = some x ∧ fetchEnd o = .returned (.tuple #[.string (valS x), .bool x.isSome]) := by
  cases o with
  | none => exact .inl ⟨rfl, rfl⟩
  | some x =>
    cases x with
    | none => exact .inr ⟨none, rfl, rfl⟩
    | some v => exact .inr ⟨some v, rfl, rfl⟩

set_option maxHeartbeats 1000000 in
theorem fetchLit_any (b1 b2 b3 : Nat) (t : List UInt8) (key : ByteArray) (f : Bool) (w : World) (h1 : w.cell? ⟨b1, 0, none⟩ = some (.string ⟨t.toArray⟩)) (h2 : w.cell? ⟨b2, 0, none⟩ = some (.string key)) (h3 : w.cell? ⟨b3, 0, none⟩ = some (.bool f)) (hz : w.frozen? ⟨b3, 0, none⟩ = false) (hl : b3 < w.heap.size) :
    Calls Tryz.prog 155 #[.pointer (some ⟨b1, 0, none⟩), .pointer (some ⟨b2, 0, none⟩), .pointer (some ⟨b3, 0, none⟩)] w fun r w' => LitQ b3 w (Pr.fetchR t key.data.toList) r w' := by
  go_enter Tryz.func155, Tryz.ntmps155
  go_wp2_with fail
  refine (pagesFetch_any t key _).mono ?_
  rintro r w1 ⟨rfl, hb1⟩
  have HB := hid (but_below (b := b3) hb1)
  have c3 := (hb1.cell (p := ⟨b3, 0, none⟩) hl).trans h3
  have z3 := (hb1.frozen (p := ⟨b3, 0, none⟩) hl).trans hz
  clear hb1 h1 h2 h3 hz
  rcases fetch_cases (Pr.fetchR t key.data.toList) with ⟨hn, he⟩ | ⟨x, hx, he⟩
  · have HN := hid hn
    rw [he]
    clear he hn
    unfold gaveUp
    go_wp2_with fail
    exact ⟨rfl, HB.out, .inl ⟨HN.out, rfl⟩⟩
  · have HX := hid hx
    rw [he]
    clear he hx
    have HC := hid (World.cell?_setCell_same w1 ⟨b3, 0, none⟩ (.bool x.isSome) c3)
    generalize hv : valS x = vs at *
    generalize hf : x.isSome = xs at *
    have HV := hid hv
    have HF := hid hf
    clear hv hf
    go_wp2_with fail
    go_ret
    exact ⟨but_trans HB.out (but_set _ _ _ _), .inr ⟨x, HX.out, by rw [HV.out]; rfl, by rw [HF.out]; exact HC.out⟩⟩

def CatQ (b : Nat) (w : World) (o : Option (Option (List UInt8))) (r : Ending) (w' : World) : Prop := But b w w' ∧ ((o = none ∧ r = .returned (.tuple #[.string ⟨#[]⟩, .int .i64 2])) ∨ ∃ x, o = some x ∧ r = .returned (.tuple #[.string (valS x), .int .i64 0]) ∧ w'.cell? ⟨b, 0, none⟩ = some (.bool x.isSome))
set_option maxHeartbeats 1000000 in
theorem fetchCatch_any (b1 b2 b3 : Nat) (t : List UInt8) (key : ByteArray) (f : Bool) (w : World) (h1 : w.cell? ⟨b1, 0, none⟩ = some (.string ⟨t.toArray⟩)) (h2 : w.cell? ⟨b2, 0, none⟩ = some (.string key)) (h3 : w.cell? ⟨b3, 0, none⟩ = some (.bool f)) (hz : w.frozen? ⟨b3, 0, none⟩ = false) (hl1 : b1 < w.heap.size) (hl2 : b2 < w.heap.size) (hl3 : b3 < w.heap.size) :
    Calls Tryz.prog 148 #[.func (.func 155) #[] #[.pointer (some ⟨b1, 0, none⟩), .pointer (some ⟨b2, 0, none⟩), .pointer (some ⟨b3, 0, none⟩)]] w fun r w' => CatQ b3 w (Pr.fetchR t key.data.toList) r w' := by
  have hmf : ∀ (fn : Fn) (first cap : Array Value) (w : World), (Instr.makeFunc fn first cap).run Tryz.prog w = .ok (.func fn first cap) w := fun _ _ _ _ => rfl
  have HC := hid (fetchLit_any b1 b2 b3 t key f (w.alloc (.cells #[.int .i64 0] 36)) (by rw [World.cell?_alloc_past _ _ _ hl1]; exact h1) (by rw [World.cell?_alloc_past _ _ _ hl2]; exact h2) (by rw [World.cell?_alloc_past _ _ _ hl3]; exact h3) (by rw [World.frozen?_alloc_old _ _ _ (by simp; omega)]; exact hz) (by simp; omega))
  clear h1 h2 h3 hz hl1 hl2
  go_enter_defers Tryz.func148, Tryz.ntmps148
  go_wp2_with fail
  refine HC.out.mono ?_
  rintro r w1 ⟨hb1, hcase⟩
  have hblk : w1.heap[w.heap.size]? = some (.cells #[.int .i64 0] 36 (0, 0)) := (hb1.block w.heap.size (by simp) (by simp; omega)).trans (heap_alloc_new _ _)
  have hce : w1.cell? ⟨w.heap.size, 0, none⟩ = some (.int .i64 0) := by unfold World.cell?; rw [hblk]; rfl
  have hfz : w1.frozen? ⟨w.heap.size, 0, none⟩ = false := by unfold World.frozen?; rw [hblk]; rfl
  have hlt : w.heap.size < w1.heap.size := (Array.getElem?_eq_some_iff.1 hblk).1
  have HB1 : Hid (But b3 w w1) := ⟨hb1.os, hb1.tape, hb1.output, by omega, fun k hk hr => (hb1.block k (by simp; omega) hr).trans (Below.heap_alloc _ _ _ hk)⟩
  have HCS := hid hcase
  clear hb1 hblk hcase HC
  rcases HCS.out with ⟨hn, rfl⟩ | ⟨x, hx, rfl, hcx⟩
  · have HN := hid hn
    clear hn HCS
    unfold gaveUp
    go_wp2_with fail
    refine leaves_cons (f := 204) (args := #[.pointer (some ⟨w.heap.size, 0, none⟩)]) (by simp) (by simp [go_sem]) ?_
    refine (catch_panicking w.heap.size 0 [] _ hce hfz hlt).mono ?_
    rintro e u' w'' ⟨rfl, rfl, rfl⟩
    have HBF : Hid (But b3 w ((w1.setCell ⟨w.heap.size, 0, none⟩ (.int .i64 2)).alloc (.cells #[] 148))) := by
      refine ⟨HB1.out.os, HB1.out.tape, HB1.out.output, by simp [World.setCell]; omega, fun k hk hr => ?_⟩
      rw [Below.heap_alloc _ _ _ (by simp [World.setCell]; omega), Below.heap_setCell _ _ _ _ (by simp; omega)]
      exact HB1.out.block k hk hr
    have hx : ((w1.setCell ⟨w.heap.size, 0, none⟩ (.int .i64 2)).alloc (.cells #[] 148)).cell? ⟨w.heap.size, 0, none⟩ = some (.int .i64 2) := by
      rw [World.cell?_alloc_past _ _ _ (by simp; omega)]; exact World.cell?_setCell_same _ _ _ hce
    simp [Leaves, settle, results, Tryz.results148, go_sem, hx]
    exact ⟨HBF.out, .inl ⟨HN.out, rfl⟩⟩
  · have HX := hid hx
    have HCX := hid hcx
    clear hx hcx HCS
    generalize hvs : valS x = vs at *
    have HVS := hid hvs
    clear hvs
    go_wp2_with fail
    refine leaves_cons (f := 204) (args := #[.pointer (some ⟨w.heap.size, 0, none⟩)]) (by simp) (by simp [go_sem]) ?_
    refine (catch_idle ⟨w.heap.size, 0, none⟩ _).mono ?_
    rintro e u' w'' ⟨rfl, rfl, rfl⟩
    have hx : (w1.setCell ⟨w.heap.size, 0, none⟩ (.int .i64 0)).cell? ⟨w.heap.size, 0, none⟩ = some (.int .i64 0) := World.cell?_setCell_same _ _ _ hce
    have HBF : Hid (But b3 w (w1.setCell ⟨w.heap.size, 0, none⟩ (.int .i64 0))) := by
      refine ⟨HB1.out.os, HB1.out.tape, HB1.out.output, by simp [World.setCell]; omega, fun k hk hr => ?_⟩
      rw [Below.heap_setCell _ _ _ _ (by simp; omega)]
      exact HB1.out.block k hk hr
    have HCF : Hid ((w1.setCell ⟨w.heap.size, 0, none⟩ (.int .i64 0)).cell? ⟨b3, 0, none⟩ = some (.bool x.isSome)) := by
      show _ = _
      rw [← HCX.out]
      unfold World.cell?
      rw [Below.heap_setCell _ _ _ _ (by simp; omega)]
    simp [Leaves, settle, results, Tryz.results148, go_sem, hx]
    exact ⟨HBF.out, .inr ⟨x, HX.out, by rw [HVS.out], HCF.out⟩⟩

def fetchV (o : Option (Option (List UInt8))) : ByteArray := match o with
  | some x => valS x
  | none => ⟨#[]⟩
def fetchN (o : Option (Option (List UInt8))) : Int := match o with
  | none => 2
  | some none => 3
  | some (some _) => 0
set_option maxHeartbeats 1000000 in
theorem siltFetch_any (t : List UInt8) (key : ByteArray) (w : World) :
    Calls Tryz.prog 105 #[.string ⟨t.toArray⟩, .string key] w fun r w' => r = .returned (.tuple #[.string (fetchV (Pr.fetchR t key.data.toList)), .int .i64 (fetchN (Pr.fetchR t key.data.toList))]) ∧ Below w.heap.size w w' := by
  have hmf : ∀ (fn : Fn) (first cap : Array Value) (w : World), (Instr.makeFunc fn first cap).run Tryz.prog w = .ok (.func fn first cap) w := fun _ _ _ _ => rfl
  generalize hE : (Ending.returned (.tuple #[.string (fetchV (Pr.fetchR t key.data.toList)), .int .i64 (fetchN (Pr.fetchR t key.data.toList))])) = E
  have HE := hid hE
  clear hE
  have HC := hid (fetchCatch_any w.heap.size (w.heap.size + 1) (w.heap.size + 2) t key false (((w.alloc (.cells #[.string ⟨t.toArray⟩] 9)).alloc (.cells #[.string key] 9)).alloc (.cells #[.bool false] 4))
    (by rw [World.cell?_alloc_past _ _ _ (by simp; omega), World.cell?_alloc_past _ _ _ (by simp)]; simp)
    (by rw [World.cell?_alloc_past _ _ _ (by simp)]; exact World.cell?_alloc_at _ _ _ 0 (by simp))
    (World.cell?_alloc_at _ _ _ 0 (by simp))
    (by unfold World.frozen?; rw [show w.heap.size + 2 = ((w.alloc (.cells #[.string ⟨t.toArray⟩] 9)).alloc (.cells #[.string key] 9)).heap.size by simp, heap_alloc_new]; rfl)
    (by simp; omega) (by simp) (by simp))
  go_enter Tryz.func105, Tryz.ntmps105
  go_wp2_with fail
  refine HC.out.mono ?_
  rintro r w1 ⟨hb1, hcase⟩
  have HB1 : Hid (Below w.heap.size w w1) := by
    refine ⟨hb1.os, hb1.tape, hb1.output, by have := hb1.size; simp at this; omega, fun k hk => ?_⟩
    rw [hb1.block k (by simp; omega) (by simp; omega)]
    rw [Below.heap_alloc _ _ _ (by simp; omega), Below.heap_alloc _ _ _ (by simp; omega), Below.heap_alloc _ _ _ (by omega)]
  clear hb1
  rcases hcase with ⟨hn, rfl⟩ | ⟨x, hx, rfl, hcx⟩
  · have HT : Hid (.returned (.tuple #[.string ⟨#[]⟩, .int .i64 2]) = E) := by show _ = _; rw [← HE.out, hn]; rfl
    clear hn
    go_wp2_with fail
    go_ret2
    exact ⟨HT.out, HB1.out⟩
  · cases x with
    | none =>
      have HT : Hid (.returned (.tuple #[.string ⟨#[]⟩, .int .i64 3]) = E) := by show _ = _; rw [← HE.out, hx]; rfl
      have c0 : w1.cell? ⟨w.heap.size + 2, 0, none⟩ = some (.bool false) := hcx
      clear hx hcx
      unfold valS
      go_wp2_with fail
      go_ret2
      exact ⟨HT.out, HB1.out⟩
    | some v =>
      have HT : Hid (.returned (.tuple #[.string ⟨v.toArray⟩, .int .i64 0]) = E) := by show _ = _; rw [← HE.out, hx]; rfl
      have c0 : w1.cell? ⟨w.heap.size + 2, 0, none⟩ = some (.bool true) := hcx
      clear hx hcx
      unfold valS
      go_wp2_with fail
      go_ret2
      exact ⟨HT.out, HB1.out⟩
end Go.Proofs.YtolgpnaoaodepaaGreat
/- Plain mathematics of the program's reading of branches. -/
namespace Go.Proofs.YtolgpnaoaodepaaGreat.Pr
open Pg
def changesR : Nat → List UInt8 → Option (List (Int × List UInt8 × List UInt8) × List UInt8)
  | 0, t => some ([], t)
  | n + 1, t => (byteR t).bind fun b => (textR b.2).bind fun k => if b.1.toNat = 2 then (changesR n k.2).map fun r => (((2 : Int), k.1, []) :: r.1, r.2) else (textR k.2).bind fun v => (changesR n v.2).map fun r => (((b.1.toNat : Int), k.1, v.1) :: r.1, r.2)
def chgsR (t : List UInt8) : Option (List (Int × List UInt8 × List UInt8) × List UInt8) := (byteR t).bind fun b => changesR b.1.toNat b.2
def pivotsR : Nat → List UInt8 → Option (List (List UInt8) × List UInt8)
  | 0, t => some ([], t)
  | n + 1, t => (textR t).bind fun x => (pivotsR n x.2).map fun r => (x.1 :: r.1, r.2)
def numsR : Nat → List UInt8 → Option (List Nat × List UInt8)
  | 0, t => some ([], t)
  | n + 1, t => (numberR t).bind fun x => (numsR n x.2).map fun r => (x.1 :: r.1, r.2)
def childrenR (c : List UInt8) (n : Nat) : Option (List Nat × List (List UInt8)) := (numsR n c).bind fun x => (pivotsR (n - 1) x.2).bind fun p => if p.2 = [] then some (x.1, p.1) else none
theorem changesR_is : ∀ (l : List (Int × List UInt8 × List UInt8)) (t : List UInt8), (∀ c ∈ l, (c.1 = 1 ∨ c.1 = 3 ∨ (c.1 = 2 ∧ c.2.2 = [])) ∧ c.2.1.length ≤ 12 ∧ c.2.2.length ≤ 16) → changesR l.length (l.flatMap change1 ++ t) = some (l, t)
  | [], t, _ => rfl
  | (k, a, v) :: r, t, h => by
    have hc := h (k, a, v) (by simp)
    simp only at hc
    rw [List.length_cons, changesR, List.flatMap_cons]
    obtain ⟨n, hn, hn2⟩ : ∃ n : Nat, k = (n : Int) ∧ n ≤ 3 := ⟨k.toNat, by omega, by omega⟩
    subst hn
    have e : change1 ((n : Int), a, v) ++ r.flatMap change1 ++ t = UInt8.ofNat (n % 256) :: (text a ++ ((if (n : Int) = 2 then [] else text v) ++ (r.flatMap change1 ++ t))) := by
      unfold change1; simp [low]
    have hb : (UInt8.ofNat (n % 256)).toNat = n := by rw [UInt8.toNat_ofNat']; omega
    rw [e]
    simp only [byteR, Option.bind_some, hb]
    rw [textR_text _ _ (by omega)]
    simp only [Option.bind_some]
    have ih := changesR_is r t (fun c hc' => h c (by simp [hc']))
    by_cases h2 : n = 2
    · subst h2
      have hv : v = [] := by
        rcases hc.1 with h | h | h
        · omega
        · omega
        · exact h.2
      subst hv
      rw [if_pos rfl]
      simp only [if_true, show ((2 : Nat) : Int) = 2 from rfl, List.nil_append]
      rw [ih]; rfl
    · rw [if_neg h2, if_neg (by omega), textR_text _ _ (by omega)]
      simp only [Option.bind_some]
      rw [ih]; rfl
theorem chgsR_changes (l : List (Int × List UInt8 × List UInt8)) (t : List UInt8) (h8 : l.length ≤ 255) (h : ∀ c ∈ l, (c.1 = 1 ∨ c.1 = 3 ∨ (c.1 = 2 ∧ c.2.2 = [])) ∧ c.2.1.length ≤ 12 ∧ c.2.2.length ≤ 16) : chgsR (changes l ++ t) = some (l, t) := by
  have e : changes l ++ t = UInt8.ofNat (l.length % 256) :: (l.flatMap change1 ++ t) := by unfold changes; simp [low]
  have hb : (UInt8.ofNat (l.length % 256)).toNat = l.length := by rw [UInt8.toNat_ofNat']; omega
  unfold chgsR
  rw [e]
  simp only [byteR, Option.bind_some, hb]
  exact changesR_is l t h
theorem pivotsR_is : ∀ (l : List (List UInt8)) (t : List UInt8), (∀ p ∈ l, p.length ≤ 12) → pivotsR l.length (l.flatMap text ++ t) = some (l, t)
  | [], t, _ => rfl
  | p :: r, t, h => by
    rw [List.length_cons, pivotsR, List.flatMap_cons, List.append_assoc, textR_text _ _ (by have := h p (by simp); omega)]
    simp only [Option.bind_some]
    rw [pivotsR_is r t (fun x hx => h x (by simp [hx]))]; rfl
theorem numsR_is : ∀ (l : List Nat) (t : List UInt8), (∀ c ∈ l, c ≤ 2147483647) → numsR l.length (l.flatMap num ++ t) = some (l, t)
  | [], t, _ => rfl
  | c :: r, t, h => by
    rw [List.length_cons, numsR, List.flatMap_cons, List.append_assoc, numberR_num _ _ (h c (by simp))]
    simp only [Option.bind_some]
    rw [numsR_is r t (fun x hx => h x (by simp [hx]))]; rfl
theorem childrenR_is (cl : List Nat) (pl : List (List UInt8)) (hc : ∀ c ∈ cl, c ≤ 2147483647) (hp : ∀ p ∈ pl, p.length ≤ 12) (hl : pl.length + 1 = cl.length) : childrenR (pivotsC cl pl) cl.length = some (cl, pl) := by
  unfold childrenR pivotsC
  rw [numsR_is cl _ hc]
  simp only [Option.bind_some]
  have := pivotsR_is pl [] hp
  rw [List.append_nil] at this
  rw [show cl.length - 1 = pl.length by omega, this]
  simp
/-- A branch's page. -/
def branchR (page : List UInt8) : Option (List Nat × List (List UInt8) × List (Int × List UInt8 × List UInt8)) :=
  (takeR 3 page).bind fun a => (byteR a.2).bind fun c => (shortR c.2).bind fun p => (shortR p.2).bind fun m => (cutR page [p.1, m.1]).bind fun ss => (secR 112 (ss.getD 0 [])).bind fun pc => (childrenR pc c.1.toNat).bind fun cp => (secR 109 (ss.getD 1 [])).bind fun mc => (chgsR mc).bind fun ms => if ms.2 = [] then some (cp.1, cp.2, ms.1) else none
end Go.Proofs.YtolgpnaoaodepaaGreat.Pr
