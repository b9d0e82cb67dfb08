/- The walk of pages' Fetch. -/
import Derived.Test.YtolgpnaoaodepaaWalkAC
namespace Go.Proofs.Ytolgpnaoaodepaa
open Go.RowKit

def fetchEnd (o : Option (Option (List UInt8))) : Ending := match o with
  | none => gaveUp
  | some none => .returned (.tuple #[.string ⟨#[]⟩, .bool false])
  | some (some v) => .returned (.tuple #[.string ⟨v.toArray⟩, .bool true])
theorem itemsQ_no {w : World} {o : Option (List (List UInt8 × List UInt8))} {r : Ending} {w' : World} (h : ItemsQ w o r w') (ho : o = none) : r = gaveUp ∧ Below w.heap.size w w' := by
  obtain ⟨h1, ⟨_, h2⟩ | ⟨l, v, h2, _⟩⟩ := h
  · exact ⟨h2, h1⟩
  · rw [ho] at h2; simp at h2
def ItemsY (w : World) (p : List (List UInt8 × List UInt8)) (r : Ending) (w' : World) : Prop := ∃ l v, p = plain l ∧ r = .returned v ∧ OwnsI w.heap.size w' v l ∧ l.length ≤ 255 ∧ (∀ x ∈ l, x.1.size ≤ 10000000 ∧ x.2.size ≤ 10000000) ∧ Below w.heap.size w w'
theorem itemsQ_yes {w : World} {o : Option (List (List UInt8 × List UInt8))} {r : Ending} {w' : World} {p : List (List UInt8 × List UInt8)} (h : ItemsQ w o r w') (ho : o = some p) : ItemsY w p r w' := by
  obtain ⟨h1, ⟨h2, _⟩ | ⟨l, v, h2, h3, h4, h5, h6⟩⟩ := h
  · rw [ho] at h2; simp at h2
  · rw [ho] at h2; simp only [Option.some.injEq] at h2
    exact ⟨l, v, h2, h3, h4, h5, h6, h1⟩
theorem IsLH.below {w w' : World} {v : Value} {ss : List Nat} {fs : List ByteArray} (h : IsLH w v ss fs) (hb : Below w.heap.size w w') : IsLH w' v ss fs := by
  obtain ⟨vs, vf, e, h1, h2⟩ := h
  exact ⟨vs, vf, e, h1.below hb, h2.below hb⟩

theorem mk_data (s : ByteArray) : (⟨s.data.toList.toArray⟩ : ByteArray) = s := bytes_ext (by simp)
theorem bas_no (v : Value) (ss : List Nat) (fs : List ByteArray) (i : Nat) (s : ByteArray) (w : World) (hv : IsLH w v ss fs) (h4 : fs.length ≤ 1000) (hi : i < fs.length) (h : Pr.basementR (lists fs) i s.data.toList = none) :
    Calls Try.prog 46 #[v, .int .i64 i, .string s] w fun r w' => r = gaveUp ∧ Below w.heap.size w w' := by
  have := basement_read v ss fs i s.data.toList w hv h4 hi
  rw [mk_data] at this
  exact this.mono fun _ _ q => itemsQ_no q h
theorem bas_yes (v : Value) (ss : List Nat) (fs : List ByteArray) (i : Nat) (s : ByteArray) (w : World) (hv : IsLH w v ss fs) (h4 : fs.length ≤ 1000) (hi : i < fs.length) {p : List (List UInt8 × List UInt8)} (h : Pr.basementR (lists fs) i s.data.toList = some p) :
    Calls Try.prog 46 #[v, .int .i64 i, .string s] w fun r w' => ItemsY w p r w' := by
  have := basement_read v ss fs i s.data.toList w hv h4 hi
  rw [mk_data] at this
  exact this.mono fun _ _ q => itemsQ_yes q h
theorem below_drew {B : Nat} {w w' : World} (h : Below B w.drew w') : Below B w w' := ⟨h.os, h.tape, h.output, h.size, h.block⟩

set_option maxHeartbeats 4000000 in
set_option maxRecDepth 20000 in
theorem pagesFetch_any (t : List UInt8) (key : ByteArray) (w : World) :
    Calls Try.prog 30 #[.string ⟨t.toArray⟩, .string key] w fun r w' => r = fetchEnd (Pr.fetchR t key.data.toList) ∧ Below w.heap.size w w' := by
  generalize hE : fetchEnd (Pr.fetchR t key.data.toList) = E
  have HE := hid hE
  clear hE
  go_enter Try.func30, Try.ntmps30
  go_wp2_with fail
  refine (leafHead_any t _).mono ?_
  rintro r w1 ⟨hb1, ⟨hn, rfl⟩ | ⟨ss, fs, v1, hh, rfl, hlh, hsf, hf4, hf12⟩⟩
  · have HT : Hid (gaveUp = E) := by show _ = _; rw [← HE.out]; unfold Pr.fetchR; rw [hn]; rfl
    have HB1 := hid hb1
    clear hb1 hn
    unfold gaveUp
    go_wp2_with fail
    exact ⟨rfl, HT.out, HB1.out⟩
  have HT1 : Hid (Pr.fetchR t key.data.toList = (Pr.cutR t ss).bind fun cs => if Pr.findN (lists fs) key.data.toList fs.length < 0 then some none else (Pr.basementR (lists fs) (Pr.findN (lists fs) key.data.toList fs.length).toNat (cs.getD (Pr.findN (lists fs) key.data.toList fs.length).toNat [])).map fun l => Pr.valueOf key.data.toList l) := by
    show _ = _; unfold Pr.fetchR; rw [hh]; simp only [Option.bind_some, lists_len]
  obtain ⟨vs, vf, rfl, h1, h2⟩ := id hlh
  obtain ⟨sa, ca, rfl, -, -⟩ := id h1
  obtain ⟨fa, cf, rfl, -, -⟩ := id h2
  have BA := (Below.refl w1.heap.size w1).alloc (Nat.le_refl _) (.cells #[.slice sa ss.length ca, .slice fa fs.length cf] 71)
  have HLH := hid (hlh.below BA)
  have HIS := hid (h1.below BA)
  have HB1 := hid (hb1.trans (BA.mono hb1.size))
  have HVAR : Hid ((w1.alloc (.cells #[.slice sa ss.length ca, .slice fa fs.length cf] 71)).heap[w1.heap.size]? = some (.cells #[.slice sa ss.length ca, .slice fa fs.length cf] 71 (0, 0))) := heap_alloc_new _ _
  have hs1 : w1.heap.size < (w1.alloc (.cells #[.slice sa ss.length ca, .slice fa fs.length cf] 71)).heap.size := by simp
  have hw1 := hb1.size
  have hssl : ss.length ≤ 4 := by omega
  have HSF := hid hsf
  clear hb1 hh hlh BA hsf hf12 h1 h2
  go_wp2_with fail
  generalize w1.alloc (.cells #[.slice sa ss.length ca, .slice fa fs.length cf] 71) = w2 at *
  generalize w1.heap.size = hb at *
  refine (cutBody_any t _ ss _ HIS.out (by omega)).mono ?_
  rintro r w3 ⟨hb3, ⟨hn, rfl⟩ | ⟨cl, v3, hc3, rfl, ho3⟩⟩
  · have HT : Hid (gaveUp = E) := by show _ = _; rw [← HE.out, HT1.out, hn]; rfl
    have HB3 := hid (HB1.out.trans (hb3.mono (by omega)))
    clear hb3 hn
    unfold gaveUp
    go_wp2_with fail
    exact ⟨rfl, HT.out, HB3.out⟩
  have HT3 : Hid (Pr.fetchR t key.data.toList = if Pr.findN (lists fs) key.data.toList fs.length < 0 then some none else (Pr.basementR (lists fs) (Pr.findN (lists fs) key.data.toList fs.length).toNat ((lists cl).getD (Pr.findN (lists fs) key.data.toList fs.length).toNat [])).map fun l => Pr.valueOf key.data.toList l) := by
    show _ = _; rw [HT1.out, hc3]; rfl
  have hcl : cl.length = ss.length := by have := (Pr.cutR_is hc3).2.2; rw [← this]; simp [lists]
  have HCL := hid hcl
  have HB3 := hid (HB1.out.trans (hb3.mono (by omega)))
  have HLH3 := hid (HLH.out.below hb3)
  have HV3 := hid ((hb3.block hb (by omega)).trans HVAR.out)
  have HO3 := hid ho3
  have hs3 := hb3.size
  obtain ⟨xa, xc, rfl⟩ := ho3.shape
  have m0 : w3.cell? ⟨hb, 0, none⟩ = some (.slice sa ss.length ca) := by unfold World.cell?; rw [HV3.out]; rfl
  have m1 : w3.cell? ⟨hb, 1, none⟩ = some (.slice fa fs.length cf) := by unfold World.cell?; rw [HV3.out]; rfl
  clear hb3 hc3 ho3 HLH HIS HVAR HT1 hcl
  go_wp2_with fail
  refine (find_any _ ss fs key _ HLH3.out (by omega)).mono ?_
  rintro r w4 ⟨rfl, hb4⟩
  have HB4 := hid (HB3.out.trans (hb4.mono (by omega)))
  have HLH4 := hid (HLH3.out.below hb4)
  have HV4 := hid ((hb4.block hb (by omega)).trans HV3.out)
  have HO4 : Hid (OwnsS w2.heap.size w4 (.slice xa cl.length xc) cl) := HO3.out.below hb4 (Nat.le_refl _)
  have hs4 := hb4.size
  have hfl := Pr.findN_lt (lists fs) key.data.toList fs.length
  clear hb4 HLH3 HV3 HO3 m0 m1
  have m0 : w4.cell? ⟨hb, 0, none⟩ = some (.slice sa ss.length ca) := by unfold World.cell?; rw [HV4.out]; rfl
  have m1 : w4.cell? ⟨hb, 1, none⟩ = some (.slice fa fs.length cf) := by unfold World.cell?; rw [HV4.out]; rfl
  generalize Pr.findN (lists fs) key.data.toList fs.length = fi at *
  by_cases hneg : fi < 0
  · have HT : Hid (.returned (.tuple #[.string ⟨#[]⟩, .bool false]) = E) := by show _ = _; rw [← HE.out, HT3.out, if_pos hneg]; rfl
    go_wp2_with fail
    go_ret2
    exact ⟨HT.out, HB4.out⟩
  rw [if_neg hneg] at HT3
  obtain ⟨j, rfl⟩ : ∃ j : Nat, fi = (j : Int) := ⟨fi.toNat, by omega⟩
  have hjf : j < fs.length := by omega
  simp only [Int.toNat_natCast] at HT3
  have hjc : j < cl.length := by rw [HCL.out, HSF.out]; exact hjf
  obtain ⟨g, cap, hge, hg1, hg2, hg3⟩ := HO4.out.shape_pos (by omega)
  injection hge with e1 e2 e3
  subst e1 e3
  have c0 := HO4.out.cellAt j (cl[j]'hjc) (List.getElem?_eq_getElem hjc)
  rw [lists_getD cl j hjc] at HT3
  generalize cl[j]'hjc = sx at *
  have hi1 : (0 : Int) ≤ (j : Int) := by omega
  have hi2 : (j : Int) < (cl.length : Int) := by omega
  have HLD : Hid (IsLH w4.drew (.agg #[.slice sa ss.length ca, .slice fa fs.length cf]) ss fs) := HLH4.out
  cases hbr : Pr.basementR (lists fs) j sx.data.toList with
  | none =>
    have HT : Hid (gaveUp = E) := by show _ = _; rw [← HE.out, HT3.out, hbr]; rfl
    have HC := hid (bas_no _ ss fs j sx w4.drew HLD.out (by omega) hjf hbr)
    clear hbr
    go_wp2_with fail
    go_region_dies
    all_goals
      refine HC.out.mono ?_
      rintro r w5 ⟨rfl, hb5⟩
      have HB5 := hid (HB4.out.trans ((below_drew hb5).mono (by show w.heap.size ≤ w4.heap.size; omega)))
      clear hb5
      unfold gaveUp
      go_wp2_with fail
      exact ⟨rfl, HT.out, HB5.out⟩
  | some p =>
    have HT4 : Hid (Pr.fetchR t key.data.toList = some (Pr.valueOf key.data.toList p)) := by show _ = _; rw [HT3.out, hbr]; rfl
    have HC := hid (bas_yes _ ss fs j sx w4.drew HLD.out (by omega) hjf hbr)
    clear hbr HT3
    go_wp2_with fail
    go_region_law (first
      | (go_simp
         refine HC.out.mono ?_
         rintro r w5 ⟨l, v5, rfl, rfl, ho5, hl255, hls, hb5⟩
         have HB5 := hid (HB4.out.trans ((below_drew hb5).mono (by show w.heap.size ≤ w4.heap.size; omega)))
         have HO5 := hid ho5
         have hs5 : w4.heap.size ≤ w5.heap.size := (below_drew hb5).size
         obtain ⟨ya, yc, rfl⟩ := rowShape ho5
         clear ho5 hls hb5))
    all_goals
      go_wp2_with fail
      go_simp
      go_loopw [30] (fun i wr => ∃ k : Nat, k ≤ l.length ∧ i = .int .i64 k ∧ Below w5.heap.size w5 wr ∧ Pr.valueOf key.data.toList (plain (l.drop k)) = Pr.valueOf key.data.toList (plain l)) (fun i _ => l.length - (intOf i).toNat)
      case atStart => exact ⟨0, Nat.zero_le _, rfl, Below.refl _ _, rfl⟩
      case round =>
        obtain ⟨k, hk, rfl, hbr, heq⟩ := hrel
        have HBR := hid hbr
        have HEQ := hid heq
        have hsr := hbr.size
        clear hbr heq
        by_cases hkl : k < l.length
        · obtain ⟨g5, cap5, hge5, -, -, hgw5, hia⟩ := HO5.out.isItems.resolve_left (by rintro ⟨_, _, _, rfl⟩; simp at hkl)
          injection hge5 with e1 e2 e3
          subst e1 e3
          obtain ⟨k0, k1⟩ := hia.below HBR.out hgw5 k hkl
          clear hia
          have HNX : Hid (plain (l.drop k) = ((l[k]'hkl).1.data.toList, (l[k]'hkl).2.data.toList) :: plain (l.drop (k + 1))) := by
            show _ = _; rw [List.drop_eq_getElem_cons hkl]; rfl
          generalize l[k]'hkl = x at *
          obtain ⟨kb, vb⟩ := x
          simp only [Nat.zero_add] at k0 k1
          rw [HNX.out, Pr.valueOf] at HEQ
          have HB6 := hid (HBR.out.alloc hsr (.cells #[.string kb, .string vb] 43))
          have HBW := hid (HB5.out.trans (HB6.out.mono (by omega)))
          by_cases hke : kb.data.toList = key.data.toList
          · have hkk : kb = key := bytes_ext hke
            have HT : Hid (.returned (.tuple #[.string vb, .bool true]) = E) := by
              show _ = _; rw [← HE.out, HT4.out, ← HEQ.out, if_pos hke]; unfold fetchEnd; simp only [mk_data]
            subst hkk
            clear hke
            go_wp2_with fail
            go_ret2
            exact ⟨HT.out, HBW.out⟩
          · simp only [if_neg hke] at HEQ
            have hne : (kb.toList == key.toList) = false := by rw [toList_is, toList_is]; simpa using hke
            have hne2 : ¬ kb = key := fun e => hke (by rw [e])
            clear hke
            go_wp2_with fail
            go_roundw
            case rel => exact ⟨k + 1, by omega, by go_num, HB6.out, HEQ.out⟩
            case measure => simp [intOf]; omega
        · have HT : Hid (.returned (.tuple #[.string ⟨#[]⟩, .bool false]) = E) := by
            show _ = _; rw [← HE.out, HT4.out, ← HEQ.out, List.drop_eq_nil_of_le (by omega)]; rfl
          have HBW := hid (HB5.out.trans (HBR.out.mono (by omega)))
          go_wp2_with fail
          go_ret2
          exact ⟨HT.out, HBW.out⟩
end Go.Proofs.Ytolgpnaoaodepaa
