/- The walks of leafHead's find and readBasement. -/
import Derived.Test.YtolgpnaoaodepaaWalkAB
import Derived.Test.YtolgpnaoaodepaaMathJ
namespace Go.Proofs.Ytolgpnaoaodepaa
open Go.RowKit

theorem lists_getD (fs : List ByteArray) (i : Nat) (h : i < fs.length) : (lists fs).getD i [] = (fs[i]'h).data.toList := by
  unfold lists; rw [List.getD_eq_getElem?_getD, List.getElem?_map, List.getElem?_eq_getElem h]; rfl
theorem lists_len (fs : List ByteArray) : (lists fs).length = fs.length := by simp [lists]
theorem plain_keys (l : List (ByteArray × ByteArray)) (i : Nat) (h : i < l.length) : ((plain l).map (·.1)).getD i [] = (l[i]'h).1.data.toList := by
  unfold plain; rw [List.map_map, List.getD_eq_getElem?_getD, List.getElem?_map, List.getElem?_eq_getElem h]; rfl

theorem tri (key f : ByteArray) : (key.data.toList < f.data.toList → Op.bytesLess f.toList key.toList = false ∧ (f.toList == key.toList) = false) ∧ (¬ key.data.toList < f.data.toList → Op.bytesLess f.toList key.toList = true ∨ (Op.bytesLess f.toList key.toList = false ∧ (f.toList == key.toList) = true)) := by
  rw [toList_is, toList_is, less_is]
  constructor
  · intro h
    refine ⟨decide_eq_false (List.lt_asymm h), ?_⟩
    simp only [beq_eq_false_iff_ne, ne_eq]
    intro e; rw [e] at h; exact List.lt_irrefl _ h
  · intro h
    rcases List.le_iff_lt_or_eq.1 (List.not_lt.1 h) with h1 | h1
    · exact .inl (decide_eq_true h1)
    · exact .inr ⟨by rw [h1]; exact decide_eq_false (List.lt_irrefl _), by simpa using h1⟩
set_option maxHeartbeats 1000000 in
set_option maxRecDepth 20000 in
theorem find_any (v : Value) (ss : List Nat) (fs : List ByteArray) (key : ByteArray) (w : World) (hv : IsLH w v ss fs) (h4 : fs.length ≤ 1000) :
    Calls Try.prog 45 #[v, .string key] w fun r w' => r = .returned (.int .i64 (Pr.findN (lists fs) key.data.toList fs.length)) ∧ Below w.heap.size w w' := by
  obtain ⟨vs, vf, rfl, ⟨sa, ca, rfl, -, -⟩, ⟨fa, cf, rfl, -, hf1⟩⟩ := hv
  have HF := hid hf1
  clear hf1
  have HB0 := hid ((Below.refl w.heap.size w).alloc (Nat.le_refl _) (.cells #[.slice sa ss.length ca, .slice fa fs.length cf] 71))
  go_enter Try.func45, Try.ntmps45
  go_wp2_with fail
  go_loopw [5, 11] (fun u i wr => ∃ k : Nat, k ≤ fs.length ∧ i = .int .i64 k ∧ u = .int .i64 (Pr.findN (lists fs) key.data.toList k) ∧ Below w.heap.size w wr) (fun _ i _ => fs.length - (intOf i).toNat)
  case atStart => exact ⟨0, Nat.zero_le _, rfl, rfl, HB0.out⟩
  case round =>
    obtain ⟨k, hk, rfl, rfl, hb⟩ := hrel
    have HB := hid hb
    clear hb
    by_cases hkl : k < fs.length
    · obtain ⟨b, off, hve, hbw, hcs⟩ := HF.out.resolve_left (by omega)
      subst hve
      have c0 := rowAt (pl := fs) hcs HB.out hbw k hkl
      clear hcs
      have HNX : Hid (Pr.findN (lists fs) key.data.toList (k + 1) = if key.data.toList < (fs[k]'hkl).data.toList then Pr.findN (lists fs) key.data.toList k else (k : Int)) := by
        show _ = _; rw [← lists_getD fs k hkl]; rfl
      generalize fs[k]'hkl = f at *
      generalize Pr.findN (lists fs) key.data.toList k = m at *
      have HTRI := hid (tri key f)
      by_cases hlt : key.data.toList < f.data.toList
      · rw [if_pos hlt] at HNX
        obtain ⟨hc1, hc2⟩ := (HTRI.out).1 hlt
        clear hlt
        go_wp2_with fail
        go_roundw
        case rel => exact ⟨k + 1, by omega, by go_num, by rw [HNX.out], HB.out⟩
        case measure => simp [intOf]; omega
      · rw [if_neg hlt] at HNX
        rcases (HTRI.out).2 hlt with hc1 | ⟨hc1, hc2⟩
        all_goals
          clear hlt
          go_wp2_with fail
          go_roundw
          case rel => exact ⟨k + 1, by omega, by go_num, by rw [HNX.out], HB.out⟩
          case measure => simp [intOf]; omega
    · have hke : k = fs.length := by omega
      have HKE := hid hke
      clear hke
      generalize hm : Pr.findN (lists fs) key.data.toList k = m at *
      have HM := hid hm
      clear hm
      go_wp2_with fail
      go_ret
      exact ⟨by rw [← HKE.out, HM.out]; rfl, HB.out⟩

def BasQ (w : World) (o : Option (List (List UInt8 × List UInt8))) (r : Ending) (w' : World) : Prop := ItemsQ w o r w'
theorem secR_end (o : Option (List UInt8)) : (o = none ∧ secEnd o = gaveUp) ∨ ∃ c, o = some c ∧ secEnd o = .returned (.string ⟨c.toArray⟩) := by
  cases o with
  | none => exact .inl ⟨rfl, rfl⟩
  | some c => exact .inr ⟨c, rfl, rfl⟩

set_option maxHeartbeats 4000000 in
set_option maxRecDepth 20000 in
theorem basement_read (v : Value) (ss : List Nat) (fs : List ByteArray) (i : Nat) (s : List UInt8) (w : World) (hv : IsLH w v ss fs) (h4 : fs.length ≤ 1000) (hi : i < fs.length) :
    Calls Try.prog 46 #[v, .int .i64 i, .string ⟨s.toArray⟩] w fun r w' => ItemsQ w (Pr.basementR (lists fs) i s) r w' := by
  obtain ⟨vs, vf, rfl, ⟨sa, ca, rfl, -, -⟩, ⟨fa, cf, rfl, -, hf1⟩⟩ := hv
  obtain ⟨b, off, hve, hbw, hcs⟩ := hf1.resolve_left (by omega)
  subst hve
  have HF := hid hcs
  have HB0 := hid ((Below.refl w.heap.size w).alloc (Nat.le_refl _) (.cells #[.slice sa ss.length ca, .slice (some ⟨b, off, none⟩) fs.length cf] 71))
  have HBX : Hid ((w.alloc (.cells #[.slice sa ss.length ca, .slice (some ⟨b, off, none⟩) fs.length cf] 71)).cell? ⟨w.heap.size, 1, none⟩ = some (.slice (some ⟨b, off, none⟩) fs.length cf)) := by show _ = _; simp
  have hs0 : w.heap.size < (w.alloc (.cells #[.slice sa ss.length ca, .slice (some ⟨b, off, none⟩) fs.length cf] 71)).heap.size := by simp
  clear hf1 hcs
  go_enter Try.func46, Try.ntmps46
  go_wp2_with fail
  generalize w.alloc (.cells #[.slice sa ss.length ca, .slice (some ⟨b, off, none⟩) fs.length cf] 71) = w0 at *
  refine (readSection_any 98 s _).mono ?_
  rintro r w1 ⟨rfl, hb1⟩
  have HB1 := hid (HB0.out.trans (hb1.mono (by omega)))
  have HBX1 := hid ((hb1.cell (p := ⟨w.heap.size, 1, none⟩) (by show w.heap.size < _; omega)).trans HBX.out)
  have hs1 := hb1.size
  clear hb1 HB0 HBX
  rcases secR_end (Pr.secR 98 s) with ⟨hsn, hse⟩ | ⟨c, hsn, hse⟩
  · have HT : Hid (Pr.basementR (lists fs) i s = none) := by show _ = _; unfold Pr.basementR; rw [hsn]; rfl
    rw [hse]
    clear hsn hse
    unfold gaveUp
    go_wp2_with fail
    exact ⟨rfl, HB1.out, .inl ⟨HT.out, rfl⟩⟩
  have HT : Hid (Pr.basementR (lists fs) i s = (Pr.basR c).bind fun l => if Pr.basOk (lists fs) i l = true then some l else none) := by show _ = _; unfold Pr.basementR; rw [hsn]; rfl
  have hcl := Pr.secR_len hsn
  rw [hse]
  clear hsn hse
  go_wp2_with fail
  refine (readItems_any c _ (by omega)).mono ?_
  rintro r w2 ⟨hb2, ⟨hn, rfl⟩ | ⟨l, v2, hl2, rfl, ho2, hl255, hls⟩⟩
  · have HT2 : Hid (Pr.basementR (lists fs) i s = none) := by show _ = _; rw [HT.out, hn]; rfl
    have HB2 := hid (HB1.out.trans (hb2.mono (by omega)))
    clear hb2 hn
    unfold gaveUp
    go_wp2_with fail
    exact ⟨rfl, HB2.out, .inl ⟨HT2.out, rfl⟩⟩
  have HT2 : Hid (Pr.basementR (lists fs) i s = if Pr.basOk (lists fs) i (plain l) = true then some (plain l) else none) := by show _ = _; rw [HT.out, hl2]; rfl
  have HB2 := hid (HB1.out.trans (hb2.mono (by omega)))
  have HBX2 := hid ((hb2.cell (p := ⟨w.heap.size, 1, none⟩) (by show w.heap.size < _; omega)).trans HBX1.out)
  have HO2 := hid ho2
  have HLS := hid hls
  have hs2 := hb2.size
  have hpl : (plain l).length = l.length := by simp [plain]
  have HOKD : Hid (Pr.basOk (lists fs) i (plain l) = (decide (1 ≤ l.length) && decide (l.length ≤ 4) && Pg.okFrom none (plain l) && decide (((plain l).map (·.1)).getD 0 [] = (lists fs).getD i []) && (!decide (i + 1 < fs.length) || decide (((plain l).map (·.1)).getD (l.length - 1) [] < (lists fs).getD (i + 1) [])))) := by
    show _ = _; unfold Pr.basOk; rw [hpl, lists_len]
  obtain ⟨la, lc, rfl⟩ := rowShape ho2
  clear hb2 hl2 hls hpl HB1 HBX1 HT
  have bad : Pr.basOk (lists fs) i (plain l) = false → Pr.basementR (lists fs) i s = none := fun h => by rw [HT2.out, h]; rfl
  have BAD := hid bad
  clear bad
  by_cases hl1 : 1 ≤ l.length
  · by_cases hl4 : l.length ≤ 4
    · have hd : decide ((1 : Int) ≤ (l.length : Int)) = true := by simp; omega
      have hd2 : decide ((l.length : Int) ≤ 4) = true := by simp; omega
      have HIT := hid (ownsI_items ho2)
      clear ho2
      go_wp2_with fail
      refine (unless_yes _).mono ?_
      rintro r w3 ⟨rfl, rfl⟩
      go_wp2_with fail
      refine (areItems_any _ l _ HIT.out (by omega)).mono ?_
      rintro r w4 ⟨rfl, hb4⟩
      have HB4 := hid (HB2.out.trans (hb4.mono (by omega)))
      have x4 := (hb4.cell (p := ⟨w.heap.size, 1, none⟩) (by show w.heap.size < _; omega)).trans HBX2.out
      have HO4 : Hid (OwnsI w1.heap.size w4 (.slice la l.length lc) l) := row_below HO2.out hb4 (Nat.le_refl _)
      have hs4 := hb4.size
      clear hb4 HBX2 HB2 hd hd2
      generalize hok : Pg.okFrom none (plain l) = ok at *
      cases ok
      · have HF2 : Hid (Pr.basementR (lists fs) i s = none) := BAD.out (by rw [HOKD.out]; simp)
        go_wp2_with fail
        refine (unless_no _).mono ?_
        rintro r w5 ⟨rfl, rfl⟩
        unfold gaveUp
        go_wp2_with fail
        exact ⟨rfl, HB4.out, .inl ⟨HF2.out, rfl⟩⟩
      · clear hok
        go_wp2_with fail
        refine (unless_yes _).mono ?_
        rintro r w5 ⟨rfl, rfl⟩
        obtain ⟨g, cap, hge, -, -, hgw, hia⟩ := HO4.out.isItems.resolve_left (by rintro ⟨_, _, _, rfl⟩; simp at hl1)
        injection hge with e1 e2 e3
        subst e1 e3
        have k0 := (hia 0 (by omega)).1
        have kl := (hia (l.length - 1) (by omega)).1
        have c0 := rowAt (pl := fs) HF.out HB4.out hbw i hi
        have HK0 := hid (plain_keys l 0 (by omega))
        have HKL := hid (plain_keys l (l.length - 1) (by omega))
        have HFI := hid (lists_getD fs i hi)
        clear hia
        generalize (l[0]'(by omega)).1 = kb at *
        generalize (l[l.length - 1]'(by omega)).1 = klb at *
        generalize fs[i]'hi = fi at *
        simp only [Nat.zero_mul, Nat.add_zero, Nat.zero_add] at k0 kl
        have hl0 : 0 < l.length := by omega
        have hi1 : (0 : Int) < (l.length : Int) := by omega
        have hi2 : (i : Int) < (fs.length : Int) := by omega
        have hi3 : (0 : Int) ≤ (i : Int) := by omega
        by_cases hke : kb.data.toList = fi.data.toList
        · have hkf : kb = fi := bytes_ext hke
          have HKE := hid hke
          subst hkf
          clear hke
          go_wp2_with fail
          go_quiet (exact quiet_of (unless_yes _))
          have x6 : (w5.drewN nq).cell? ⟨w.heap.size, 1, none⟩ = _ := x4
          have kl6 : (w5.drewN nq).cell? ⟨g, (l.length - 1) * 2, none⟩ = _ := kl
          have HB6 := hid (below_drewN HB4.out nq)
          have HO6 : Hid (OwnsI w1.heap.size (w5.drewN nq) (.slice (some ⟨g, 0, none⟩) l.length lc) l) := HO4.out
          generalize w5.drewN nq = w6 at *
          clear x4 kl k0 c0 HB4 HO4
          by_cases hnx : i + 1 < fs.length
          · have c1 := rowAt (pl := fs) HF.out HB6.out hbw (i + 1) hnx
            have HFN := hid (lists_getD fs (i + 1) hnx)
            generalize fs[i + 1]'hnx = fn at *
            have hi4 : (i : Int) + 1 < (fs.length : Int) := by omega
            have hw1 : IntKind.i64.wrap ((l.length : Int) - 1) = ((l.length - 1 : Nat) : Int) := by rw [IntWalk.i64_in _ ⟨by omega, by omega⟩]; omega
            have hw2 : IntKind.i64.wrap ((i : Int) + 1) = ((i + 1 : Nat) : Int) := by rw [IntWalk.i64_in _ ⟨by omega, by omega⟩]; omega
            have hi5 : ((l.length - 1 : Nat) : Int) < (l.length : Int) := by omega
            have hi6 : ((i + 1 : Nat) : Int) < (fs.length : Int) := by omega
            have hi8 : (0 : Int) ≤ (i : Int) + 1 := by omega
            have HLL : Hid (((plain l).map (·.1)).getD (l.length - 1) [] = klb.data.toList) := HKL.out
            generalize hjl : l.length - 1 = jl at *
            clear hjl
            by_cases hlt : klb.data.toList < fn.data.toList
            · have HF2 : Hid (Pr.basementR (lists fs) i s = some (plain l)) := by
                show _ = _
                rw [HT2.out, HOKD.out, HK0.out, HFI.out, HLL.out, HFN.out, decide_eq_true hl1, decide_eq_true hl4, decide_eq_true hlt]
                simp
              have hcmp : Op.bytesLess klb.toList fn.toList = true := by rw [toList_is, toList_is, less_is]; exact decide_eq_true hlt
              clear hlt
              go_wp2_with fail
              go_quiet (exact quiet_of (unless_yes _))
              go_wp2_with fail
              go_ret
              exact ⟨below_drewN HB6.out _, .inr ⟨l, _, HF2.out, rfl, ownsI_shrink HO6.out (by omega), hl255, HLS.out⟩⟩
            · have HF2 : Hid (Pr.basementR (lists fs) i s = none) := BAD.out (by rw [HOKD.out, HLL.out, HFN.out, decide_eq_true hnx, decide_eq_false hlt]; simp)
              have hcmp : Op.bytesLess klb.toList fn.toList = false := by rw [toList_is, toList_is, less_is]; exact decide_eq_false hlt
              clear hlt
              go_wp2_with fail
              go_region_dies
              all_goals
                refine (unless_no _).mono ?_
                rintro r w7 ⟨rfl, rfl⟩
                unfold gaveUp
                go_wp2_with fail
                exact ⟨rfl, HB6.out.drew, .inl ⟨HF2.out, rfl⟩⟩
          · have HF2 : Hid (Pr.basementR (lists fs) i s = some (plain l)) := by
              show _ = _
              rw [HT2.out, HOKD.out, HK0.out, HFI.out, decide_eq_true hl1, decide_eq_true hl4, decide_eq_false hnx]
              simp
            have hi4 : ¬ (i : Int) + 1 < (fs.length : Int) := by omega
            go_wp2_with fail
            go_ret
            exact ⟨HB6.out, .inr ⟨l, _, HF2.out, rfl, ownsI_shrink HO6.out (by omega), hl255, HLS.out⟩⟩
        · have HF2 : Hid (Pr.basementR (lists fs) i s = none) := BAD.out (by rw [HOKD.out, HK0.out, HFI.out, decide_eq_false hke]; simp)
          have hne : (kb.toList == fi.toList) = false := by rw [toList_is, toList_is]; simpa using hke
          have hne2 : ¬ kb = fi := fun e => hke (by rw [e])
          clear hke
          go_wp2_with fail
          go_region_dies
          all_goals
            refine (unless_no _).mono ?_
            rintro r w6 ⟨rfl, rfl⟩
            unfold gaveUp
            go_wp2_with fail
            exact ⟨rfl, HB4.out.drew, .inl ⟨HF2.out, rfl⟩⟩
    · have HF2 : Hid (Pr.basementR (lists fs) i s = none) := BAD.out (by rw [HOKD.out, decide_eq_false hl4]; simp)
      have hd : decide ((1 : Int) ≤ (l.length : Int)) = true := by simp; omega
      have hd2 : decide ((l.length : Int) ≤ 4) = false := by simp; omega
      go_wp2_with fail
      refine (unless_no _).mono ?_
      rintro r w3 ⟨rfl, rfl⟩
      unfold gaveUp
      go_wp2_with fail
      exact ⟨rfl, HB2.out, .inl ⟨HF2.out, rfl⟩⟩
  · have HF2 : Hid (Pr.basementR (lists fs) i s = none) := BAD.out (by rw [HOKD.out, decide_eq_false hl1]; simp)
    have hd : decide ((1 : Int) ≤ (l.length : Int)) = false := by simp; omega
    go_wp2_with fail
    refine (unless_no _).mono ?_
    rintro r w3 ⟨rfl, rfl⟩
    unfold gaveUp
    go_wp2_with fail
    exact ⟨rfl, HB2.out, .inl ⟨HF2.out, rfl⟩⟩
end Go.Proofs.Ytolgpnaoaodepaa
