/- The walks of common and basement. -/
import Derived.Test.YtolgpnaoaodepaaGreatLawAm
import Derived.Deep.RegionHeld3
import Derived.Test.YtolgpnaoaodepaaGreatMathCm
namespace Go.Proofs.YtolgpnaoaodepaaGreat
open Go.RowKit
set_option maxHeartbeats 400000 in
theorem refCommon_any (s t : ByteArray) (w : World) (hs : s.size ≤ 35184372088832) :
    Calls Tryz.prog 145 #[.string s, .string t] w fun r w' => r = .returned (.int .i64 (Pg.common s.data.toList t.data.toList)) ∧ ∃ q, w' = w.drewN q := by
  go_enter Tryz.func145, Tryz.ntmps145
  go_wp2
  go_loopw [5] (fun i wr => ∃ k : Nat, k ≤ s.size ∧ k ≤ t.size ∧ i = .int .i64 k ∧ (∀ j, j < k → ∃ x, s.data.toList[j]? = some x ∧ t.data.toList[j]? = some x) ∧ ∃ q, wr = w.drewN q) (fun i _ => s.size - (intOf i).toNat)
  case atStart => exact ⟨0, Nat.zero_le _, Nat.zero_le _, rfl, fun j h => by omega, 0, rfl⟩
  case round =>
    obtain ⟨k, hk1, hk2, rfl, hj, q, rfl⟩ := hrel
    have HJ := hid hj
    clear hj
    by_cases hlt : k < s.size
    · by_cases hlt2 : k < t.size
      · have h1 : (k : Int) < (s.size : Int) := by omega
        have h2 : (k : Int) < (t.size : Int) := by omega
        go_wp2
        go_quiet (fail)
        go_wp2
        · have hb := byte_eq2 s t k hlt hlt2 (by assumption)
          go_roundw
          case rel =>
            refine ⟨k + 1, by omega, by omega, by go_num, fun j hj => ?_, _, rfl⟩
            by_cases ej : j = k
            · rw [ej]; exact hb
            · exact HJ.out j (by omega)
          case measure => simp [intOf]; omega
        · have hb := byte_ne2 s t k hlt hlt2 (by assumption)
          go_ret
          exact ⟨ret_int (by rw [Pg.common_stop k _ _ HJ.out (.inr (.inr hb))]), _, World.drewN_drewN _ _ _⟩
      · have h1 : (k : Int) < (s.size : Int) := by omega
        have hd : decide ((k : Int) < (t.size : Int)) = false := by simp; omega
        have HF := hid (Pg.common_stop k s.data.toList t.data.toList HJ.out (.inr (.inl (by rw [len_size]; omega))))
        go_wp2
        go_quiet (fail)
        go_wp2
        go_ret
        exact ⟨ret_int (by rw [HF.out]), _, World.drewN_drewN _ _ _⟩
    · have hd : decide ((k : Int) < (s.size : Int)) = false := by simp; omega
      have HF := hid (Pg.common_stop k s.data.toList t.data.toList HJ.out (.inl (by rw [len_size]; omega)))
      go_wp2
      go_quiet (fail)
      go_wp2
      go_ret
      exact ⟨ret_int (by rw [HF.out]), _, World.drewN_drewN _ _ _⟩
theorem text_drop (s : ByteArray) (k : Nat) (w : World) (hs : s.size ≤ 35184372088832) :
    Calls Tryz.prog 85 #[.string (s.extract k s.size)] w fun r w' => r = .returned (.string ⟨(Pg.text (s.data.toList.drop k)).toArray⟩) ∧ Below w.heap.size w w' := by
  have := text_any (s.extract k s.size) w (by rw [ByteArray.size_extract]; omega)
  rw [drop_data] at this; exact this
set_option maxHeartbeats 2000000 in
theorem basement_any (b off cap : Nat) (l : List (ByteArray × ByteArray)) (w : World) (hl : l.length ≤ 1000) (hit : ItemsAt w b off l) (hb : b < w.heap.size) (hsz : ∀ x ∈ l, x.1.size ≤ 10000000 ∧ x.2.size ≤ 10000000) :
    Calls Tryz.prog 91 #[.slice (some ⟨b, off, none⟩) l.length cap] w fun r w' => r = .returned (.string ⟨(Pg.basement (plain l)).toArray⟩) ∧ Below w.heap.size w w' := by
  have HIT := hid hit
  have HSZ := hid hsz
  clear hit hsz
  go_enter Tryz.func91, Tryz.ntmps91
  go_wp2_with fail
  refine (low_any l.length 1 _ (by omega) (by omega)).mono ?_
  rintro r w1 ⟨rfl, hb1⟩
  have HB1 := hid hb1
  have hl1 := Pg.low_len 1 l.length
  have HST : Hid (Pg.low l.length 1 ++ Pg.items [] (plain l) = Pg.basement (plain l)) := by show _ = _; unfold Pg.basement plain; rw [List.length_map]
  clear hb1
  generalize Pg.low l.length 1 = lw at *
  go_wp2_with fail
  go_loopw [3, 4, 5] (fun s last i wr => ∃ (k : Nat) (sb lb : ByteArray), k ≤ l.length ∧ i = .int .i64 k ∧ s = .string sb ∧ last = .string lb ∧ lb.size ≤ 10000000 ∧ sb.size ≤ 1 + k * 20000100 ∧ sb.data.toList ++ Pg.items lb.data.toList (plain (l.drop k)) = Pg.basement (plain l) ∧ Below w.heap.size w wr) (fun _ _ i _ => l.length - (intOf i).toNat)
  case atStart => exact ⟨0, ⟨lw.toArray⟩, ⟨#[]⟩, Nat.zero_le _, rfl, rfl, rfl, by decide, by rw [size_mk]; omega, by simpa using HST.out, HB1.out⟩
  case round =>
    obtain ⟨k, sb, lb, hk, rfl, rfl, rfl, hlb, hsb, heq, hbel⟩ := hrel
    have HEQ := hid heq
    have HBEL := hid hbel
    have hszr := hbel.size
    clear heq hbel
    by_cases hkl : k < l.length
    · obtain ⟨c0, c1⟩ := HIT.out.below HBEL.out hb k hkl
      have hs2 := HSZ.out _ (List.getElem_mem hkl)
      have HNX : Hid (plain (l.drop k) = ((l[k]'hkl).1.data.toList, (l[k]'hkl).2.data.toList) :: plain (l.drop (k + 1))) := by
        show _ = _; rw [List.drop_eq_getElem_cons hkl]; rfl
      generalize l[k]'hkl = x at *
      obtain ⟨kb, vb⟩ := x
      simp only at c0 c1 hs2
      go_wp2_with fail
      refine (refCommon_any lb kb _ (by omega)).mono ?_
      rintro r w2 ⟨rfl, q, rfl⟩
      have hcm := Pg.common_le lb.data.toList kb.data.toList
      rw [len_size, len_size] at hcm
      have HIS : Hid (Pg.items lb.data.toList (plain (l.drop k)) = Pg.low (Pg.common lb.data.toList kb.data.toList) 1 ++ Pg.text (kb.data.toList.drop (Pg.common lb.data.toList kb.data.toList)) ++ Pg.text vb.data.toList ++ Pg.items kb.data.toList (plain (l.drop (k + 1)))) := by
        show _ = _; rw [HNX.out]; rfl
      generalize Pg.common lb.data.toList kb.data.toList = cm at *
      have hi1 : (0 : Int) ≤ (cm : Int) := by omega
      have hi2 : (cm : Int) ≤ (kb.size : Int) := by omega
      go_wp2_with fail
      have hbr : b < wr.heap.size := by omega
      have hlc := Pg.low_len 1 cm
      have ht1 := text_len (kb.data.toList.drop cm) (by rw [List.length_drop, len_size]; omega)
      rw [List.length_drop, len_size] at ht1
      have ht2 := text_len vb.data.toList (by rw [len_size]; omega)
      rw [len_size] at ht2
      have hkb := hs2.1
      have hvb := hs2.2
      have z1 : (⟨(Pg.low cm 1).toArray⟩ : ByteArray).size = 1 := (size_mk _).trans hlc
      have z2 := size_mk (Pg.text (kb.data.toList.drop cm))
      have z3 := size_mk (Pg.text vb.data.toList)
      have e1 : ∀ w, (Op.stringOp .add sb ⟨(Pg.low cm 1).toArray⟩).run Tryz.prog w = .ok (.string (sb ++ ⟨(Pg.low cm 1).toArray⟩)) w := fun w => run_string_add_sum w _ _ (by omega)
      have e2 : ∀ w, (Op.stringOp .add (sb ++ ⟨(Pg.low cm 1).toArray⟩) ⟨(Pg.text (kb.data.toList.drop cm)).toArray⟩).run Tryz.prog w = .ok (.string (sb ++ ⟨(Pg.low cm 1).toArray⟩ ++ ⟨(Pg.text (kb.data.toList.drop cm)).toArray⟩)) w := fun w => run_string_add_sum w _ _ (by rw [ByteArray.size_append']; omega)
      have e3 : ∀ w, (Op.stringOp .add (sb ++ ⟨(Pg.low cm 1).toArray⟩ ++ ⟨(Pg.text (kb.data.toList.drop cm)).toArray⟩) ⟨(Pg.text vb.data.toList).toArray⟩).run Tryz.prog w = .ok (.string (sb ++ ⟨(Pg.low cm 1).toArray⟩ ++ ⟨(Pg.text (kb.data.toList.drop cm)).toArray⟩ ++ ⟨(Pg.text vb.data.toList).toArray⟩)) w := fun w => run_string_add_sum w _ _ (by rw [ByteArray.size_append', ByteArray.size_append']; omega)
      clear z1 z2 z3
      have hq1 : (wr.drewN (q + 1)).heap.size = wr.heap.size := rfl
      go_region_held3 (fun w' => w'.cell? ⟨b, off + k * 2 + 1, none⟩ = some (.string vb)) (go_keep)
        (first
          | (go_at_call 89; refine (low_any cm 1 _ (by omega) (by omega)).mono ?_; rintro r w3 ⟨rfl, hb3⟩; have c3 := (hb3.cell (p := ⟨b, off + k * 2 + 1, none⟩) (by exact hbr)).trans c1; have HBa := hid ((below_drewN HBEL.out (q + 1)).trans (hb3.mono hszr)); have hz3 : w.heap.size ≤ w3.heap.size := HBa.out.size; clear hb3)
          | (go_at_call_of 85 (Value.string vb); refine (text_any vb _ (by omega)).mono ?_; rintro r w5 ⟨rfl, hb5⟩; have c5 := (hb5.cell (p := ⟨b, off + k * 2 + 1, none⟩) (Nat.lt_of_lt_of_le hb hz4)).trans c4; have HBc := hid (HBb.out.trans (hb5.mono hz4)); clear hb5)
          | (go_at_call 85; refine (text_drop kb cm _ (by omega)).mono ?_; rintro r w4 ⟨rfl, hb4⟩; have c4 := (hb4.cell (p := ⟨b, off + k * 2 + 1, none⟩) (Nat.lt_of_lt_of_le hb hz3)).trans c3; have HBb := hid (HBa.out.trans (hb4.mono hz3)); have hz4 : w.heap.size ≤ w4.heap.size := HBb.out.size; clear hb4))
      all_goals go_wp2_with fail
      go_roundw
      case rel =>
        refine ⟨k + 1, _, kb, by omega, by go_num, rfl, rfl, hkb, ?_, ?_, HBc.out⟩
        · simp only [ByteArray.size_append', size_mk]; omega
        · rw [← HEQ.out, HIS.out]; simp
      case measure => simp [intOf]; omega
    · have HF : Hid (sb.data.toList = Pg.basement (plain l)) := by
        show _ = _; rw [← HEQ.out, List.drop_eq_nil_of_le (by omega)]; simp [plain, Pg.items]
      go_wp2_with fail
      go_ret
      exact ⟨ret_str (by rw [HF.out]), HBEL.out⟩
end Go.Proofs.YtolgpnaoaodepaaGreat
/- The walk of Page, of leaves. -/
namespace Go.Proofs.YtolgpnaoaodepaaGreat
open Go.RowKit
theorem basement_n (b off cap n : Nat) (l : List (ByteArray × ByteArray)) (w : World) (hn : l.length = n) (hl : l.length ≤ 1000) (hit : ItemsAt w b off l) (hb : b < w.heap.size) (hsz : ∀ x ∈ l, x.1.size ≤ 10000000 ∧ x.2.size ≤ 10000000) :
    Calls Tryz.prog 91 #[.slice (some ⟨b, off, none⟩) n cap] w fun r w' => r = .returned (.string ⟨(Pg.basement (plain l)).toArray⟩) ∧ Below w.heap.size w w' := by
  subst hn; exact basement_any b off cap l w hl hit hb hsz
theorem sectionB_any (c : List UInt8) (w : World) (hs : c.length ≤ 4398046511104) :
    Calls Tryz.prog 86 #[.string ⟨#[98]⟩, .string ⟨c.toArray⟩] w fun r w' => r = .returned (.string ⟨(Pg.section_ [98] c).toArray⟩) ∧ Below w.heap.size w w' := by
  have := section_any ⟨#[98]⟩ ⟨c.toArray⟩ w (by decide) (by rw [size_mk]; exact hs)
  simpa using this
set_option maxHeartbeats 1500000 in
set_option maxRecDepth 100000 in
theorem pageLeaf_any (k : Int) (v c2 c3 c4 : Value) (l : List (ByteArray × ByteArray)) (w : World) (hk : k ≠ 2) (hv : IsItems w v l) (hl : l.length ≤ 16) (hsz : ∀ x ∈ l, x.1.size ≤ 12 ∧ x.2.size ≤ 16) :
    Calls Tryz.prog 48 #[.agg #[.int .i64 k, v, c2, c3, c4]] w fun r w' => r = .returned (.string ⟨(Pg.leaf (plain l)).toArray⟩) ∧ Below w.heap.size w w' := by
  have HSZ := hid hsz
  clear hsz
  have hk2 : (k == 2) = false := by simpa using hk
  rcases hv with ⟨va, vc, rfl, rfl⟩ | ⟨b, off, cap, rfl, hcap, hcap2, hbw, hit⟩
  · go_enter Tryz.func48, Tryz.ntmps48
    go_wp2_with fail
    go_loop [3, 9, 10, 11] (fun a b c i => a = .string ⟨#[]⟩ ∧ b = .string ⟨#[]⟩ ∧ c = .int .i64 0 ∧ i = .int .i64 0) (fun _ _ _ _ => 0)
    case atStart => exact ⟨rfl, rfl, rfl, rfl⟩
    case round =>
      obtain ⟨rfl, rfl, rfl, rfl⟩ := hrel
      have HBT := hid ((Below.refl w.heap.size w).alloc (Nat.le_refl _) (.cells #[.int .i64 k, .slice va 0 vc, c2, c3, c4] 79))
      go_wp2_with fail
      refine (low_any 0 1 _ (by omega) (by omega)).mono ?_
      rintro r w3 ⟨rfl, hb3⟩
      have HB3 := hid (HBT.out.trans (hb3.mono (by simp)))
      have hsz3 := HB3.out.size
      clear hb3
      have HFN : Hid (Pg.leaf (plain []) = Pg.sealed ([83, 50, 76] ++ Pg.low 0 1 ++ List.replicate 60 0)) := by
        show _ = _
        unfold Pg.leaf
        simp [plain, Pg.many, Pg.entries, Pg.bases]
      have hl3 := Pg.low_len 1 0
      generalize Pg.low 0 1 = l1 at *
      go_wp2_with fail
      refine (noughts_any 60 _ (by omega)).mono ?_
      rintro r w5 ⟨rfl, hb5⟩
      have HB5 := hid (HB3.out.trans (hb5.mono hsz3))
      have hsz5 := HB5.out.size
      clear hb5
      have hl5 : (List.replicate 60 (0 : UInt8)).length = 60 := List.length_replicate
      generalize List.replicate 60 (0 : UInt8) = ns at *
      go_wp2_with fail
      refine (sealed_any _ _ (by simp only [ByteArray.size_append', size_mk, List.length_cons, List.length_nil]; omega)).mono ?_
      rintro r w6 ⟨rfl, hb6⟩
      have HB6 := hid (HB5.out.trans (hb6.mono hsz5))
      clear hb6
      have hl6 := Pg.seal_len ((⟨#[83, 50, 76]⟩ : ByteArray) ++ ⟨l1.toArray⟩ ++ ⟨#[]⟩ ++ ⟨ns.toArray⟩).data.toList
      rw [len_size] at hl6
      simp only [ByteArray.size_append', size_mk, List.length_cons, List.length_nil] at hl6
      generalize hse : Pg.sealed ((⟨#[83, 50, 76]⟩ : ByteArray) ++ ⟨l1.toArray⟩ ++ ⟨#[]⟩ ++ ⟨ns.toArray⟩).data.toList = se at *
      have HSE := hid hse
      clear hse
      go_wp2_with fail
      go_ret
      refine ⟨ret_str ?_, HB6.out⟩
      rw [HFN.out]
      show (_ : ByteArray).data.toList = _
      simp only [ByteArray.data_append, Array.toList_append]
      rw [← HSE.out]; simp
  · have HIT := hid hit
    clear hit
    go_enter Tryz.func48, Tryz.ntmps48
    go_wp2_with fail
    go_loopw [3, 9, 10, 11] (fun rs hd mn at_ wr => ∃ (m : Nat) (rb hb : ByteArray), m ≤ 4 ∧ 4 * m < l.length + 4 ∧ at_ = .int .i64 (4 * m : Nat) ∧ mn = .int .i64 m ∧ rs = .string rb ∧ hd = .string hb ∧ hb.size = 15 * m ∧ rb.size ≤ 1000 * m ∧ m ≤ Pg.many l.length ∧ hb.data.toList ++ Pg.entries (Pg.many l.length - m) (plain (l.drop (4 * m))) = Pg.entries (Pg.many l.length) (plain l) ∧ rb.data.toList ++ Pg.bases (Pg.many l.length - m) (plain (l.drop (4 * m))) = Pg.bases (Pg.many l.length) (plain l) ∧ Below (w.heap.size + 1) (w.alloc (.cells #[.int .i64 k, .slice (some ⟨b, off, none⟩) l.length cap, c2, c3, c4] 79)) wr) (fun _ _ _ a _ => 20 - (intOf a).toNat)
    case atStart => exact ⟨0, ⟨#[]⟩, ⟨#[]⟩, by omega, by omega, rfl, rfl, rfl, rfl, rfl, by decide, by omega, by simp, by simp, Below.refl _ _⟩
    case round =>
      obtain ⟨m, rb, hb, hm4, hml, rfl, rfl, rfl, rfl, hhb, hrb, hmm, heq1, heq2, hbel⟩ := hrel
      have HE1 := hid heq1
      have HE2 := hid heq2
      have HBEL := hid hbel
      have hcn : wr.cell? ⟨w.heap.size, 1, none⟩ = some (.slice (some ⟨b, off, none⟩) l.length cap) := by
        rw [hbel.cell (p := ⟨w.heap.size, 1, none⟩) (by simp)]; simp
      have hszr := hbel.size
      simp only [World.size_alloc] at hszr
      clear heq1 heq2 hbel
      by_cases hlt : 4 * m < l.length
      · have HITr : Hid (ItemsAt wr b off l) := by
          have h1 : ItemsAt (w.alloc (.cells #[.int .i64 k, .slice (some ⟨b, off, none⟩) l.length cap, c2, c3, c4] 79)) b off l := HIT.out.below ((Below.refl w.heap.size w).alloc (Nat.le_refl _) _) hbw
          exact h1.below HBEL.out (by omega)
        have hmy : Pg.many l.length - m = (Pg.many l.length - (m + 1)) + 1 ∧ m + 1 ≤ Pg.many l.length := by unfold Pg.many at *; omega
        have hne : plain (l.drop (4 * m)) ≠ [] := by
          intro e; have : (plain (l.drop (4 * m))).length = 0 := by rw [e]; rfl
          simp [plain] at this; omega
        have HN1 := hid (entries_next (Pg.many l.length - (m + 1)) _ hne)
        have HN2 := hid (bases_next (Pg.many l.length - (m + 1)) _ hne)
        have HDR : Hid ((plain (l.drop (4 * m))).drop 4 = plain (l.drop (4 * (m + 1)))) := by
          show _ = _; rw [← plain_drop, List.drop_drop]; rfl
        obtain ⟨kb, vb, hx⟩ : ∃ kb vb, l[4 * m]? = some (kb, vb) := ⟨(l[4 * m]'hlt).1, (l[4 * m]'hlt).2, List.getElem?_eq_getElem hlt⟩
        have hxk : (l[4 * m]'hlt) = (kb, vb) := by rw [List.getElem?_eq_getElem hlt] at hx; simpa using hx
        have hck := (HITr.out (4 * m) hlt).1
        rw [hxk] at hck
        have hkz : kb.size ≤ 12 := by have := (HSZ.out _ (List.getElem_mem hlt)).1; rw [hxk] at this; exact this
        have HEN : Hid (Pg.entry (plain (l.drop (4 * m))) = Pg.low (Pg.base (plain (l.drop (4 * m)))).length 2 ++ Pg.low kb.size 1 ++ kb.data.toList ++ List.replicate (12 - kb.size) 0) := by
          show _ = _
          have : plain (l.drop (4 * m)) = (kb.data.toList, vb.data.toList) :: plain (l.drop (4 * m + 1)) := by rw [List.drop_eq_getElem_cons hlt, hxk]; rfl
          rw [this]; simp only [Pg.entry, len_size]
        have HCB : Hid (Pg.base (plain (l.drop (4 * m))) = Pg.section_ [98] (Pg.basement (plain ((l.drop (4 * m)).take 4)))) := by
          show _ = _; unfold Pg.base; rw [plain_take]
        have hcsz : ∀ x ∈ (l.drop (4 * m)).take 4, x.1.size ≤ 12 ∧ x.2.size ≤ 16 := fun x hx => HSZ.out x (List.mem_of_mem_drop (List.mem_of_mem_take hx))
        have hbl := Pg.basement_len _ (plain_sz hcsz)
        have hcl : (plain ((l.drop (4 * m)).take 4)).length ≤ 4 := by simp [plain]; omega
        have hsl := Pg.section_len [98] (Pg.basement (plain ((l.drop (4 * m)).take 4))) (by omega)
        simp only [List.length_cons, List.length_nil] at hsl
        have HCSZ := hid hcsz
        have HPA := hid (HITr.out.part (4 * m) 4)
        clear hcsz hx hxk hne HITr
        have hmy1 := hmy.2
        have HMY := hid hmy.1
        clear hmy
        have hbr : b < wr.heap.size := by omega
        have hch : ((l.drop (4 * m)).take 4).length = min 4 (l.length - 4 * m) := by simp
        have HCH := hid hch
        clear hch
        generalize (l.drop (4 * m)).take 4 = ch at *
        by_cases hful : 4 * m + 4 ≤ l.length
        all_goals
          go_wp2_with fail
          refine (basement_n b (off + 4 * m * 2) (cap - 4 * m) _ ch _ (by rw [HCH.out]; omega) (by rw [HCH.out]; omega) HPA.out hbr (fun x hx => by have := HCSZ.out x hx; omega)).mono ?_
          rintro r w1 ⟨rfl, hb1⟩
          have hsz1 := hb1.size
          have HB1 := hid hb1
          clear hb1
          generalize Pg.basement (plain ch) = bs at *
          go_wp2_with fail
          refine (sectionB_any bs _ (by omega)).mono ?_
          rintro r w2 ⟨rfl, hb2⟩
          have hb12 := HB1.out.trans (hb2.mono hsz1)
          have hcn2 := (hb12.cell (p := ⟨w.heap.size, 1, none⟩) (by simp; omega)).trans hcn
          have hck2 := (hb12.cell (p := ⟨b, off + 4 * m * 2, none⟩) hbr).trans hck
          have HB2 := hid (HBEL.out.trans (hb12.mono hszr))
          have hsz2 := HB2.out.size
          simp only [World.size_alloc] at hsz2
          clear hb2 hb12 hcn hck
          rw [HCB.out] at HEN HN2
          generalize Pg.section_ [98] bs = se at *
          go_wp2_with fail
          refine (low_any se.length 2 _ (by omega) (by omega)).mono ?_
          rintro r w3 ⟨rfl, hb3⟩
          have HB3 := hid (HB2.out.trans (hb3.mono hsz2))
          have hsz3 := HB3.out.size
          simp only [World.size_alloc] at hsz3
          clear hb3 hcn2 hck2
          have hl3 := Pg.low_len 2 se.length
          generalize Pg.low se.length 2 = l2 at *
          go_wp2_with fail
          refine (low_any kb.size 1 _ (by omega) (by omega)).mono ?_
          rintro r w4 ⟨rfl, hb4⟩
          have HB4 := hid (HB3.out.trans (hb4.mono hsz3))
          have hsz4 := HB4.out.size
          simp only [World.size_alloc] at hsz4
          clear hb4
          have hl4 := Pg.low_len 1 kb.size
          generalize Pg.low kb.size 1 = l1 at *
          go_wp2_with fail
          rw [show ((12 : Int) - (kb.size : Int)) = ((12 - kb.size : Nat) : Int) by omega]
          refine (noughts_any (12 - kb.size) _ (by omega)).mono ?_
          rintro r w5 ⟨rfl, hb5⟩
          have HB5 := hid (HB4.out.trans (hb5.mono hsz4))
          clear hb5
          have hl5 : (List.replicate (12 - kb.size) (0 : UInt8)).length = 12 - kb.size := List.length_replicate
          generalize List.replicate (12 - kb.size) (0 : UInt8) = ns at *
          go_wp2_with fail
          go_roundw
          case rel =>
            refine ⟨m + 1, _, _, by omega, by omega, int_eq (by omega), by go_num, rfl, rfl, ?_, ?_, hmy1, ?_, ?_, HB5.out⟩
            · simp only [ByteArray.size_append', size_mk]; omega
            · simp only [ByteArray.size_append', size_mk]; omega
            · rw [← HE1.out, HMY.out, HN1.out, HEN.out, HDR.out]; simp
            · rw [← HE2.out, HMY.out, HN2.out, HDR.out]; simp
          case measure => simp [intOf]; omega
      · have hmE : m = Pg.many l.length := by unfold Pg.many at *; omega
        have HFN : Hid (Pg.leaf (plain l) = Pg.sealed ([83, 50, 76] ++ Pg.low m 1 ++ hb.data.toList ++ List.replicate (60 - hb.size) 0) ++ rb.data.toList) := by
          have h1 := HE1.out
          have h2 := HE2.out
          rw [hmE, Nat.sub_self] at h1 h2
          simp only [Pg.entries, Pg.bases, List.append_nil] at h1 h2
          have h3 : (plain l).length = l.length := by simp [plain]
          show _ = _
          unfold Pg.leaf
          rw [h3, ← h1, ← h2, len_size, hmE]
        have HBT := hid (((Below.refl w.heap.size w).alloc (Nat.le_refl _) (.cells #[.int .i64 k, .slice (some ⟨b, off, none⟩) l.length cap, c2, c3, c4] 79)).trans (HBEL.out.mono (by omega)))
        have hszT := HBT.out.size
        have hhb1 : hb.size ≤ 60 := by omega
        clear hmE hhb
        go_wp2_with fail
        refine (low_any m 1 _ (by omega) (by omega)).mono ?_
        rintro r w3 ⟨rfl, hb3⟩
        have HB3 := hid (HBT.out.trans (hb3.mono hszT))
        have hsz3 := HB3.out.size
        clear hb3
        have hl3 := Pg.low_len 1 m
        generalize Pg.low m 1 = l1 at *
        go_wp2_with fail
        rw [show ((60 : Int) - (hb.size : Int) : Int) = ((60 - hb.size : Nat) : Int) by omega]
        refine (noughts_any (60 - hb.size) _ (by omega)).mono ?_
        rintro r w5 ⟨rfl, hb5⟩
        have HB5 := hid (HB3.out.trans (hb5.mono hsz3))
        have hsz5 := HB5.out.size
        clear hb5
        have hl5 : (List.replicate (60 - hb.size) (0 : UInt8)).length = 60 - hb.size := List.length_replicate
        generalize List.replicate (60 - hb.size) (0 : UInt8) = ns at *
        go_wp2_with fail
        refine (sealed_any _ _ (by simp only [ByteArray.size_append', size_mk, List.length_cons, List.length_nil]; omega)).mono ?_
        rintro r w6 ⟨rfl, hb6⟩
        have HB6 := hid (HB5.out.trans (hb6.mono hsz5))
        clear hb6
        have hl6 := Pg.seal_len ((⟨#[83, 50, 76]⟩ : ByteArray) ++ ⟨l1.toArray⟩ ++ hb ++ ⟨ns.toArray⟩).data.toList
        rw [len_size] at hl6
        simp only [ByteArray.size_append', size_mk, List.length_cons, List.length_nil] at hl6
        generalize hse : Pg.sealed ((⟨#[83, 50, 76]⟩ : ByteArray) ++ ⟨l1.toArray⟩ ++ hb ++ ⟨ns.toArray⟩).data.toList = se at *
        have HSE := hid hse
        clear hse
        go_wp2_with fail
        go_ret
        refine ⟨ret_str ?_, HB6.out⟩
        rw [HFN.out, ← HSE.out]; simp
end Go.Proofs.YtolgpnaoaodepaaGreat
/- The walk of Old, of leaves. -/
namespace Go.Proofs.YtolgpnaoaodepaaGreat
open Go.RowKit
set_option maxHeartbeats 1500000 in
set_option maxRecDepth 100000 in
theorem oldLeaf_any (v c2 c3 c4 : Value) (l : List (ByteArray × ByteArray)) (w : World) (hv : IsItems w v l) (hl : l.length ≤ 16) (hsz : ∀ x ∈ l, x.1.size ≤ 12 ∧ x.2.size ≤ 16) :
    Calls Tryz.prog 49 #[.agg #[.int .i64 1, v, c2, c3, c4]] w fun r w' => r = .returned (.string ⟨(Pg.oldLeaf (plain l)).toArray⟩) ∧ Below w.heap.size w w' := by
  have HSZ := hid hsz
  have HV := hid hv
  clear hsz
  obtain ⟨va, vc, rfl⟩ : ∃ a cap, v = .slice a l.length cap := by
    rcases hv with ⟨va, vc, rfl, rfl⟩ | ⟨b, off, cap, rfl, _⟩
    · exact ⟨va, vc, rfl⟩
    · exact ⟨_, _, rfl⟩
  clear hv
  go_enter Tryz.func49, Tryz.ntmps49
  go_wp2_with fail
  refine (low_any l.length 1 _ (by omega) (by omega)).mono ?_
  rintro r w1 ⟨rfl, hb1⟩
  have HB1 := hid hb1
  clear hb1
  have hl1 := Pg.low_len 1 l.length
  have HST : Hid (Pg.oldLeaf (plain l) = Pg.sealed ([83, 49, 76] ++ Pg.low l.length 1 ++ Pg.oldItems (plain l))) := by
    show _ = _; unfold Pg.oldLeaf; rw [show (plain l).length = l.length by simp [plain]]
  generalize Pg.low l.length 1 = lw at *
  go_wp2_with fail
  go_loopw [3, 4] (fun s i wr => ∃ (k : Nat) (sb : ByteArray), k ≤ l.length ∧ i = .int .i64 k ∧ s = .string sb ∧ sb.size ≤ 4 + k * 100 ∧ sb.data.toList ++ Pg.oldItems (plain (l.drop k)) = [83, 49, 76] ++ lw ++ Pg.oldItems (plain l) ∧ Below (w.heap.size + 1) (w.alloc (.cells #[.int .i64 1, .slice va l.length vc, c2, c3, c4] 79)) wr) (fun _ i _ => l.length - (intOf i).toNat)
  case atStart => exact ⟨0, _, Nat.zero_le _, rfl, rfl, by simp only [ByteArray.size_append', size_mk, List.length_cons, List.length_nil]; omega, by simp, by simpa using HB1.out⟩
  case round =>
    obtain ⟨k, sb, hk, rfl, rfl, hsb, heq, hbel⟩ := hrel
    have HEQ := hid heq
    have HBEL := hid hbel
    have hcn : wr.cell? ⟨w.heap.size, 1, none⟩ = some (.slice va l.length vc) := by
      rw [hbel.cell (p := ⟨w.heap.size, 1, none⟩) (by simp)]; simp
    have hszr := hbel.size
    simp only [World.size_alloc] at hszr
    clear heq hbel
    by_cases hkl : k < l.length
    · rcases HV.out with ⟨va', vc', he, he2⟩ | ⟨b, off, cap, he, hcap, hcap2, hbw, hit⟩
      · subst he2; simp at hkl
      · obtain ⟨rfl, rfl⟩ : va = some ⟨b, off, none⟩ ∧ vc = cap := by simpa using he
        clear he
        have hitr : ItemsAt wr b off l := (hit.below ((Below.refl w.heap.size w).alloc (Nat.le_refl _) _) hbw).below HBEL.out (by omega)
        obtain ⟨c0, c1⟩ := hitr k hkl
        have hs2 := HSZ.out _ (List.getElem_mem hkl)
        have HNX : Hid (plain (l.drop k) = ((l[k]'hkl).1.data.toList, (l[k]'hkl).2.data.toList) :: plain (l.drop (k + 1))) := by
          show _ = _; rw [List.drop_eq_getElem_cons hkl]; rfl
        clear hit hitr
        generalize l[k]'hkl = x at *
        obtain ⟨kb, vb⟩ := x
        simp only at c0 c1 hs2
        have HIS : Hid (Pg.oldItems (plain (l.drop k)) = Pg.text kb.data.toList ++ Pg.text vb.data.toList ++ Pg.oldItems (plain (l.drop (k + 1)))) := by
          show _ = _; rw [HNX.out]; rfl
        have hkb := hs2.1
        have hvb := hs2.2
        have ht1 := text_len kb.data.toList (by rw [len_size]; omega)
        have ht2 := text_len vb.data.toList (by rw [len_size]; omega)
        rw [len_size] at ht1 ht2
        have z2 := size_mk (Pg.text kb.data.toList)
        have z3 := size_mk (Pg.text vb.data.toList)
        have e1 : ∀ w, (Op.stringOp .add sb ⟨(Pg.text kb.data.toList).toArray⟩).run Tryz.prog w = .ok (.string (sb ++ ⟨(Pg.text kb.data.toList).toArray⟩)) w := fun w => run_string_add_sum w _ _ (by omega)
        have e2 : ∀ w, (Op.stringOp .add (sb ++ ⟨(Pg.text kb.data.toList).toArray⟩) ⟨(Pg.text vb.data.toList).toArray⟩).run Tryz.prog w = .ok (.string (sb ++ ⟨(Pg.text kb.data.toList).toArray⟩ ++ ⟨(Pg.text vb.data.toList).toArray⟩)) w := fun w => run_string_add_sum w _ _ (by rw [ByteArray.size_append']; omega)
        clear z2 z3
        have hbr : b < wr.heap.size := by omega
        have hnr : w.heap.size < wr.heap.size := by omega
        have hi1 : (0 : Int) ≤ (k : Int) := by omega
        have hi2 : (k : Int) < (l.length : Int) := by omega
        go_wp2_with fail
        go_region_held3 (fun w' => w'.cell? ⟨w.heap.size, 1, none⟩ = some (.slice (some ⟨b, off, none⟩) l.length vc) ∧ w'.cell? ⟨b, off + k * 2, none⟩ = some (.string kb) ∧ w'.cell? ⟨b, off + k * 2 + 1, none⟩ = some (.string vb)) (go_keep)
          (first
            | (go_at_call_of 85 (Value.string kb); go_must (refine (text_any kb _ (by omega)).mono ?_; rintro r w3 ⟨rfl, hb3⟩; have n3 := (hb3.cell (p := ⟨w.heap.size, 1, none⟩) (by exact hnr)).trans hcn; have c30 := (hb3.cell (p := ⟨b, off + k * 2, none⟩) (by exact hbr)).trans c0; have c31 := (hb3.cell (p := ⟨b, off + k * 2 + 1, none⟩) (by exact hbr)).trans c1; have HBa := hid (HBEL.out.trans ((Below.refl _ wr).drew.trans (hb3.mono hszr))); have hz3 := size_past HBa.out; clear hb3))
            | (go_at_call_of 85 (Value.string vb); refine (text_any vb _ (by omega)).mono ?_; rintro r w4 ⟨rfl, hb4⟩; have n4 := (bcell hb4 (w.heap.size) (1) (by omega)).trans n3; have c40 := (bcell hb4 (b) (off + k * 2) (by omega)).trans c30; have c41 := (bcell hb4 (b) (off + k * 2 + 1) (by omega)).trans c31; have HBb := hid (HBa.out.trans (hb4.mono hz3)); clear hb4))
        all_goals go_wp2_with fail
        go_roundw
        case rel =>
          refine ⟨k + 1, _, by omega, by go_num, rfl, ?_, ?_, HBb.out⟩
          · simp only [ByteArray.size_append', size_mk]; omega
          · rw [← HEQ.out, HIS.out]; simp
        case measure => simp [intOf]; omega
    · have HF : Hid (sb.data.toList = [83, 49, 76] ++ lw ++ Pg.oldItems (plain l)) := by
        show _ = _; rw [← HEQ.out, List.drop_eq_nil_of_le (by omega)]; simp [plain, Pg.oldItems]
      go_wp2_with fail
      refine (sealed_any sb _ (by omega)).mono ?_
      rintro r w2 ⟨rfl, hb2⟩
      have HB2 := hid ((((Below.refl w.heap.size w).alloc (Nat.le_refl _) _).trans (HBEL.out.mono (by omega))).trans (hb2.mono (by omega)))
      clear hb2
      go_wp2_with fail
      go_ret
      exact ⟨ret_str (by rw [HST.out, ← HF.out]), HB2.out⟩
end Go.Proofs.YtolgpnaoaodepaaGreat
/- The walks of high and of a cursor's methods. -/
namespace Go.Proofs.YtolgpnaoaodepaaGreat
open Go.RowKit
end Go.Proofs.YtolgpnaoaodepaaGreat
