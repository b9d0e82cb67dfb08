/- The walk of Page, of leaves. -/
import Derived.Test.YtolgpnaoaodepaaGreatRefC
import Derived.Test.YtolgpnaoaodepaaGreatMathC
namespace Go.Proofs.YtolgpnaoaodepaaGreat
open Go.RowKit
theorem basement_n (b off cap n : Nat) (l : List (ByteArray × ByteArray)) (w : World) (hn : l.length = n) (hl : l.length ≤ 1000) (hit : ItemsAt w b off l) (hb : b < w.heap.size) (hsz : ∀ x ∈ l, x.1.size ≤ 10000000 ∧ x.2.size ≤ 10000000) :
    Calls Tryz.prog 91 #[.slice (some ⟨b, off, none⟩) n cap] w fun r w' => r = .returned (.string ⟨(Pg.basement (plain l)).toArray⟩) ∧ Below w.heap.size w w' := by
  subst hn; exact basement_any b off cap l w hl hit hb hsz
theorem sectionB_any (c : List UInt8) (w : World) (hs : c.length ≤ 4398046511104) :
    Calls Tryz.prog 86 #[.string ⟨#[98]⟩, .string ⟨c.toArray⟩] w fun r w' => r = .returned (.string ⟨(Pg.section_ [98] c).toArray⟩) ∧ Below w.heap.size w w' := by
  have := section_any ⟨#[98]⟩ ⟨c.toArray⟩ w (by decide) (by rw [size_mk]; exact hs)
  simpa using this
set_option maxHeartbeats 1500000 in
set_option maxRecDepth 100000 in
theorem pageLeaf_any (k : Int) (v c2 c3 c4 : Value) (l : List (ByteArray × ByteArray)) (w : World) (hk : k ≠ 2) (hv : IsItems w v l) (hl : l.length ≤ 16) (hsz : ∀ x ∈ l, x.1.size ≤ 12 ∧ x.2.size ≤ 16) :
    Calls Tryz.prog 48 #[.agg #[.int .i64 k, v, c2, c3, c4]] w fun r w' => r = .returned (.string ⟨(Pg.leaf (plain l)).toArray⟩) ∧ Below w.heap.size w w' := by
  have HSZ := hid hsz
  clear hsz
  have hk2 : (k == 2) = false := by simpa using hk
  rcases hv with ⟨va, vc, rfl, rfl⟩ | ⟨b, off, cap, rfl, hcap, hcap2, hbw, hit⟩
  · go_enter Tryz.func48, Tryz.ntmps48
    go_wp2_with fail
    go_loop [3, 9, 10, 11] (fun a b c i => a = .string ⟨#[]⟩ ∧ b = .string ⟨#[]⟩ ∧ c = .int .i64 0 ∧ i = .int .i64 0) (fun _ _ _ _ => 0)
    case atStart => exact ⟨rfl, rfl, rfl, rfl⟩
    case round =>
      obtain ⟨rfl, rfl, rfl, rfl⟩ := hrel
      have HBT := hid ((Below.refl w.heap.size w).alloc (Nat.le_refl _) (.cells #[.int .i64 k, .slice va 0 vc, c2, c3, c4] 79))
      go_wp2_with fail
      refine (low_any 0 1 _ (by omega) (by omega)).mono ?_
      rintro r w3 ⟨rfl, hb3⟩
      have HB3 := hid (HBT.out.trans (hb3.mono (by simp)))
      have hsz3 := HB3.out.size
      clear hb3
      have HFN : Hid (Pg.leaf (plain []) = Pg.sealed ([83, 50, 76] ++ Pg.low 0 1 ++ List.replicate 60 0)) := by
        show _ = _
        unfold Pg.leaf
        simp [plain, Pg.many, Pg.entries, Pg.bases]
      have hl3 := Pg.low_len 1 0
      generalize Pg.low 0 1 = l1 at *
      go_wp2_with fail
      refine (noughts_any 60 _ (by omega)).mono ?_
      rintro r w5 ⟨rfl, hb5⟩
      have HB5 := hid (HB3.out.trans (hb5.mono hsz3))
      have hsz5 := HB5.out.size
      clear hb5
      have hl5 : (List.replicate 60 (0 : UInt8)).length = 60 := List.length_replicate
      generalize List.replicate 60 (0 : UInt8) = ns at *
      go_wp2_with fail
      refine (sealed_any _ _ (by simp only [ByteArray.size_append', size_mk, List.length_cons, List.length_nil]; omega)).mono ?_
      rintro r w6 ⟨rfl, hb6⟩
      have HB6 := hid (HB5.out.trans (hb6.mono hsz5))
      clear hb6
      have hl6 := Pg.seal_len ((⟨#[83, 50, 76]⟩ : ByteArray) ++ ⟨l1.toArray⟩ ++ ⟨#[]⟩ ++ ⟨ns.toArray⟩).data.toList
      rw [len_size] at hl6
      simp only [ByteArray.size_append', size_mk, List.length_cons, List.length_nil] at hl6
      generalize hse : Pg.sealed ((⟨#[83, 50, 76]⟩ : ByteArray) ++ ⟨l1.toArray⟩ ++ ⟨#[]⟩ ++ ⟨ns.toArray⟩).data.toList = se at *
      have HSE := hid hse
      clear hse
      go_wp2_with fail
      go_ret
      refine ⟨ret_str ?_, HB6.out⟩
      rw [HFN.out]
      show (_ : ByteArray).data.toList = _
      simp only [ByteArray.data_append, Array.toList_append]
      rw [← HSE.out]; simp
  · have HIT := hid hit
    clear hit
    go_enter Tryz.func48, Tryz.ntmps48
    go_wp2_with fail
    go_loopw [3, 9, 10, 11] (fun rs hd mn at_ wr => ∃ (m : Nat) (rb hb : ByteArray), m ≤ 4 ∧ 4 * m < l.length + 4 ∧ at_ = .int .i64 (4 * m : Nat) ∧ mn = .int .i64 m ∧ rs = .string rb ∧ hd = .string hb ∧ hb.size = 15 * m ∧ rb.size ≤ 1000 * m ∧ m ≤ Pg.many l.length ∧ hb.data.toList ++ Pg.entries (Pg.many l.length - m) (plain (l.drop (4 * m))) = Pg.entries (Pg.many l.length) (plain l) ∧ rb.data.toList ++ Pg.bases (Pg.many l.length - m) (plain (l.drop (4 * m))) = Pg.bases (Pg.many l.length) (plain l) ∧ Below (w.heap.size + 1) (w.alloc (.cells #[.int .i64 k, .slice (some ⟨b, off, none⟩) l.length cap, c2, c3, c4] 79)) wr) (fun _ _ _ a _ => 20 - (intOf a).toNat)
    case atStart => exact ⟨0, ⟨#[]⟩, ⟨#[]⟩, by omega, by omega, rfl, rfl, rfl, rfl, rfl, by decide, by omega, by simp, by simp, Below.refl _ _⟩
    case round =>
      obtain ⟨m, rb, hb, hm4, hml, rfl, rfl, rfl, rfl, hhb, hrb, hmm, heq1, heq2, hbel⟩ := hrel
      have HE1 := hid heq1
      have HE2 := hid heq2
      have HBEL := hid hbel
      have hcn : wr.cell? ⟨w.heap.size, 1, none⟩ = some (.slice (some ⟨b, off, none⟩) l.length cap) := by
        rw [hbel.cell (p := ⟨w.heap.size, 1, none⟩) (by simp)]; simp
      have hszr := hbel.size
      simp only [World.size_alloc] at hszr
      clear heq1 heq2 hbel
      by_cases hlt : 4 * m < l.length
      · have HITr : Hid (ItemsAt wr b off l) := by
          have h1 : ItemsAt (w.alloc (.cells #[.int .i64 k, .slice (some ⟨b, off, none⟩) l.length cap, c2, c3, c4] 79)) b off l := HIT.out.below ((Below.refl w.heap.size w).alloc (Nat.le_refl _) _) hbw
          exact h1.below HBEL.out (by omega)
        have hmy : Pg.many l.length - m = (Pg.many l.length - (m + 1)) + 1 ∧ m + 1 ≤ Pg.many l.length := by unfold Pg.many at *; omega
        have hne : plain (l.drop (4 * m)) ≠ [] := by
          intro e; have : (plain (l.drop (4 * m))).length = 0 := by rw [e]; rfl
          simp [plain] at this; omega
        have HN1 := hid (entries_next (Pg.many l.length - (m + 1)) _ hne)
        have HN2 := hid (bases_next (Pg.many l.length - (m + 1)) _ hne)
        have HDR : Hid ((plain (l.drop (4 * m))).drop 4 = plain (l.drop (4 * (m + 1)))) := by
          show _ = _; rw [← plain_drop, List.drop_drop]; rfl
        obtain ⟨kb, vb, hx⟩ : ∃ kb vb, l[4 * m]? = some (kb, vb) := ⟨(l[4 * m]'hlt).1, (l[4 * m]'hlt).2, List.getElem?_eq_getElem hlt⟩
        have hxk : (l[4 * m]'hlt) = (kb, vb) := by rw [List.getElem?_eq_getElem hlt] at hx; simpa using hx
        have hck := (HITr.out (4 * m) hlt).1
        rw [hxk] at hck
        have hkz : kb.size ≤ 12 := by have := (HSZ.out _ (List.getElem_mem hlt)).1; rw [hxk] at this; exact this
        have HEN : Hid (Pg.entry (plain (l.drop (4 * m))) = Pg.low (Pg.base (plain (l.drop (4 * m)))).length 2 ++ Pg.low kb.size 1 ++ kb.data.toList ++ List.replicate (12 - kb.size) 0) := by
          show _ = _
          have : plain (l.drop (4 * m)) = (kb.data.toList, vb.data.toList) :: plain (l.drop (4 * m + 1)) := by rw [List.drop_eq_getElem_cons hlt, hxk]; rfl
          rw [this]; simp only [Pg.entry, len_size]
        have HCB : Hid (Pg.base (plain (l.drop (4 * m))) = Pg.section_ [98] (Pg.basement (plain ((l.drop (4 * m)).take 4)))) := by
          show _ = _; unfold Pg.base; rw [plain_take]
        have hcsz : ∀ x ∈ (l.drop (4 * m)).take 4, x.1.size ≤ 12 ∧ x.2.size ≤ 16 := fun x hx => HSZ.out x (List.mem_of_mem_drop (List.mem_of_mem_take hx))
        have hbl := Pg.basement_len _ (plain_sz hcsz)
        have hcl : (plain ((l.drop (4 * m)).take 4)).length ≤ 4 := by simp [plain]; omega
        have hsl := Pg.section_len [98] (Pg.basement (plain ((l.drop (4 * m)).take 4))) (by omega)
        simp only [List.length_cons, List.length_nil] at hsl
        have HCSZ := hid hcsz
        have HPA := hid (HITr.out.part (4 * m) 4)
        clear hcsz hx hxk hne HITr
        have hmy1 := hmy.2
        have HMY := hid hmy.1
        clear hmy
        have hbr : b < wr.heap.size := by omega
        have hch : ((l.drop (4 * m)).take 4).length = min 4 (l.length - 4 * m) := by simp
        have HCH := hid hch
        clear hch
        generalize (l.drop (4 * m)).take 4 = ch at *
        by_cases hful : 4 * m + 4 ≤ l.length
        all_goals
          go_wp2_with fail
          refine (basement_n b (off + 4 * m * 2) (cap - 4 * m) _ ch _ (by rw [HCH.out]; omega) (by rw [HCH.out]; omega) HPA.out hbr (fun x hx => by have := HCSZ.out x hx; omega)).mono ?_
          rintro r w1 ⟨rfl, hb1⟩
          have hsz1 := hb1.size
          have HB1 := hid hb1
          clear hb1
          generalize Pg.basement (plain ch) = bs at *
          go_wp2_with fail
          refine (sectionB_any bs _ (by omega)).mono ?_
          rintro r w2 ⟨rfl, hb2⟩
          have hb12 := HB1.out.trans (hb2.mono hsz1)
          have hcn2 := (hb12.cell (p := ⟨w.heap.size, 1, none⟩) (by simp; omega)).trans hcn
          have hck2 := (hb12.cell (p := ⟨b, off + 4 * m * 2, none⟩) hbr).trans hck
          have HB2 := hid (HBEL.out.trans (hb12.mono hszr))
          have hsz2 := HB2.out.size
          simp only [World.size_alloc] at hsz2
          clear hb2 hb12 hcn hck
          rw [HCB.out] at HEN HN2
          generalize Pg.section_ [98] bs = se at *
          go_wp2_with fail
          refine (low_any se.length 2 _ (by omega) (by omega)).mono ?_
          rintro r w3 ⟨rfl, hb3⟩
          have HB3 := hid (HB2.out.trans (hb3.mono hsz2))
          have hsz3 := HB3.out.size
          simp only [World.size_alloc] at hsz3
          clear hb3 hcn2 hck2
          have hl3 := Pg.low_len 2 se.length
          generalize Pg.low se.length 2 = l2 at *
          go_wp2_with fail
          refine (low_any kb.size 1 _ (by omega) (by omega)).mono ?_
          rintro r w4 ⟨rfl, hb4⟩
          have HB4 := hid (HB3.out.trans (hb4.mono hsz3))
          have hsz4 := HB4.out.size
          simp only [World.size_alloc] at hsz4
          clear hb4
          have hl4 := Pg.low_len 1 kb.size
          generalize Pg.low kb.size 1 = l1 at *
          go_wp2_with fail
          rw [show ((12 : Int) - (kb.size : Int)) = ((12 - kb.size : Nat) : Int) by omega]
          refine (noughts_any (12 - kb.size) _ (by omega)).mono ?_
          rintro r w5 ⟨rfl, hb5⟩
          have HB5 := hid (HB4.out.trans (hb5.mono hsz4))
          clear hb5
          have hl5 : (List.replicate (12 - kb.size) (0 : UInt8)).length = 12 - kb.size := List.length_replicate
          generalize List.replicate (12 - kb.size) (0 : UInt8) = ns at *
          go_wp2_with fail
          go_roundw
          case rel =>
            refine ⟨m + 1, _, _, by omega, by omega, int_eq (by omega), by go_num, rfl, rfl, ?_, ?_, hmy1, ?_, ?_, HB5.out⟩
            · simp only [ByteArray.size_append', size_mk]; omega
            · simp only [ByteArray.size_append', size_mk]; omega
            · rw [← HE1.out, HMY.out, HN1.out, HEN.out, HDR.out]; simp
            · rw [← HE2.out, HMY.out, HN2.out, HDR.out]; simp
          case measure => simp [intOf]; omega
      · have hmE : m = Pg.many l.length := by unfold Pg.many at *; omega
        have HFN : Hid (Pg.leaf (plain l) = Pg.sealed ([83, 50, 76] ++ Pg.low m 1 ++ hb.data.toList ++ List.replicate (60 - hb.size) 0) ++ rb.data.toList) := by
          have h1 := HE1.out
          have h2 := HE2.out
          rw [hmE, Nat.sub_self] at h1 h2
          simp only [Pg.entries, Pg.bases, List.append_nil] at h1 h2
          have h3 : (plain l).length = l.length := by simp [plain]
          show _ = _
          unfold Pg.leaf
          rw [h3, ← h1, ← h2, len_size, hmE]
        have HBT := hid (((Below.refl w.heap.size w).alloc (Nat.le_refl _) (.cells #[.int .i64 k, .slice (some ⟨b, off, none⟩) l.length cap, c2, c3, c4] 79)).trans (HBEL.out.mono (by omega)))
        have hszT := HBT.out.size
        have hhb1 : hb.size ≤ 60 := by omega
        clear hmE hhb
        go_wp2_with fail
        refine (low_any m 1 _ (by omega) (by omega)).mono ?_
        rintro r w3 ⟨rfl, hb3⟩
        have HB3 := hid (HBT.out.trans (hb3.mono hszT))
        have hsz3 := HB3.out.size
        clear hb3
        have hl3 := Pg.low_len 1 m
        generalize Pg.low m 1 = l1 at *
        go_wp2_with fail
        rw [show ((60 : Int) - (hb.size : Int) : Int) = ((60 - hb.size : Nat) : Int) by omega]
        refine (noughts_any (60 - hb.size) _ (by omega)).mono ?_
        rintro r w5 ⟨rfl, hb5⟩
        have HB5 := hid (HB3.out.trans (hb5.mono hsz3))
        have hsz5 := HB5.out.size
        clear hb5
        have hl5 : (List.replicate (60 - hb.size) (0 : UInt8)).length = 60 - hb.size := List.length_replicate
        generalize List.replicate (60 - hb.size) (0 : UInt8) = ns at *
        go_wp2_with fail
        refine (sealed_any _ _ (by simp only [ByteArray.size_append', size_mk, List.length_cons, List.length_nil]; omega)).mono ?_
        rintro r w6 ⟨rfl, hb6⟩
        have HB6 := hid (HB5.out.trans (hb6.mono hsz5))
        clear hb6
        have hl6 := Pg.seal_len ((⟨#[83, 50, 76]⟩ : ByteArray) ++ ⟨l1.toArray⟩ ++ hb ++ ⟨ns.toArray⟩).data.toList
        rw [len_size] at hl6
        simp only [ByteArray.size_append', size_mk, List.length_cons, List.length_nil] at hl6
        generalize hse : Pg.sealed ((⟨#[83, 50, 76]⟩ : ByteArray) ++ ⟨l1.toArray⟩ ++ hb ++ ⟨ns.toArray⟩).data.toList = se at *
        have HSE := hid hse
        clear hse
        go_wp2_with fail
        go_ret
        refine ⟨ret_str ?_, HB6.out⟩
        rw [HFN.out, ← HSE.out]; simp
end Go.Proofs.YtolgpnaoaodepaaGreat
