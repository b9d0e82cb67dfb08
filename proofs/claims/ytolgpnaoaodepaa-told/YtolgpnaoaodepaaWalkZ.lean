/- The walk of pages' readSection. -/
import Derived.Test.YtolgpnaoaodepaaWalkY
import Derived.Lib.ConvBytes
namespace Go.Proofs.Ytolgpnaoaodepaa
open Go.RowKit

def secEnd (o : Option (List UInt8)) : Ending := match o with
  | some c => .returned (.string ⟨c.toArray⟩)
  | none => gaveUp
theorem back_bytes (w w' : World) (s : ByteArray) (cap : Nat) (he : w'.heap = (Lib.bytesWorld w 5 s).heap) : (convert 59 9 (.slice (some ⟨w.heap.size, 0, none⟩) s.size cap)).run Try.prog w' = .ok (.string s) w' := by
  have := run_convert_bytes_back (P := Try.prog) w' 59 9 5 ⟨w.heap.size, 0, none⟩ cap s.data.toList Try.underlying59 Try.underlying5 Try.underlying9 (fun j hj => by
    rw [add_at]
    have h1 : w'.cell? ⟨w.heap.size, j, none⟩ = (Lib.bytesWorld w 5 s).cell? ⟨w.heap.size, j, none⟩ := by unfold World.cell?; rw [he]
    rw [h1, Lib.bytesWorld_cell w 5 s j (by rw [← len_size]; exact hj), List.getD_eq_getElem?_getD, List.getElem?_eq_getElem hj]
    rfl)
  rw [len_size] at this
  exact this
theorem below_bytes (w : World) (s : ByteArray) : Below w.heap.size w (Lib.bytesWorld w 5 s) := by
  refine ⟨rfl, rfl, rfl, ?_, fun k hk => Lib.bytesWorld_at_old w 5 s k hk⟩
  rw [Lib.bytesWorld_size]; omega
theorem rd_keep {w w' : World} {b : Nat} {t : List UInt8} (h : Rd w b t) (hb : Below w.heap.size w w') : Rd w' b t := h.below hb h.lt

set_option maxHeartbeats 2000000 in
set_option maxRecDepth 20000 in
theorem readSection_any (k : UInt8) (s : List UInt8) (w : World) :
    Calls Try.prog 70 #[.int .u8 (k.toNat : Int), .string ⟨s.toArray⟩] w fun r w' => r = secEnd (Pr.secR k s) ∧ Below w.heap.size w w' := by
  generalize hE : secEnd (Pr.secR k s) = E
  have HE := hid hE
  clear hE
  have hkb : k.toNat < 256 := k.toNat_lt
  go_enter Try.func70, Try.ntmps70
  go_wp2_with fail
  refine (newReader_any s _).mono ?_
  rintro r w1 ⟨rfl, rfl⟩
  have HRD := hid (rd_new w s)
  have HB0 := hid ((Below.refl w.heap.size w).alloc (Nat.le_refl _) (.cells #[.string ⟨s.toArray⟩] 104))
  have hs0 : w.heap.size < (w.alloc (.cells #[.string ⟨s.toArray⟩] 104)).heap.size := by simp
  generalize w.alloc (.cells #[.string ⟨s.toArray⟩] 104) = w0 at *
  have HC := hid (rtake_any w.heap.size 1 s w0 HRD.out)
  go_wp2_with fail
  refine HC.out.mono ?_
  rintro r w1 ⟨hb1, ⟨hn, rfl⟩ | ⟨x, t1, hs1, rfl, hr1⟩⟩
  · have HT : Hid (gaveUp = E) := by show _ = _; rw [← HE.out]; unfold Pr.secR Pr.secW; rw [hn]; rfl
    have HB := hid (but_to_below HB0.out hb1 (Nat.le_refl _) (by omega))
    clear hb1 hn
    unfold gaveUp
    go_wp2_with fail
    exact ⟨rfl, HT.out, HB.out⟩
  have HW1 : Hid (Pr.secW s = (Pr.byteR t1).bind fun h => (Pr.numberR h.2).bind fun n => (Pr.numberR n.2).bind fun z => if 249 < z.1 then none else (Pr.takeR z.1 z.2).map fun c => (h.1, c.1)) := by
    show _ = _; unfold Pr.secW; rw [hs1]; rfl
  have HB1 := hid (but_to_below HB0.out hb1 (Nat.le_refl _) (by omega))
  have hz1 := hb1.size
  have HC2 := hid (rbyte_any w.heap.size t1 w1 hr1)
  clear hb1 hs1 hr1 HC HRD HB0
  unfold sv
  go_wp2_with fail
  refine HC2.out.mono ?_
  rintro r w2 ⟨hb2, ⟨hn, rfl⟩ | ⟨how, t2, hs2, rfl, hr2⟩⟩
  · have HT : Hid (gaveUp = E) := by show _ = _; rw [← HE.out]; unfold Pr.secR; rw [HW1.out, hn]; rfl
    have HB := hid (but_to_below HB1.out hb2 (Nat.le_refl _) (by omega))
    clear hb2 hn
    unfold gaveUp
    go_wp2_with fail
    exact ⟨rfl, HT.out, HB.out⟩
  have HW2 : Hid (Pr.secW s = (Pr.numberR t2).bind fun n => (Pr.numberR n.2).bind fun z => if 249 < z.1 then none else (Pr.takeR z.1 z.2).map fun c => (how, c.1)) := by
    show _ = _; rw [HW1.out, hs2]; rfl
  have HB2 := hid (but_to_below HB1.out hb2 (Nat.le_refl _) (by omega))
  have hz2 := hb2.size
  have HC3 := hid (rnumber_any w.heap.size t2 w2 hr2)
  clear hb2 hs2 hr2 HC2 HW1 HB1
  unfold bv
  go_wp2_with fail
  refine HC3.out.mono ?_
  rintro r w3 ⟨hb3, ⟨hn, rfl⟩ | ⟨n1, t3, hs3, rfl, hr3⟩⟩
  · have HT : Hid (gaveUp = E) := by show _ = _; rw [← HE.out]; unfold Pr.secR; rw [HW2.out, hn]; rfl
    have HB := hid (but_to_below HB2.out hb3 (Nat.le_refl _) (by omega))
    clear hb3 hn
    unfold gaveUp
    go_wp2_with fail
    exact ⟨rfl, HT.out, HB.out⟩
  have HW3 : Hid (Pr.secW s = (Pr.numberR t3).bind fun z => if 249 < z.1 then none else (Pr.takeR z.1 z.2).map fun c => (how, c.1)) := by
    show _ = _; rw [HW2.out, hs3]; rfl
  have HB3 := hid (but_to_below HB2.out hb3 (Nat.le_refl _) (by omega))
  have hz3 := hb3.size
  have HC4 := hid (rnumber_any w.heap.size t3 w3 hr3)
  clear hb3 hs3 hr3 HC3 HW2 HB2
  unfold nv
  go_wp2_with fail
  refine HC4.out.mono ?_
  rintro r w4 ⟨hb4, ⟨hn, rfl⟩ | ⟨z, t4, hs4, rfl, hr4⟩⟩
  · have HT : Hid (gaveUp = E) := by show _ = _; rw [← HE.out]; unfold Pr.secR; rw [HW3.out, hn]; rfl
    have HB := hid (but_to_below HB3.out hb4 (Nat.le_refl _) (by omega))
    clear hb4 hn
    unfold gaveUp
    go_wp2_with fail
    exact ⟨rfl, HT.out, HB.out⟩
  have HW4 : Hid (Pr.secW s = if 249 < z then none else (Pr.takeR z t4).map fun c => (how, c.1)) := by
    show _ = _; rw [HW3.out, hs4]; rfl
  have HB4 := hid (but_to_below HB3.out hb4 (Nat.le_refl _) (by omega))
  have hz4 := hb4.size
  have HC5 := hid (rtake_any w.heap.size z t4 w4 hr4)
  clear hb4 hs4 hr4 HC4 HW3 HB3
  unfold nv
  by_cases hz249 : 249 < z
  · have HT : Hid (gaveUp = E) := by show _ = _; rw [← HE.out]; unfold Pr.secR; rw [HW4.out, if_pos hz249]; rfl
    have hdz : decide ((z : Int) ≤ 249) = false := by simp; omega
    go_wp2_with fail
    refine (unless_no _).mono ?_
    rintro r w5 ⟨rfl, rfl⟩
    unfold gaveUp
    go_wp2_with fail
    exact ⟨rfl, HT.out, HB4.out⟩
  rw [if_neg hz249] at HW4
  have hdz : decide ((z : Int) ≤ 249) = true := by simp; omega
  go_wp2_with fail
  refine (unless_yes _).mono ?_
  rintro r w5 ⟨rfl, rfl⟩
  go_wp2_with fail
  refine HC5.out.mono ?_
  rintro r w5 ⟨hb5, ⟨hn, rfl⟩ | ⟨c, t5, hs5, rfl, hr5⟩⟩
  · have HT : Hid (gaveUp = E) := by show _ = _; rw [← HE.out]; unfold Pr.secR; rw [HW4.out, hn]; rfl
    have HB := hid (but_to_below HB4.out hb5 (Nat.le_refl _) (by omega))
    clear hb5 hn
    unfold gaveUp
    go_wp2_with fail
    exact ⟨rfl, HT.out, HB.out⟩
  have HSR : Hid (Pr.secR k s = (Pr.secU how c).bind fun u => if Pg.section_ [k] u = s then some u else none) := by
    show _ = _; unfold Pr.secR; rw [HW4.out, hs5]; rfl
  have hcl : c.length ≤ 249 := by rw [(Pr.takeR_len hs5).1]; omega
  have HB5 := hid (but_to_below HB4.out hb5 (Nat.le_refl _) (by omega))
  have hz5 := hb5.size
  clear hb5 hs5 hr5 HC5 HW4 HB4
  unfold sv
  by_cases hh : how = 1
  · subst hh
    have HSU : Hid (Pr.secU 1 c = Sq.spread c) := rfl
    go_wp2_with fail
    refine (pkgSpread_any ⟨c.toArray⟩ _ (by rw [size_mk]; omega)).mono ?_
    rintro r w6 ⟨rfl, hb6⟩
    rw [show (⟨c.toArray⟩ : ByteArray).data.toList = c from rfl]
    have HB6 := hid (HB5.out.trans (hb6.mono (by omega)))
    have hz6 := hb6.size
    clear hb6
    cases hsp : Sq.spread c with
    | none =>
      have HT : Hid (gaveUp = E) := by show _ = _; rw [← HE.out, HSR.out, HSU.out, hsp]; rfl
      rw [show spreadEnd c = gaveUp by unfold spreadEnd; rw [hsp]]
      clear hsp
      unfold gaveUp
      go_wp2_with fail
      exact ⟨rfl, HT.out, HB6.out⟩
    | some u =>
      have hul : u.length ≤ 20000 := by
        unfold Sq.spread at hsp
        split at hsp
        · rename_i t ht'
          have := Sq.decode_le _ _ _ ht'
          split at hsp
          · simp at hsp; subst hsp; simp at this; omega
          · simp at hsp
        · simp at hsp
      have HSP : Hid (Pr.secU 1 c = some u) := by show _ = _; rw [HSU.out, hsp]
      rw [show spreadEnd c = .returned (.string ⟨u.toArray⟩) by unfold spreadEnd; rw [hsp]]
      clear hsp
      have hul2 := size_mk u
      have hcv := Lib.run_convert_string_bytes (P := Try.prog) w6 9 59 5 ⟨u.toArray⟩ Try.underlying9 Try.underlying59 Try.underlying5
      rw [size_mk] at hcv
      have HBB := hid (HB6.out.trans ((below_bytes w6 ⟨u.toArray⟩).mono (by omega)))
      have HBK : Hid (∀ (w' : World) (cap : Nat), w'.heap = (Lib.bytesWorld w6 5 ⟨u.toArray⟩).heap → (convert 59 9 (.slice (some ⟨w6.heap.size, 0, none⟩) u.length cap)).run Try.prog w' = .ok (.string ⟨u.toArray⟩) w') := fun w' cap he => by have := back_bytes w6 w' ⟨u.toArray⟩ cap he; rw [size_mk] at this; exact this
      have hsw : w6.heap.size ≤ (Lib.bytesWorld w6 5 ⟨u.toArray⟩).heap.size := (below_bytes w6 ⟨u.toArray⟩).size
      go_wp2_with fail
      clear hcv
      refine (writeSec_cv k _ u _ ⟨_, _, rfl⟩ (fun w' he => HBK.out w' _ he) (by omega)).mono ?_
      rintro r w7 ⟨rfl, hb7⟩
      have HB7 := hid (HBB.out.trans (hb7.mono (by omega)))
      clear hb7 HBK
      by_cases he : Pg.section_ [k] u = s
      · have HT : Hid (.returned (.string ⟨u.toArray⟩) = E) := by show _ = _; rw [← HE.out, HSR.out, HSP.out]; simp [he, secEnd]
        go_wp2_with fail
        refine (unless_yes _).mono ?_
        rintro r w8 ⟨rfl, rfl⟩
        go_wp2_with fail
        go_ret
        exact ⟨HT.out, HB7.out⟩
      · have HT : Hid (gaveUp = E) := by show _ = _; rw [← HE.out, HSR.out, HSP.out]; simp [he, secEnd]
        have hne : (Pg.section_ [k] u == s) = false := by simpa using he
        go_wp2_with fail
        refine (unless_no _).mono ?_
        rintro r w8 ⟨rfl, rfl⟩
        unfold gaveUp
        go_wp2_with fail
        exact ⟨rfl, HT.out, HB7.out⟩
  · have HSP : Hid (Pr.secU how c = some c) := by show _ = _; unfold Pr.secU; rw [if_neg hh]
    have hhn : ((how.toNat : Int) == 1) = false := by
      simp only [beq_eq_false_iff_ne, ne_eq]
      intro e
      exact hh (UInt8.toNat_inj.1 (by simpa using (by omega : how.toNat = 1)))
    have hul2 := size_mk c
    have hcv := Lib.run_convert_string_bytes (P := Try.prog) w5 9 59 5 ⟨c.toArray⟩ Try.underlying9 Try.underlying59 Try.underlying5
    rw [size_mk] at hcv
    have HBB := hid (HB5.out.trans ((below_bytes w5 ⟨c.toArray⟩).mono (by omega)))
    have HBK : Hid (∀ (w' : World) (cap : Nat), w'.heap = (Lib.bytesWorld w5 5 ⟨c.toArray⟩).heap → (convert 59 9 (.slice (some ⟨w5.heap.size, 0, none⟩) c.length cap)).run Try.prog w' = .ok (.string ⟨c.toArray⟩) w') := fun w' cap he => by have := back_bytes w5 w' ⟨c.toArray⟩ cap he; rw [size_mk] at this; exact this
    have hsw : w5.heap.size ≤ (Lib.bytesWorld w5 5 ⟨c.toArray⟩).heap.size := (below_bytes w5 ⟨c.toArray⟩).size
    go_wp2_with fail
    clear hcv
    refine (writeSec_cv k _ c _ ⟨_, _, rfl⟩ (fun w' he => HBK.out w' _ he) (by omega)).mono ?_
    rintro r w7 ⟨rfl, hb7⟩
    have HB7 := hid (HBB.out.trans (hb7.mono (by omega)))
    clear hb7 HBK
    by_cases he : Pg.section_ [k] c = s
    · have HT : Hid (.returned (.string ⟨c.toArray⟩) = E) := by show _ = _; rw [← HE.out, HSR.out, HSP.out]; simp [he, secEnd]
      go_wp2_with fail
      refine (unless_yes _).mono ?_
      rintro r w8 ⟨rfl, rfl⟩
      go_wp2_with fail
      go_ret
      exact ⟨HT.out, HB7.out⟩
    · have HT : Hid (gaveUp = E) := by show _ = _; rw [← HE.out, HSR.out, HSP.out]; simp [he, secEnd]
      have hne : (Pg.section_ [k] c == s) = false := by simpa using he
      go_wp2_with fail
      refine (unless_no _).mono ?_
      rintro r w8 ⟨rfl, rfl⟩
      unfold gaveUp
      go_wp2_with fail
      exact ⟨rfl, HT.out, HB7.out⟩
end Go.Proofs.Ytolgpnaoaodepaa
