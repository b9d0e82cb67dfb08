/- The walk of the reference's Squeeze. -/
import Derived.Test.YtolgpnaoaodepaaGreatOwnEm
import Derived.Test.YtolgpnaoaodepaaGreatWalkGm
namespace Go.Proofs.YtolgpnaoaodepaaGreat
open Go.RowKit

theorem down_step (l : List UInt8) (a j : Nat) : Sq.down l a (j + 1) = if 255 - j ≤ a ∧ (Sq.down l a j).1 ≤ Sq.mat l a (255 - j) then (Sq.mat l a (255 - j), 255 - j) else Sq.down l a j := rfl
theorem down_bd (l : List UInt8) (a j : Nat) : (Sq.down l a j).1 ≤ 66 ∧ (Sq.down l a j).2 ≤ 255 := by
  induction j with
  | zero => simp [Sq.down]
  | succ j ih =>
    rw [down_step]; split
    · exact ⟨Sq.mat_le _ _ _, by simp⟩
    · exact ih

set_option maxHeartbeats 4000000 in
theorem refSqueeze_any (s : ByteArray) (w : World) (hs : s.size ≤ 35184372088832) :
    Calls Tryz.prog 93 #[.string s] w fun r w' => r = .returned (.string ⟨(Sq.squeeze s.data.toList).toArray⟩) ∧ Below w.heap.size w w' := by
  have HL := hid (len_size s)
  go_enter Tryz.func93, Tryz.ntmps93
  go_wp2_with fail
  go_loopw [3, 4, 5] (fun u v i wr => ∃ (out run : List UInt8) (a : Nat), a ≤ s.size ∧ i = .int .i64 a ∧ run.length < 128 ∧ Owns w.heap.size wr u out ∧ Owns w.heap.size wr v run ∧ Apart u v ∧ Below w.heap.size w wr ∧ out.length + run.length ≤ 2 * a ∧ out ++ Sq.rest s.data.toList a run = Sq.squeeze s.data.toList) (fun _ _ i _ => s.size - (intOf i).toNat)
  case atStart => exact ⟨[], [], 0, Nat.zero_le _, rfl, by simp, Owns.nil _ _, Owns.nil _ _, by intro k hk; simp [Value.ownBlock] at hk, Below.refl _ _, by simp, by simp [Sq.squeeze]⟩
  case round =>
    obtain ⟨out, run, a, ha, rfl, hrun, hown, hown2, hap, hbel, hout, heq⟩ := hrel
    have HEQ := hid heq
    have HO := hid hown
    have HR := hid hown2
    have HBEL := hid hbel
    have HAP := hid hap
    have hsz := hbel.size
    clear heq hown hbel hown2 hap
    by_cases hlt : a < s.size
    · go_wp2_with fail
      go_loopw [6, 7, 8] (fun n f d wi => ∃ j : Nat, j ≤ 255 ∧ d = .int .i64 (255 - j : Nat) ∧ n = .int .i64 (Sq.down s.data.toList a j).1 ∧ f = .int .i64 (Sq.down s.data.toList a j).2 ∧ ∃ q, wi = wr.drewN q) (fun _ _ d _ => (intOf d).toNat)
      case atStart => exact ⟨0, Nat.zero_le _, rfl, rfl, rfl, 0, rfl⟩
      case round =>
        obtain ⟨j, hj, rfl, rfl, rfl, q, rfl⟩ := hrel
        have hdb := down_bd s.data.toList a j
        have HST := hid (down_step s.data.toList a j)
        generalize hdn : Sq.down s.data.toList a j = dn at *
        have HDN := hid hdn
        clear hdn
        obtain ⟨n, f⟩ := dn
        by_cases hj2 : j < 255
        · obtain ⟨d, hd⟩ : ∃ d : Nat, 255 - j = d := ⟨_, rfl⟩
          have HD := hid hd
          rw [hd] at HST ⊢
          have hd1 : 1 ≤ d ∧ d ≤ 255 := by omega
          clear hd
          by_cases hda : d ≤ a
          · go_wp2_with fail
            refine (like_any s a d _ (by omega) (by omega) hda ha).mono ?_
            rintro r w1 ⟨rfl, q1, rfl⟩
            have hm := Sq.mat_le s.data.toList a d
            generalize Sq.mat s.data.toList a d = m at *
            by_cases hnm : n ≤ m
            · go_wp2_with fail
              go_roundw
              case rel =>
                have h := HST.out; rw [if_pos ⟨hda, hnm⟩] at h
                exact ⟨j + 1, by omega, by have := HD.out; go_num, by rw [h], by rw [h], _, rfl⟩
              case measure => simp [intOf]; omega
            · go_wp2_with fail
              go_roundw
              case rel =>
                have h := HST.out; rw [if_neg (fun x => hnm x.2)] at h
                exact ⟨j + 1, by omega, by have := HD.out; go_num, by rw [h], by rw [h], _, rfl⟩
              case measure => simp [intOf]; omega
          · go_wp2_with fail
            go_roundw
            case rel =>
              have h := HST.out; rw [if_neg (fun x => hda x.1)] at h
              exact ⟨j + 1, by omega, by have := HD.out; go_num, by rw [h], by rw [h], _, rfl⟩
            case measure => simp [intOf]; omega
        · obtain rfl : j = 255 := by omega
          have HO' := hid (HO.out.drewN q)
          have HR' := hid (HR.out.drewN q)
          have HB' := hid (below_drewN HBEL.out q)
          have hsz' : w.heap.size ≤ (wr.drewN q).heap.size := hsz
          have HDB := hid (Sq.down_best s.data.toList a)
          clear HO HR HBEL hsz HST
          generalize wr.drewN q = wi at *
          rw [show (255 - 255 : Nat) = 0 from rfl]
          by_cases hn3 : n < 3
          · have HS : Hid ((Sq.best s.data.toList a).2 = 0) := by
              rcases HDB.out with h | h
              · exact h.1
              · rw [HDN.out] at h; exact absurd h.2.1 (by simp; omega)
            obtain ⟨b, HSB, HRS⟩ : ∃ b : UInt8, Hid (((s[a]'hlt).toNat : Int) = (b.toNat : Int)) ∧ Hid (Sq.rest s.data.toList a run = Sq.rest s.data.toList (a + 1) (run ++ [b])) :=
              ⟨s.data.toList[a]'(by rw [HL.out]; exact hlt), rfl, Sq.rest_single _ _ _ (by rw [HL.out]; exact hlt) HS.out⟩
            go_wp2_with (first
              | (at_builtin; refine wpAp1 wi rfl (.tmp 32) (.tmp 36) rfl w.heap.size u4 run rfl HR'.out b _ HSB.out rfl (by omega) hsz' ?_))
            intro v1 w1 ho1 hg1 hat1
            obtain ⟨hO1, hA1, hB1⟩ := app_apart HO'.out HR'.out hsz' HAP.out (grown_after_alloc hg1) (hat1.imp_right fun h => ⟨_, Nat.le_succ _, h⟩)
            have HO1 := hid hO1
            have HR1 := hid ho1
            have HA1 := hid hA1
            have HB1 := hid (HB'.out.trans hB1)
            have hsz1 := HB1.out.size
            clear ho1 hg1 hat1 hO1 hA1 hB1 HO' HR' HB' HAP hsz' HDB HDN
            obtain ⟨g, c, hv1, hg1, hg2⟩ := HR1.out.shape_pos (by simp)
            subst hv1
            have hl1 : (run ++ [b]).length = run.length + 1 := by simp
            rw [hl1] at HR1 HA1 ⊢
            have HEQ1 : Hid (out ++ Sq.rest s.data.toList (a + 1) (run ++ [b]) = Sq.squeeze s.data.toList) := by rw [← HRS.out]; exact HEQ.out
            clear HRS HEQ
            by_cases h128 : run.length + 1 = 128
            · have h128' : (((run.length + 1 : Nat) : Int) == 128) = true := by rw [h128]; rfl
              rw [h128] at HR1 HA1 hl1
              generalize run ++ [b] = r2 at *
              have HL2 := hid hl1
              clear hl1
              go_wp2_with (first
                | (at_builtin; refine wpAp1 w1 rfl (.tmp 43) (.tmp 44) rfl w.heap.size u3 out rfl HO1.out 127 127 rfl rfl (by omega) hsz1 ?_))
              intro v2 w2 ho2 hg2 hat2
              obtain ⟨hR2, hA2, hB2⟩ := app_apart HR1.out HO1.out hsz1 HA1.out.symm (grown_after_alloc hg2) (hat2.imp_right fun h => ⟨_, Nat.le_succ _, h⟩)
              have HO2 := hid ho2
              have HR2 := hid hR2
              have HB2 := hid (HB1.out.trans hB2)
              have hsz2 := HB2.out.size
              clear ho2 hg2 hat2 hR2 hA2 hB2 HO1 HR1 HB1 HA1
              go_wp2_with (first
                | (at_builtin; refine wpApB w2 rfl (.tmp 46) (.tmp 47) rfl w.heap.size v2 _ rfl HO2.out ⟨g, 0, none⟩ c r2 (by rw [HL2.out]; rfl) HR2.out.cells (by rw [HL2.out]; simp; omega) hsz2 ?_))
              intro v3 w3 ho3 hg3 _
              have HO3 := hid ho3
              have HB3 := hid (HB2.out.trans ((Below.refl _ w2).grown hg3 hsz2 fun k hk => (World.ownsRow.lt HO2.out k hk).1))
              clear ho3 hg3
              go_wp2_with fail
              go_roundw
              case rel =>
                refine ⟨_, [], a + 1, by omega, by go_num, by simp, HO3.out, Owns.nil _ _, apart_nil _, HB3.out, ?_, ?_⟩
                · have := HL2.out; simp; omega
                · rw [← HEQ1.out, Sq.rest_full _ _ r2 HL2.out]; simp
              case measure => simp [intOf]; omega
            · have HL1 := hid hl1
              go_wp2_with fail
              go_roundw
              case rel => exact ⟨out, run ++ [b], a + 1, by omega, by go_num, by rw [HL1.out]; omega, HO1.out, HR1.out, HA1.out, HB1.out, by rw [HL1.out]; omega, HEQ1.out⟩
              case measure => simp [intOf]; omega
          · obtain ⟨HF, HEB⟩ : Hid ((Sq.best s.data.toList a).2 ≠ 0) ∧ Hid (Sq.best s.data.toList a = (n, f)) := by
              rcases HDB.out with h | h
              · rw [HDN.out] at h; exact absurd h.2 (by simpa using hn3)
              · exact ⟨h.1, by rw [← HDN.out]; exact h.2.2.symm⟩
            have hbl := (Sq.best_len s.data.toList a HF.out).2.2
            rw [HL.out, HEB.out] at hbl
            have HRM : Hid (out ++ (Sq.runOf run ++ (UInt8.ofNat (125 + n) :: UInt8.ofNat f :: Sq.rest s.data.toList (a + n) [])) = Sq.squeeze s.data.toList) := by
              rw [← HEQ.out, Sq.rest_match _ _ _ (by rw [HL.out]; exact hlt) HF.out, HEB.out]; rfl
            clear HDB HEQ HF HEB HDN
            by_cases hrp : 0 < run.length
            · obtain ⟨g, c, hv1, hg1, hg2⟩ := HR'.out.shape_pos hrp
              subst hv1
              have HRO := hid (Sq.runOf_short run (by intro e; rw [e] at hrp; simp at hrp) (by omega))
              go_wp2_with (first
                | (at_builtin; refine wpAp1 wi rfl (.tmp 52) (.tmp 57) rfl w.heap.size u3 out rfl HO'.out (UInt8.ofNat (run.length - 1)) _ ?_ rfl (by omega) hsz' ?_))
              · omega
              intro v2 w2 ho2 hg2 hat2
              obtain ⟨hR2, hA2, hB2⟩ := app_apart HR'.out HO'.out hsz' HAP.out.symm (grown_after_alloc hg2) (hat2.imp_right fun h => ⟨_, Nat.le_succ _, h⟩)
              have HO2 := hid ho2
              have HR2 := hid hR2
              have HB2 := hid (HB'.out.trans hB2)
              have hsz2 := HB2.out.size
              clear ho2 hg2 hat2 hR2 hA2 hB2 HO' HR' HB' HAP
              go_wp2_with (first
                | (at_builtin; refine wpApB w2 rfl (.tmp 59) (.tmp 60) rfl w.heap.size v2 _ rfl HO2.out ⟨g, 0, none⟩ c run rfl HR2.out.cells (by simp; omega) hsz2 ?_))
              intro v3 w3 ho3 hg3 _
              have HO3 := hid ho3
              have HB3 := hid (HB2.out.trans ((Below.refl _ w2).grown hg3 hsz2 fun k hk => (World.ownsRow.lt HO2.out k hk).1))
              have hsz3 := HB3.out.size
              clear ho3 hg3
              go_wp2_with (first
                | (at_builtin; refine wpAp2 w3 rfl (.tmp 62) (.tmp 68) rfl w.heap.size v3 _ rfl HO3.out (UInt8.ofNat (125 + n)) (UInt8.ofNat f) _ _ ?_ ?_ rfl ?_ hsz3 ?_))
              · simp; omega
              · simp; omega
              · simp; omega
              intro v4 w4 ho4 hg4 _
              have HO4 := hid ho4
              have HB4 := hid (HB3.out.trans (below_of_grown HO3.out hsz3 hg4))
              clear ho4 hg4
              go_wp2_with fail
              go_roundw
              case rel =>
                refine ⟨_, [], a + n, by omega, by go_num, by simp, HO4.out, Owns.nil _ _, apart_nil _, HB4.out, ?_, ?_⟩
                · simp; omega
                · rw [← HRM.out, HRO.out]; simp
              case measure => simp [intOf]; omega
            · have hr0 : run = [] := List.length_eq_zero_iff.1 (by omega)
              subst hr0
              obtain ⟨ra, rc, hv1⟩ := HR'.out.shape
              subst hv1
              go_wp2_with (first
                | (at_builtin; refine wpAp2 wi rfl (.tmp 62) (.tmp 68) rfl w.heap.size u3 _ rfl HO'.out (UInt8.ofNat (125 + n)) (UInt8.ofNat f) _ _ ?_ ?_ rfl ?_ hsz' ?_))
              · omega
              · omega
              · omega
              intro v4 w4 ho4 hg4 hat4
              obtain ⟨hR4, hA4, hB4⟩ := app_apart HR'.out HO'.out hsz' HAP.out.symm (grown_after_alloc hg4) (hat4.imp_right fun h => ⟨_, Nat.le_succ _, h⟩)
              have HO4 := hid ho4
              have HR4 := hid hR4
              have HA4 := hid hA4
              have HB4 := hid (HB'.out.trans hB4)
              clear ho4 hg4 hR4 hA4 hB4
              go_wp2_with fail
              go_roundw
              case rel =>
                refine ⟨_, [], a + n, by omega, by go_num, by simp, HO4.out, HR4.out, HA4.out.symm, HB4.out, ?_, ?_⟩
                · simp at hout ⊢; omega
                · rw [← HRM.out, Sq.runOf_nil]; simp
              case measure => simp [intOf]; omega
    · have HFN : Hid (out ++ Sq.runOf run = Sq.squeeze s.data.toList) := by
        rw [← HEQ.out, Sq.rest_end _ _ _ (by rw [HL.out]; omega)]; exact rfl
      by_cases hrp : 0 < run.length
      · obtain ⟨g, c, hv1, hg1, hg2⟩ := HR.out.shape_pos hrp
        subst hv1
        have HRO := hid (Sq.runOf_short run (by intro e; rw [e] at hrp; simp at hrp) (by omega))
        go_wp2_with (first
          | (at_builtin; refine wpAp1 wr rfl (.tmp 76) (.tmp 81) rfl w.heap.size u3 out rfl HO.out (UInt8.ofNat (run.length - 1)) _ ?_ rfl (by omega) hsz ?_))
        · simp; omega
        intro v2 w2 ho2 hg2 hat2
        obtain ⟨hR2, hA2, hB2⟩ := app_apart HR.out HO.out hsz HAP.out.symm (grown_after_alloc hg2) (hat2.imp_right fun h => ⟨_, Nat.le_succ _, h⟩)
        have HO2 := hid ho2
        have HR2 := hid hR2
        have HB2 := hid (HBEL.out.trans hB2)
        have hsz2 := HB2.out.size
        clear ho2 hg2 hat2 hR2 hA2 hB2 HO HR HBEL HAP
        go_wp2_with (first
          | (at_builtin; refine wpApB w2 rfl (.tmp 83) (.tmp 84) rfl w.heap.size v2 _ rfl HO2.out ⟨g, 0, none⟩ c run rfl HR2.out.cells (by simp; omega) hsz2 ?_))
        intro v3 w3 ho3 hg3 _
        have HB3 := hid (HB2.out.trans ((Below.refl _ w2).grown hg3 hsz2 fun k hk => (World.ownsRow.lt HO2.out k hk).1))
        have ho3' : Owns w.heap.size w3 v3 (Sq.squeeze s.data.toList) := by rw [← HFN.out, HRO.out]; simpa using ho3
        have hcv := ho3'.str
        clear ho3 hg3 ho3'
        go_wp2_with fail
        go_ret
        exact ⟨rfl, HB3.out⟩
      · have hr0 : run = [] := List.length_eq_zero_iff.1 (by omega)
        subst hr0
        obtain ⟨ra, rc, hv1⟩ := HR.out.shape
        subst hv1
        have ho3' : Owns w.heap.size wr u3 (Sq.squeeze s.data.toList) := by rw [← HFN.out, Sq.runOf_nil]; simpa using HO.out
        have hcv := ho3'.str
        clear ho3'
        go_wp2_with fail
        go_ret
        exact ⟨rfl, HBEL.out⟩
end Go.Proofs.YtolgpnaoaodepaaGreat
/- The walk of the reference's Spread. -/
namespace Go.Proofs.YtolgpnaoaodepaaGreat
open Go.RowKit

theorem end_no {l : List UInt8} (h : Sq.decode l [] = none) : spreadS l = ⟨#[]⟩ ∧ spreadE l = 2 := by
  unfold spreadS spreadE Sq.spread; rw [h]; exact ⟨rfl, rfl⟩
theorem end_some {l t : List UInt8} (h : Sq.decode l [] = some t) : (Sq.squeeze t = l → spreadS l = ⟨t.toArray⟩ ∧ spreadE l = 0) ∧ (Sq.squeeze t ≠ l → spreadS l = ⟨#[]⟩ ∧ spreadE l = 2) := by
  unfold spreadS spreadE Sq.spread; rw [h]
  exact ⟨fun e => by simp only [if_pos e]; exact ⟨trivial, trivial⟩, fun e => by simp only [if_neg e]; exact ⟨trivial, trivial⟩⟩
theorem at_run {s : ByteArray} {o : List UInt8} {a : Nat} (h : a < s.size) (he : Sq.decode (s.data.toList.drop a) o = Sq.decode s.data.toList []) (h1 : (s[a]'h).toNat < 128) (h2 : a + (s[a]'h).toNat + 2 ≤ s.size) :
    Sq.decode (s.data.toList.drop (a + (s[a]'h).toNat + 2)) (o ++ (s.data.toList.drop (a + 1)).take ((s[a]'h).toNat + 1)) = Sq.decode s.data.toList [] := by
  rw [← he, drop_at s a h, Sq.decode_run _ _ _ h1 (by rw [List.length_drop, len_size]; omega), List.drop_drop, show a + 1 + ((s[a]'h).toNat + 1) = a + (s[a]'h).toNat + 2 by omega]
theorem at_run_no {s : ByteArray} {o : List UInt8} {a : Nat} (h : a < s.size) (he : Sq.decode (s.data.toList.drop a) o = Sq.decode s.data.toList []) (h1 : (s[a]'h).toNat < 128) (h2 : s.size < a + (s[a]'h).toNat + 2) : Sq.decode s.data.toList [] = none := by
  rw [← he, drop_at s a h, Sq.decode_run_no _ _ _ h1 (by rw [List.length_drop, len_size]; omega)]
theorem at_mat {s : ByteArray} {o : List UInt8} {a : Nat} (h : a + 1 < s.size) (he : Sq.decode (s.data.toList.drop a) o = Sq.decode s.data.toList []) (h1 : ¬ (s[a]'(by omega)).toNat < 128) (h2 : (s[a]'(by omega)).toNat ≤ 191 ∧ 1 ≤ (s[a + 1]'h).toNat ∧ (s[a + 1]'h).toNat ≤ o.length) :
    Sq.decode (s.data.toList.drop (a + 2)) (Sq.copyN o (s[a + 1]'h).toNat ((s[a]'(by omega)).toNat - 125)) = Sq.decode s.data.toList [] := by
  rw [← he, drop_at s a (by omega), drop_at s (a + 1) h, Sq.decode_match _ _ _ _ h1 h2]
theorem at_mat_no {s : ByteArray} {o : List UInt8} {a : Nat} (h : a + 1 < s.size) (he : Sq.decode (s.data.toList.drop a) o = Sq.decode s.data.toList []) (h1 : ¬ (s[a]'(by omega)).toNat < 128) (h2 : ¬ ((s[a]'(by omega)).toNat ≤ 191 ∧ 1 ≤ (s[a + 1]'h).toNat ∧ (s[a + 1]'h).toNat ≤ o.length)) : Sq.decode s.data.toList [] = none := by
  rw [← he, drop_at s a (by omega), drop_at s (a + 1) h, Sq.decode_match_no _ _ _ _ h1 h2]
theorem at_mat_end {s : ByteArray} {o : List UInt8} {a : Nat} (h : a < s.size) (hs : ¬ a + 1 < s.size) (he : Sq.decode (s.data.toList.drop a) o = Sq.decode s.data.toList []) (h1 : ¬ (s[a]'h).toNat < 128) : Sq.decode s.data.toList [] = none := by
  rw [← he, drop_at s a h, List.drop_eq_nil_of_le (by rw [len_size]; omega), Sq.decode_match_end _ _ h1]

set_option maxHeartbeats 4000000 in
set_option maxRecDepth 20000 in
theorem refSpread_any (s : ByteArray) (w : World) (hs : s.size ≤ 68719476736) :
    Calls Tryz.prog 95 #[.string s] w fun r w' => r = .returned (.tuple #[.string (spreadS s.data.toList), .int .i64 (spreadE s.data.toList)]) ∧ Below w.heap.size w w' := by
  go_enter Tryz.func95, Tryz.ntmps95
  go_wp2_with fail
  go_loopw [4, 5] (fun u i wr => ∃ (o : List UInt8) (a : Nat), a ≤ s.size ∧ i = .int .i64 a ∧ Owns w.heap.size wr u o ∧ Below w.heap.size w wr ∧ o.length + 66 * (s.size - a) ≤ 66 * s.size ∧ Sq.decode (s.data.toList.drop a) o = Sq.decode s.data.toList []) (fun _ i _ => s.size - (intOf i).toNat)
  case atStart => exact ⟨[], 0, Nat.zero_le _, rfl, Owns.nil _ _, Below.refl _ _, by simp, rfl⟩
  case round =>
    obtain ⟨o, a, ha, rfl, ho, hb, hol, heq⟩ := hrel
    have HEQ := hid heq
    have HO := hid ho
    have HB := hid hb
    have hsz := hb.size
    clear heq ho hb
    by_cases h0 : a < s.size
    · have hc0 : (s[a]'h0).toNat < 256 := (s[a]'h0).toNat_lt
      by_cases h128 : (s[a]'h0).toNat < 128
      · by_cases hle : a + (s[a]'h0).toNat + 2 ≤ s.size
        · have HE := hid (at_run h0 HEQ.out h128 hle)
          generalize hn : (s[a]'h0).toNat = n at *
          go_wp2_with (first
            | (at_builtin; refine wpApS wr rfl (.tmp 29) (.tmp 36) rfl w.heap.size u4 o rfl HO.out (s.extract (a + 1) (a + 1 + n + 1)) rfl (by rw [ByteArray.size_extract]; omega) hsz ?_))
          intro v1 w1 ho1 hb1
          have ho1' : Owns w.heap.size w1 v1 (o ++ List.take (n + 1) (List.drop (a + 1) s.data.toList)) := by
            rw [show a + 1 + n - a = n + 1 by omega] at ho1; exact ho1
          have HO1 := hid ho1'
          have HB1 := hid (HB.out.trans hb1)
          clear ho1 hb1 ho1'
          go_wp2_with fail
          go_roundw
          case rel => exact ⟨_, a + n + 2, hle, int_eq (by omega), HO1.out, HB1.out, by simp; omega, HE.out⟩
          case measure => simp [intOf]; omega
        · have HE := hid (end_no (at_run_no h0 HEQ.out h128 (by omega)))
          generalize hn : (s[a]'h0).toNat = n at *
          go_wp2_with fail
          go_ret2
          rw [HE.out.1, HE.out.2]
          exact ⟨rfl, HB.out⟩
      · by_cases h1 : a + 1 < s.size
        · by_cases hok : (s[a]'h0).toNat ≤ 191 ∧ 1 ≤ (s[a + 1]'h1).toNat ∧ (s[a + 1]'h1).toNat ≤ o.length
          · have HE := hid (at_mat h1 HEQ.out h128 hok)
            have hc1 : (s[a + 1]'h1).toNat < 256 := (s[a + 1]'h1).toNat_lt
            obtain ⟨va, vc, hv⟩ := HO.out.shape
            subst hv
            generalize hn : (s[a]'h0).toNat = n at *
            generalize hd : (s[a + 1]'h1).toNat = d at *
            have hz : ((d : Int) == 0) = false := by simp; omega
            have hi1 : (a : Int) + 1 < (s.size : Int) := by omega
            have b1 : decide ((n : Int) < 128) = false := by simp; omega
            have b2 : decide ((191 : Int) < (n : Int)) = false := by simp; omega
            have b3 : decide ((s.size : Int) ≤ (a : Int) + 1) = false := by simp; omega
            have b4 : decide (o.length < d) = false := by simp; omega
            go_wp2_with fail
            clear b1 b2 b3 b4 hz
            go_loopw [4, 8] (fun u i wi => ∃ k : Nat, k + 125 ≤ n ∧ i = .int .i64 k ∧ Owns w.heap.size wi u (Sq.copyN o d k) ∧ Below w.heap.size w wi) (fun _ i _ => n - (intOf i).toNat)
            case atStart => exact ⟨0, by omega, rfl, HO.out, HB.out⟩
            case round =>
              obtain ⟨k, hk, rfl, hoi, hbi⟩ := hrel
              have HLEN := hid (Sq.copyN_len k o d)
              have HOI := hid hoi
              have HBI := hid hbi
              have hszi := hbi.size
              clear hoi hbi
              by_cases hlt : k + 125 < n
              · have HS := hid (Sq.copyN_succ k o d)
                generalize hcy : Sq.copyN o d k = cy at *
                have hl1 : d ≤ cy.length ∧ cy.length ≤ 140737488355000 ∧ 1 ≤ cy.length := by have := HLEN.out; omega
                obtain ⟨b, hb⟩ : ∃ b, cy[cy.length - d]? = some b := ⟨cy[cy.length - d]'(by omega), List.getElem?_eq_getElem _⟩
                obtain ⟨g, c, hv, hg1, hg2⟩ := HOI.out.shape_pos (by omega)
                subst hv
                have hcell := HOI.out.cellAt (cy.length - d) b hb
                have HBB := hid hb
                clear hb hcy
                generalize hcl : cy.length = m at *
                have HCL := hid hcl
                clear hcl
                have hi3 : (0 : Int) ≤ (m : Int) - (d : Int) := by omega
                have hi4 : (m : Int) - (d : Int) < (m : Int) := by omega
                go_wp2_with (first
                  | (at_builtin; refine wpAp1 wr rfl (.tmp 77) (.tmp 85) rfl w.heap.size (.slice (some ⟨g, 0, none⟩) m c) cy rfl HOI.out b _ rfl rfl (by rw [HCL.out]; omega) (by omega) ?_))
                intro v2 w2 ho2 hg2 _
                have HO2 := hid ho2
                have HB2 := hid (HBI.out.trans (below_of_grown HOI.out (by omega) hg2))
                clear ho2 hg2
                go_wp2_with fail
                go_roundw
                case rel =>
                  refine ⟨k + 1, by omega, by go_num, ?_, HB2.out⟩
                  rw [HS.out, List.getD_eq_getElem?_getD, HBB.out]
                  exact HO2.out
                case measure => simp [intOf]; omega
              · have hkn : n - 125 = k := by omega
                rw [hkn] at HE
                clear hkn
                go_wp2_with fail
                go_roundw
                case rel => exact ⟨_, a + 2, by omega, int_eq (by omega), HOI.out, HBI.out, by rw [HLEN.out]; omega, HE.out⟩
                case measure => simp [intOf]; omega
          · have HE := hid (end_no (at_mat_no h1 HEQ.out h128 hok))
            have hc1 : (s[a + 1]'h1).toNat < 256 := (s[a + 1]'h1).toNat_lt
            obtain ⟨va, vc, hv⟩ := HO.out.shape
            subst hv
            generalize hn : (s[a]'h0).toNat = n at *
            generalize hd : (s[a + 1]'h1).toNat = d at *
            have hi1 : (a : Int) + 1 < (s.size : Int) := by omega
            by_cases h191 : 191 < n
            · go_wp2_with fail
              go_ret2
              rw [HE.out.1, HE.out.2]
              exact ⟨rfl, HB.out⟩
            · by_cases hz : d = 0
              · subst hz
                go_wp2_with fail
                go_ret2
                rw [HE.out.1, HE.out.2]
                exact ⟨rfl, HB.out⟩
              · have hz : ((d : Int) == 0) = false := by simp; omega
                go_wp2_with fail
                go_ret2
                rw [HE.out.1, HE.out.2]
                exact ⟨rfl, HB.out⟩
        · have HE := hid (end_no (at_mat_end h0 h1 HEQ.out h128))
          generalize hn : (s[a]'h0).toNat = n at *
          by_cases h191 : 191 < n
          · go_wp2_with fail
            go_ret2
            rw [HE.out.1, HE.out.2]
            exact ⟨rfl, HB.out⟩
          · go_wp2_with fail
            go_ret2
            rw [HE.out.1, HE.out.2]
            exact ⟨rfl, HB.out⟩
    · have hcv := HO.out.str
      have HD : Hid (Sq.decode s.data.toList [] = some o) := by
        rw [← HEQ.out, List.drop_eq_nil_of_le (by rw [len_size]; omega), Sq.decode_nil]; exact rfl
      have hlen := Sq.decode_le _ _ _ HD.out
      rw [len_size] at hlen
      have HES := hid (end_some HD.out)
      go_wp2_with fail
      refine (refSqueeze_any ⟨o.toArray⟩ _ (by show o.toArray.size ≤ _; simp at hlen ⊢; omega)).mono ?_
      rintro r w2 ⟨rfl, hb2⟩
      have HB2 := hid (HB.out.trans (hb2.mono hsz))
      have hcv2 := (HO.out.below hb2 (fun k hk => (World.ownsRow.lt HO.out k hk).2)).str
      clear hb2 hcv
      by_cases he : Sq.squeeze o = s.data.toList
      · have HF := hid (HES.out.1 he)
        go_wp2_with fail
        go_ret2
        rw [HF.out.1, HF.out.2]
        exact ⟨rfl, HB2.out⟩
      · have HF := hid (HES.out.2 he)
        have hne : (!Sq.squeeze o == s.toList) = true := by rw [toList_is]; simpa using he
        clear hcv2
        go_wp2_with fail
        go_ret2
        rw [HF.out.1, HF.out.2]
        exact ⟨rfl, HB2.out⟩
end Go.Proofs.YtolgpnaoaodepaaGreat
/- The walks of the statements' own steps: num, squeezed, step (of the kinds 1 and 2), looks (of an empty book). -/
namespace Go.Proofs.YtolgpnaoaodepaaGreat
open Go.RowKit

set_option maxHeartbeats 400000 in
theorem num_any (e : Int) (w : World) : Calls Tryz.prog 96 #[.int .i64 e] w fun r w' => r = .returned (.int .i64 e) ∧ w' = w := by
  go_enter Tryz.func96, Tryz.ntmps96
  go_wp2
  go_ret
  exact ⟨rfl, rfl⟩

theorem bcell {W w1 : World} {B : Nat} (hb : Below B W w1) : (∀ b o, b < B → w1.cell? ⟨b, o, none⟩ = W.cell? ⟨b, o, none⟩) :=
  fun b o h => hb.cell (p := ⟨b, o, none⟩) h

set_option maxHeartbeats 1000000 in
theorem squeezed_any (k : Int) (s : ByteArray) (c1 c3 c4 c5 c6 c7 c8 c9 c10 c11 c12 : Value) (w : World) (hs : s.size ≤ 68719476736) :
    Calls Tryz.prog 50 #[.agg #[.int .i64 k, c1, .string s, c3, c4, c5, c6, c7, c8, c9, c10, c11, c12]] w fun r w' => r = .returned (.bool true) ∧ Below w.heap.size w w' := by
  by_cases hk : k = 1
  · subst hk
    go_enter Tryz.func50, Tryz.ntmps50
    go_wp2_with fail
    refine (siltSqueeze_any s _ (by omega)).mono ?_
    rintro r w1 ⟨rfl, hb1⟩
    have hc1 := bcell hb1
    simp only [World.size_alloc] at hc1
    have hsz1 := hb1.size
    simp only [World.size_alloc] at hsz1
    have HB1 := hid hb1
    clear hb1
    go_wp2_with fail
    refine (refSqueeze_any s _ (by omega)).mono ?_
    rintro r w2 ⟨rfl, hb2⟩
    have HB2 := hid ((((Below.refl w.heap.size w).alloc (Nat.le_refl _) _).trans (HB1.out.mono (by simp))).trans (hb2.mono (by omega)))
    clear hb2 hc1
    go_wp2_with fail
    go_ret
    exact ⟨rfl, HB2.out⟩
  · have hk' : (k == 1) = false := by simpa using hk
    go_enter Tryz.func50, Tryz.ntmps50
    go_wp2_with fail
    refine (siltSpread_any s _ hs).mono ?_
    rintro r w1 ⟨rfl, hb1⟩
    have hc1 := bcell hb1
    simp only [World.size_alloc] at hc1
    have hsz1 := hb1.size
    simp only [World.size_alloc] at hsz1
    have HB1 := hid hb1
    clear hb1
    go_wp2_with fail
    refine (refSpread_any s _ hs).mono ?_
    rintro r w2 ⟨rfl, hb2⟩
    have HB2 := hid ((((Below.refl w.heap.size w).alloc (Nat.le_refl _) _).trans (HB1.out.mono (by simp))).trans (hb2.mono (by omega)))
    clear hb2 hc1
    go_wp2_with (go_at_call 96; refine (num_any _ _).mono ?_; rintro e w' ⟨rfl, rfl⟩)
    go_ret
    exact ⟨rfl, HB2.out⟩

/-- The steps of the kinds 1 and 2. -/
theorem step12_any (k : Int) (p : Addr) (s : ByteArray) (c1 c3 c4 c5 c6 c7 c8 c9 c10 c11 c12 : Value) (w : World) (hs : s.size ≤ 68719476736) (hk : k = 1 ∨ k = 2) :
    Calls Tryz.prog 28 #[.pointer (some p), .agg #[.int .i64 k, c1, .string s, c3, c4, c5, c6, c7, c8, c9, c10, c11, c12]] w fun r w' => r = .returned (.bool true) ∧ Below w.heap.size w w' := by
  rcases hk with rfl | rfl
  all_goals
    go_enter Tryz.func28, Tryz.ntmps28
    go_wp2_with fail
    refine (squeezed_any _ s _ _ _ _ _ _ _ _ _ _ _ _ hs).mono ?_
    rintro r w1 ⟨rfl, hb1⟩
    have HB1 := hid (((Below.refl w.heap.size w).alloc (Nat.le_refl _) _).trans (hb1.mono (by simp)))
    clear hb1
    go_wp2_with fail
    go_ret
    exact ⟨rfl, HB1.out⟩

set_option maxHeartbeats 2000000 in
set_option maxRecDepth 100000 in
theorem looks_none (b : Nat) (w : World) (h1 : w.cell? ⟨b, 1, none⟩ = some (.slice none 0 0)) (h3 : w.cell? ⟨b, 3, none⟩ = some (.slice none 0 0)) (h5 : w.cell? ⟨b, 5, none⟩ = some (.slice none 0 0)) (h7 : w.cell? ⟨b, 7, none⟩ = some (.slice none 0 0)) :
    Calls Tryz.prog 30 #[.pointer (some ⟨b, 1, none⟩)] w fun r w' => r = .returned (.bool true) ∧ Below w.heap.size w w' := by
  go_enter Tryz.func30, Tryz.ntmps30
  go_wp2_with fail
  go_loop [3] (fun i => i = .int .i64 0) (fun _ => 0)
  case atStart => rfl
  case round =>
    subst hrel
    go_wp2_with fail
    go_loop [5] (fun i => i = .int .i64 0) (fun _ => 0)
    case atStart => rfl
    case round =>
      subst hrel
      go_wp2_with fail
      go_loop [7] (fun i => i = .int .i64 0) (fun _ => 0)
      case atStart => rfl
      case round =>
        subst hrel
        go_wp2_with fail
        go_loop [9] (fun i => i = .int .i64 0) (fun _ => 0)
        case atStart => rfl
        case round =>
          subst hrel
          go_wp2_with fail
          go_ret
          exact ⟨rfl, Below.refl _ _⟩
end Go.Proofs.YtolgpnaoaodepaaGreat
