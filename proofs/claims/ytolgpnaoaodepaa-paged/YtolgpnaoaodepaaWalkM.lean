/- The walks of pages' commonFront and basement. -/
import Derived.Test.YtolgpnaoaodepaaWalkL
namespace Go.Proofs.Ytolgpnaoaodepaa
open Go.RowKit

theorem Grew.ne {w w' : World} {v v' : Value} (h : Grew w w' v v') {k : Nat} (hk : k < w.heap.size) (hne : v.ownBlock ≠ some k) : v'.ownBlock ≠ some k := by
  rcases h.2 with e | ⟨j, hj, e⟩
  · rw [e]; exact hne
  · rw [e]; intro e'; have : j = k := by simpa using e'
    omega

set_option maxHeartbeats 1000000 in
set_option maxRecDepth 20000 in
theorem front_any (s t : ByteArray) (w : World) (hs : s.size ≤ 35184372088832) :
    Calls Try.prog 77 #[.string s, .string t] w fun r w' => r = .returned (.int .i64 (Pg.common s.data.toList t.data.toList)) ∧ ∃ q, w' = w.drewN q := by
  obtain ⟨m, hm⟩ : ∃ m : Nat, m = min s.size t.size := ⟨_, rfl⟩
  have hm1 : min (s.size : Int) (t.size : Int) = (m : Int) := by omega
  have hms : m ≤ s.size ∧ m ≤ t.size ∧ (m = s.size ∨ m = t.size) := by omega
  clear hm
  go_enter Try.func77, Try.ntmps77
  go_wp2_with fail
  go_loopw [5] (fun i wr => ∃ k : Nat, k ≤ m ∧ i = .int .i64 k ∧ (∀ j, j < k → ∃ x, s.data.toList[j]? = some x ∧ t.data.toList[j]? = some x) ∧ ∃ q, wr = w.drewN q) (fun i _ => m - (intOf i).toNat)
  case atStart => exact ⟨0, Nat.zero_le _, rfl, fun j h => by omega, 0, rfl⟩
  case round =>
    obtain ⟨k, hk1, rfl, hj, q, rfl⟩ := hrel
    have HJ := hid hj
    clear hj
    by_cases hlt : k < m
    · have h1 : (k : Int) < (s.size : Int) := by omega
      have h2 : (k : Int) < (t.size : Int) := by omega
      have h3 : decide ((k : Int) < (m : Int)) = true := by simp; omega
      go_wp2_with fail
      go_quiet (fail)
      go_wp2_with fail
      · have hb := byte_eq2 s t k (by omega) (by omega) (by assumption)
        go_roundw
        case rel =>
          refine ⟨k + 1, by omega, by go_num, fun j hj => ?_, _, rfl⟩
          by_cases ej : j = k
          · rw [ej]; exact hb
          · exact HJ.out j (by omega)
        case measure => simp [intOf]; omega
      · have hb := byte_ne2 s t k (by omega) (by omega) (by assumption)
        go_ret
        exact ⟨ret_int (by rw [Pg.common_stop k _ _ HJ.out (.inr (.inr hb))]), _, World.drewN_drewN _ _ _⟩
    · have hd : decide ((k : Int) < (m : Int)) = false := by simp; omega
      have HF := hid (Pg.common_stop k s.data.toList t.data.toList HJ.out (by rw [len_size, len_size]; omega))
      go_wp2_with fail
      go_quiet (fail)
      go_wp2_with fail
      go_ret
      exact ⟨ret_int (by rw [HF.out]), _, World.drewN_drewN _ _ _⟩

set_option maxHeartbeats 2000000 in
set_option maxRecDepth 20000 in
theorem base_at (b off cap : Nat) (l : List (ByteArray × ByteArray)) (w : World) (hl : l.length ≤ 1000) (hit : ItemsAt w b off l) (hb : b < w.heap.size) (hsz : ∀ x ∈ l, x.1.size ≤ 10000000 ∧ x.2.size ≤ 10000000) :
    Calls Try.prog 55 #[.slice (some ⟨b, off, none⟩) l.length cap] w fun r w' => ∃ v', r = .returned v' ∧ Owns w.heap.size w' v' (Pg.basement (plain l)) ∧ Below w.heap.size w w' := by
  have HIT := hid hit
  have HSZ := hid hsz
  clear hit hsz
  obtain ⟨bt, hbt, hbl⟩ := low1 l.length
  have HBT := hid hbt
  have HST : Hid ([bt] ++ Pg.items [] (plain l) = Pg.basement (plain l)) := by show _ = _; unfold Pg.basement plain; rw [List.length_map, hbl]
  clear hbt hbl
  go_enter Try.func55, Try.ntmps55
  go_wp2_with fail
  have hlit := owns_lit w w.heap.size (Nat.le_refl _) [bt] #[.int .u8 ((l.length : Int) % 256)] (by simp [Lib.byteCells]; rw [HBT.out]; omega) (by simp)
  have HLIT := hid hlit
  have HBL := hid ((Below.refl w.heap.size w).alloc (Nat.le_refl _) (.cells #[.int .u8 ((l.length : Int) % 256)] 5))
  clear hlit
  go_loopw [3, 4, 14] (fun u last i wr => ∃ (k : Nat) (o : List UInt8) (lb : ByteArray), k ≤ l.length ∧ i = .int .i64 k ∧ last = .string lb ∧ lb.size ≤ 10000000 ∧ o.length ≤ 1 + k * 20000100 ∧ Owns w.heap.size wr u o ∧ Below w.heap.size w wr ∧ o ++ Pg.items lb.data.toList (plain (l.drop k)) = Pg.basement (plain l)) (fun _ _ i _ => l.length - (intOf i).toNat)
  case atStart => exact ⟨0, [bt], ⟨#[]⟩, Nat.zero_le _, rfl, rfl, by decide, by simp, HLIT.out, HBL.out, by simpa using HST.out⟩
  case round =>
    clear HLIT HBL
    obtain ⟨k, o, lb, hk, rfl, rfl, hlb, hol, hown, hbel, heq⟩ := hrel
    have HEQ := hid heq
    have HBEL := hid hbel
    have HOWN := hid hown
    have hszr := hbel.size
    clear heq hbel hown
    by_cases hkl : k < l.length
    · obtain ⟨c0, c1⟩ := HIT.out.below HBEL.out hb k hkl
      have hs2 := HSZ.out _ (List.getElem_mem hkl)
      have HNX : Hid (plain (l.drop k) = ((l[k]'hkl).1.data.toList, (l[k]'hkl).2.data.toList) :: plain (l.drop (k + 1))) := by
        show _ = _; rw [List.drop_eq_getElem_cons hkl]; rfl
      generalize l[k]'hkl = x at *
      obtain ⟨kb, vb⟩ := x
      simp only at c0 c1 hs2
      go_wp2_with fail
      refine (front_any lb kb _ (by omega)).mono ?_
      rintro r w2 ⟨rfl, q, rfl⟩
      have hcm := Pg.common_le lb.data.toList kb.data.toList
      rw [len_size, len_size] at hcm
      have HIS : Hid (Pg.items lb.data.toList (plain (l.drop k)) = Pg.low (Pg.common lb.data.toList kb.data.toList) 1 ++ Pg.text (kb.data.toList.drop (Pg.common lb.data.toList kb.data.toList)) ++ Pg.text vb.data.toList ++ Pg.items kb.data.toList (plain (l.drop (k + 1)))) := by
        show _ = _; rw [HNX.out]; rfl
      generalize Pg.common lb.data.toList kb.data.toList = cm at *
      have d0 : ((wr.alloc (.cells #[.string kb, .string vb] 43)).drewN q).cell? ⟨wr.heap.size, 0, none⟩ = some (.string kb) := by simp
      have d1 : ((wr.alloc (.cells #[.string kb, .string vb] 43)).drewN q).cell? ⟨wr.heap.size, 1, none⟩ = some (.string vb) := by simp
      have HN2 := hid (own_lt HOWN.out (Nat.le_refl wr.heap.size))
      have HO2 := hid ((HOWN.out.alloc (.cells #[.string kb, .string vb] 43)).drewN q)
      have HB2 := hid (below_drewN (HBEL.out.alloc hszr (.cells #[.string kb, .string vb] 43)) q)
      have hs3 : ((wr.alloc (.cells #[.string kb, .string vb] 43)).drewN q).heap.size > wr.heap.size := by simp
      generalize (wr.alloc (.cells #[.string kb, .string vb] 43)).drewN q = w2 at *
      obtain ⟨bc, hbc, hbl⟩ := low1 cm
      have HBC := hid hbc
      have HBL := hid hbl
      clear hbc hbl c0 c1
      go_wp2_with (first
        | (at_builtin; refine wpAp1 w2 rfl (.tmp 22) (.tmp 25) rfl w.heap.size u3 o rfl HO2.out bc _ ?_ rfl ?_ ?_ ?_))
      · rw [HBC.out]; omega
      · omega
      · omega
      intro v3 w3 ho3 hg3 hat3
      have HO3 := hid ho3
      have hgr := grew_alloc hg3 hat3
      have HB3 := hid (HB2.out.trans (hgr.below HO2.out (by omega)))
      have hs4 := hgr.size
      have e0 := hgr.cell d0 HN2.out
      have e1 := hgr.cell d1 HN2.out
      have HN3 := hid (hgr.ne (by omega) HN2.out)
      clear ho3 hg3 hat3 hgr d0 d1
      have hi1 : (0 : Int) ≤ (cm : Int) := by omega
      have hi2 : (cm : Int) ≤ (kb.size : Int) := by omega
      go_wp2_with fail
      refine (apText_any w.heap.size v3 _ (kb.extract cm kb.size) _ HO3.out (by omega) (by simp; omega) (by rw [ByteArray.size_extract]; omega)).mono ?_
      rintro r w4 ⟨v4, rfl, ho4, hg4⟩
      have ht1 := text_len (kb.data.toList.drop cm) (by rw [List.length_drop, len_size]; omega)
      rw [List.length_drop, len_size] at ht1
      rw [drop_data] at ho4
      have HO4 := hid ho4
      have HB4 := hid (HB3.out.trans (hg4.below HO3.out (by omega)))
      have hs5 := hg4.size
      have f0 := hg4.cell e0 HN3.out
      have f1 := hg4.cell e1 HN3.out
      have HN4 := hid (hg4.ne (by omega) HN3.out)
      clear ho4 hg4 e0 e1
      go_wp2_with fail
      refine (apText_any w.heap.size v4 _ vb _ HO4.out (by omega) (by simp; omega) (by omega)).mono ?_
      rintro r w5 ⟨v5, rfl, ho5, hg5⟩
      have ht2 := text_len vb.data.toList (by rw [len_size]; omega)
      rw [len_size] at ht2
      have HO5 := hid ho5
      have HB5 := hid (HB4.out.trans (hg5.below HO4.out (by omega)))
      have g0 := hg5.cell f0 HN4.out
      clear ho5 hg5 f0 f1
      go_wp2_with fail
      go_roundw
      case rel =>
        refine ⟨k + 1, _, kb, by omega, by go_num, rfl, hs2.1, ?_, HO5.out, HB5.out, ?_⟩
        · simp only [List.length_append, List.length_singleton]; omega
        · rw [← HEQ.out, HIS.out, HBL.out]; simp
      case measure => simp [intOf]; omega
    · have HF : Hid (o = Pg.basement (plain l)) := by
        show _ = _; rw [← HEQ.out, List.drop_eq_nil_of_le (by omega)]; simp [plain, Pg.items]
      go_wp2_with fail
      go_ret
      exact ⟨_, rfl, by rw [← HF.out]; exact HOWN.out, HBEL.out⟩
set_option maxHeartbeats 1000000 in
set_option maxRecDepth 20000 in
theorem base_nil (a : Option Addr) (cap : Nat) (w : World) :
    Calls Try.prog 55 #[.slice a 0 cap] w fun r w' => ∃ v', r = .returned v' ∧ Owns w.heap.size w' v' (Pg.basement []) ∧ Below w.heap.size w w' := by
  have hlit := owns_lit w w.heap.size (Nat.le_refl _) [0] #[.int .u8 0] (by simp [Lib.byteCells]) (by simp)
  have HLIT := hid hlit
  have HBL := hid ((Below.refl w.heap.size w).alloc (Nat.le_refl _) (.cells #[.int .u8 0] 5))
  clear hlit
  go_enter Try.func55, Try.ntmps55
  go_wp2_with fail
  go_loopw [3, 4, 14] (fun u _ i wr => i = .int .i64 0 ∧ Owns w.heap.size wr u [0] ∧ Below w.heap.size w wr) (fun _ _ _ _ => 0)
  case atStart => exact ⟨rfl, HLIT.out, HBL.out⟩
  case round =>
    obtain ⟨rfl, ho, hb⟩ := hrel
    go_wp2_with fail
    go_ret
    exact ⟨_, rfl, ho, hb⟩
theorem base_any (v : Value) (l : List (ByteArray × ByteArray)) (w : World) (hv : IsItems w v l) (hl : l.length ≤ 1000) (hsz : ∀ x ∈ l, x.1.size ≤ 10000000 ∧ x.2.size ≤ 10000000) :
    Calls Try.prog 55 #[v] w fun r w' => ∃ v', r = .returned v' ∧ Owns w.heap.size w' v' (Pg.basement (plain l)) ∧ Below w.heap.size w w' := by
  rcases hv with ⟨a, cap, rfl, rfl⟩ | ⟨b, off, cap, rfl, -, -, hb, hit⟩
  · exact base_nil a cap w
  · exact base_at b off cap l w hl hit hb hsz
end Go.Proofs.Ytolgpnaoaodepaa
