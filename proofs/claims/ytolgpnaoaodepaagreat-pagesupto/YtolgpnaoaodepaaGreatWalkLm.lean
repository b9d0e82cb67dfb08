/- The walks of pages' writeSection, commonFront, basement, sealHead. -/
import Derived.Test.YtolgpnaoaodepaaGreatLawMm
import Derived.Test.YtolgpnaoaodepaaGreatMathEm
namespace Go.Proofs.YtolgpnaoaodepaaGreat
open Go.RowKit

theorem own_lt {B : Nat} {w : World} {v : Value} {T : TypeId} {sz n : Nat} {xs : List Value} (h : w.ownsRow B T sz v n xs) {k : Nat} (hk : w.heap.size ≤ k) : v.ownBlock ≠ some k := fun e => by
  have := (World.ownsRow.lt h k e).2; omega
theorem section_yes {k c : List UInt8} (h : (Sq.squeeze c).length < c.length) : Pg.section_ k c = Pg.sealed (k ++ Pg.low 1 1 ++ Pg.num c.length ++ Pg.text (Sq.squeeze c)) := by unfold Pg.section_; rw [if_pos h]
theorem section_no {k c : List UInt8} (h : ¬ (Sq.squeeze c).length < c.length) : Pg.section_ k c = Pg.sealed (k ++ Pg.low 0 1 ++ Pg.num c.length ++ Pg.text c) := by unfold Pg.section_; rw [if_neg h]

set_option maxHeartbeats 1000000 in
set_option maxRecDepth 20000 in
theorem writeSec_cv (k : UInt8) (v : Value) (l : List UInt8) (w : World) (hsh : ∃ a c, v = .slice a l.length c) (hst : ∀ w' : World, w'.heap = w.heap → (convert 108 9 v).run Tryz.prog w' = .ok (.string ⟨l.toArray⟩) w') (hl : l.length ≤ 10000000000) :
    Calls Tryz.prog 178 #[.int .u8 (k.toNat : Int), v] w fun r w' => r = .returned (.string ⟨(Pg.section_ [k] l).toArray⟩) ∧ Below w.heap.size w w' := by
  have hkb : k.toNat < 256 := k.toNat_lt
  have hcv := hst w rfl
  have hcv2 := hst w.drew rfl
  have hcvn : ∀ q, (convert 108 9 v).run Tryz.prog (w.drewN q) = .ok (.string ⟨l.toArray⟩) (w.drewN q) := fun q => hst (w.drewN q) rfl
  obtain ⟨va, vc, rfl⟩ := hsh
  clear hst
  go_enter Tryz.func178, Tryz.ntmps178
  go_wp2_with fail
  go_quiet (fail)
  clear hcv hcv2 hcvn
  go_wp2_with fail
  refine (squeeze_any ⟨l.toArray⟩ _ (by rw [size_mk]; omega)).mono ?_
  rintro r w1 ⟨rfl, hb1⟩
  rw [show (⟨l.toArray⟩ : ByteArray).data.toList = l from rfl]
  have HB1 := hid ((below_drewN (Below.refl w.heap.size w) nq).trans (hb1.mono (by simp)))
  have hsl := Sq.squeeze_le l
  have hsz1 := HB1.out.size
  clear hb1
  by_cases hlt : (Sq.squeeze l).length < l.length
  · have HS := hid (section_yes (k := [k]) hlt)
    generalize hsq : Sq.squeeze l = sq at *
    have hlt' : ((sq.length : Int) < (l.length : Int)) := by omega
    have hzz := size_mk sq
    go_wp2_with fail
    have hlit := owns_lit w1 w1.heap.size (Nat.le_refl _) [k, 1] #[.int .u8 (k.toNat : Int), .int .u8 1] (by simp [Lib.byteCells]) (by simp)
    refine (apNum_any w1.heap.size _ [k, 1] l.length _ hlit (by simp) (by simp) (by omega)).mono ?_
    rintro r w2 ⟨v2, rfl, ho2, hg2⟩
    have HO2 := hid ho2
    have HB2 := hid (((Below.refl w1.heap.size w1).alloc (Nat.le_refl _) _).trans (hg2.below hlit (by simp)))
    have hsz2 := HB2.out.size
    clear ho2 hg2 hlit
    have hnl := num_short l.length (by omega)
    go_wp2_with fail
    refine (apText_any w1.heap.size v2 _ ⟨sq.toArray⟩ _ HO2.out hsz2 (by simp; omega) (by rw [size_mk]; omega)).mono ?_
    rintro r w3 ⟨v3, rfl, ho3, hg3⟩
    have HO3 := hid ho3
    have HB3 := hid (HB2.out.trans (hg3.below HO2.out hsz2))
    have hsz3 := HB3.out.size
    clear ho3 hg3
    go_wp2_with fail
    have htl := text_len sq (by omega)
    refine (seal_any w1.heap.size v3 _ _ HO3.out hsz3 (by simp; omega)).mono ?_
    rintro r w4 ⟨v4, rfl, ho4, hg4⟩
    have hcv := ho4.str
    have HB4 := hid (HB3.out.trans (hg4.below HO3.out hsz3))
    clear ho4 hg4
    have HFIN : Hid (Pg.sealed ([k, 1] ++ Pg.num l.length ++ Pg.text sq) = Pg.section_ [k] l) := by
      show _ = _; rw [HS.out]; rfl
    rw [HFIN.out] at hcv
    go_wp2_with fail
    go_ret
    exact ⟨rfl, HB1.out.trans (HB4.out.mono hsz1)⟩
  · have HS := hid (section_no (k := [k]) hlt)
    generalize hsq : Sq.squeeze l = sq at *
    have hlt' : ¬ ((sq.length : Int) < (l.length : Int)) := by omega
    have hzz := size_mk sq
    go_wp2_with fail
    have hlit := owns_lit w1 w1.heap.size (Nat.le_refl _) [k, 0] #[.int .u8 (k.toNat : Int), .int .u8 0] (by simp [Lib.byteCells]) (by simp)
    refine (apNum_any w1.heap.size _ [k, 0] l.length _ hlit (by simp) (by simp) (by omega)).mono ?_
    rintro r w2 ⟨v2, rfl, ho2, hg2⟩
    have HO2 := hid ho2
    have HB2 := hid (((Below.refl w1.heap.size w1).alloc (Nat.le_refl _) _).trans (hg2.below hlit (by simp)))
    have hsz2 := HB2.out.size
    clear ho2 hg2 hlit
    have hnl := num_short l.length (by omega)
    go_wp2_with fail
    refine (apText_any w1.heap.size v2 _ ⟨l.toArray⟩ _ HO2.out hsz2 (by simp; omega) (by rw [size_mk]; omega)).mono ?_
    rintro r w3 ⟨v3, rfl, ho3, hg3⟩
    have HO3 := hid ho3
    have HB3 := hid (HB2.out.trans (hg3.below HO2.out hsz2))
    have hsz3 := HB3.out.size
    clear ho3 hg3
    go_wp2_with fail
    have htl := text_len l (by omega)
    refine (seal_any w1.heap.size v3 _ _ HO3.out hsz3 (by simp; omega)).mono ?_
    rintro r w4 ⟨v4, rfl, ho4, hg4⟩
    have hcv := ho4.str
    have HB4 := hid (HB3.out.trans (hg4.below HO3.out hsz3))
    clear ho4 hg4
    have HFIN : Hid (Pg.sealed ([k, 0] ++ Pg.num l.length ++ Pg.text l) = Pg.section_ [k] l) := by
      show _ = _; rw [HS.out]; rfl
    rw [HFIN.out] at hcv
    go_wp2_with fail
    go_ret
    exact ⟨rfl, HB1.out.trans (HB4.out.mono hsz1)⟩

theorem writeSec_any (B : Nat) (k : UInt8) (v : Value) (l : List UInt8) (w : World) (hown : Owns B w v l) (hl : l.length ≤ 10000000000) :
    Calls Tryz.prog 178 #[.int .u8 (k.toNat : Int), v] w fun r w' => r = .returned (.string ⟨(Pg.section_ [k] l).toArray⟩) ∧ Below w.heap.size w w' := by
  refine writeSec_cv k v l w hown.shape (fun w' he => ?_) hl
  have : Owns B w' v l := by unfold Owns World.ownsRow at *; rw [he]; exact hown
  exact this.str
set_option maxHeartbeats 1000000 in
set_option maxRecDepth 20000 in
theorem sealHead_any (B : Nat) (v : Value) (l : List UInt8) (w : World) (hown : Owns B w v l) (hB : B ≤ w.heap.size) (hp : 0 < l.length) (hl : l.length ≤ 64) :
    Calls Tryz.prog 184 #[v] w fun r w' => ∃ v', r = .returned v' ∧ Owns B w' v' (Pg.sealed (l ++ List.replicate (64 - l.length) 0)) ∧ Grew w w' v v' := by
  obtain ⟨va, vc, rfl⟩ := hown.shape
  have HOWN := hid hown
  clear hown
  obtain ⟨d, hd⟩ : ∃ d, d = 64 - l.length := ⟨_, rfl⟩
  have hd2 : (64 : Int) - (l.length : Int) = (d : Int) := by omega
  have HD := hid hd
  have hd3 : d ≤ 64 := by omega
  clear hd
  go_enter Tryz.func184, Tryz.ntmps184
  go_wp2_with (first
    | (at_builtin; refine wpApZ w rfl (.tmp 3) (.tmp 6) rfl B (.slice va l.length vc) l rfl HOWN.out hp d rfl (by omega) (by omega) hB ?_))
  intro v2 w2 ho2 hg2
  have HO2 := hid ho2
  have HG2 := hid hg2
  have hsz2 := hg2.size
  clear ho2 hg2
  go_wp2_with fail
  refine (seal_any B v2 _ _ HO2.out (by omega) (by simp; omega)).mono ?_
  rintro r w3 ⟨v3, rfl, ho3, hg3⟩
  go_wp2_with fail
  go_ret
  exact ⟨v3, rfl, by rw [← HD.out]; exact ho3, HG2.out.trans hg3⟩
end Go.Proofs.YtolgpnaoaodepaaGreat
/- The walks of pages' commonFront and basement. -/
namespace Go.Proofs.YtolgpnaoaodepaaGreat
open Go.RowKit

theorem Grew.ne {w w' : World} {v v' : Value} (h : Grew w w' v v') {k : Nat} (hk : k < w.heap.size) (hne : v.ownBlock ≠ some k) : v'.ownBlock ≠ some k := by
  rcases h.2 with e | ⟨j, hj, e⟩
  · rw [e]; exact hne
  · rw [e]; intro e'; have : j = k := by simpa using e'
    omega

set_option maxHeartbeats 1000000 in
set_option maxRecDepth 20000 in
theorem front_any (s t : ByteArray) (w : World) (hs : s.size ≤ 35184372088832) :
    Calls Tryz.prog 235 #[.string s, .string t] w fun r w' => r = .returned (.int .i64 (Pg.common s.data.toList t.data.toList)) ∧ ∃ q, w' = w.drewN q := by
  obtain ⟨m, hm⟩ : ∃ m : Nat, m = min s.size t.size := ⟨_, rfl⟩
  have hm1 : min (s.size : Int) (t.size : Int) = (m : Int) := by omega
  have hms : m ≤ s.size ∧ m ≤ t.size ∧ (m = s.size ∨ m = t.size) := by omega
  clear hm
  go_enter Tryz.func235, Tryz.ntmps235
  go_wp2_with fail
  go_loopw [5] (fun i wr => ∃ k : Nat, k ≤ m ∧ i = .int .i64 k ∧ (∀ j, j < k → ∃ x, s.data.toList[j]? = some x ∧ t.data.toList[j]? = some x) ∧ ∃ q, wr = w.drewN q) (fun i _ => m - (intOf i).toNat)
  case atStart => exact ⟨0, Nat.zero_le _, rfl, fun j h => by omega, 0, rfl⟩
  case round =>
    obtain ⟨k, hk1, rfl, hj, q, rfl⟩ := hrel
    have HJ := hid hj
    clear hj
    by_cases hlt : k < m
    · have h1 : (k : Int) < (s.size : Int) := by omega
      have h2 : (k : Int) < (t.size : Int) := by omega
      have h3 : decide ((k : Int) < (m : Int)) = true := by simp; omega
      go_wp2_with fail
      go_quiet (fail)
      go_wp2_with fail
      · have hb := byte_eq2 s t k (by omega) (by omega) (by assumption)
        go_roundw
        case rel =>
          refine ⟨k + 1, by omega, by go_num, fun j hj => ?_, _, rfl⟩
          by_cases ej : j = k
          · rw [ej]; exact hb
          · exact HJ.out j (by omega)
        case measure => simp [intOf]; omega
      · have hb := byte_ne2 s t k (by omega) (by omega) (by assumption)
        go_ret
        exact ⟨ret_int (by rw [Pg.common_stop k _ _ HJ.out (.inr (.inr hb))]), _, World.drewN_drewN _ _ _⟩
    · have hd : decide ((k : Int) < (m : Int)) = false := by simp; omega
      have HF := hid (Pg.common_stop k s.data.toList t.data.toList HJ.out (by rw [len_size, len_size]; omega))
      go_wp2_with fail
      go_quiet (fail)
      go_wp2_with fail
      go_ret
      exact ⟨ret_int (by rw [HF.out]), _, World.drewN_drewN _ _ _⟩

set_option maxHeartbeats 2000000 in
set_option maxRecDepth 20000 in
theorem base_at (b off cap : Nat) (l : List (ByteArray × ByteArray)) (w : World) (hl : l.length ≤ 1000) (hit : ItemsAt w b off l) (hb : b < w.heap.size) (hsz : ∀ x ∈ l, x.1.size ≤ 10000000 ∧ x.2.size ≤ 10000000) :
    Calls Tryz.prog 179 #[.slice (some ⟨b, off, none⟩) l.length cap] w fun r w' => ∃ v', r = .returned v' ∧ Owns w.heap.size w' v' (Pg.basement (plain l)) ∧ Below w.heap.size w w' := by
  have HIT := hid hit
  have HSZ := hid hsz
  clear hit hsz
  obtain ⟨bt, hbt, hbl⟩ := low1 l.length
  have HBT := hid hbt
  have HST : Hid ([bt] ++ Pg.items [] (plain l) = Pg.basement (plain l)) := by show _ = _; unfold Pg.basement plain; rw [List.length_map, hbl]
  clear hbt hbl
  go_enter Tryz.func179, Tryz.ntmps179
  go_wp2_with fail
  have hlit := owns_lit w w.heap.size (Nat.le_refl _) [bt] #[.int .u8 ((l.length : Int) % 256)] (by simp [Lib.byteCells]; rw [HBT.out]; omega) (by simp)
  have HLIT := hid hlit
  have HBL := hid ((Below.refl w.heap.size w).alloc (Nat.le_refl _) (.cells #[.int .u8 ((l.length : Int) % 256)] 5))
  clear hlit
  go_loopw [3, 4, 14] (fun u last i wr => ∃ (k : Nat) (o : List UInt8) (lb : ByteArray), k ≤ l.length ∧ i = .int .i64 k ∧ last = .string lb ∧ lb.size ≤ 10000000 ∧ o.length ≤ 1 + k * 20000100 ∧ Owns w.heap.size wr u o ∧ Below w.heap.size w wr ∧ o ++ Pg.items lb.data.toList (plain (l.drop k)) = Pg.basement (plain l)) (fun _ _ i _ => l.length - (intOf i).toNat)
  case atStart => exact ⟨0, [bt], ⟨#[]⟩, Nat.zero_le _, rfl, rfl, by decide, by simp, HLIT.out, HBL.out, by simpa using HST.out⟩
  case round =>
    clear HLIT HBL
    obtain ⟨k, o, lb, hk, rfl, rfl, hlb, hol, hown, hbel, heq⟩ := hrel
    have HEQ := hid heq
    have HBEL := hid hbel
    have HOWN := hid hown
    have hszr := hbel.size
    clear heq hbel hown
    by_cases hkl : k < l.length
    · obtain ⟨c0, c1⟩ := HIT.out.below HBEL.out hb k hkl
      have hs2 := HSZ.out _ (List.getElem_mem hkl)
      have HNX : Hid (plain (l.drop k) = ((l[k]'hkl).1.data.toList, (l[k]'hkl).2.data.toList) :: plain (l.drop (k + 1))) := by
        show _ = _; rw [List.drop_eq_getElem_cons hkl]; rfl
      generalize l[k]'hkl = x at *
      obtain ⟨kb, vb⟩ := x
      simp only at c0 c1 hs2
      go_wp2_with fail
      refine (front_any lb kb _ (by omega)).mono ?_
      rintro r w2 ⟨rfl, q, rfl⟩
      have hcm := Pg.common_le lb.data.toList kb.data.toList
      rw [len_size, len_size] at hcm
      have HIS : Hid (Pg.items lb.data.toList (plain (l.drop k)) = Pg.low (Pg.common lb.data.toList kb.data.toList) 1 ++ Pg.text (kb.data.toList.drop (Pg.common lb.data.toList kb.data.toList)) ++ Pg.text vb.data.toList ++ Pg.items kb.data.toList (plain (l.drop (k + 1)))) := by
        show _ = _; rw [HNX.out]; rfl
      generalize Pg.common lb.data.toList kb.data.toList = cm at *
      have d0 : ((wr.alloc (.cells #[.string kb, .string vb] 51)).drewN q).cell? ⟨wr.heap.size, 0, none⟩ = some (.string kb) := by simp
      have d1 : ((wr.alloc (.cells #[.string kb, .string vb] 51)).drewN q).cell? ⟨wr.heap.size, 1, none⟩ = some (.string vb) := by simp
      have HN2 := hid (own_lt HOWN.out (Nat.le_refl wr.heap.size))
      have HO2 := hid ((HOWN.out.alloc (.cells #[.string kb, .string vb] 51)).drewN q)
      have HB2 := hid (below_drewN (HBEL.out.alloc hszr (.cells #[.string kb, .string vb] 51)) q)
      have hs3 : ((wr.alloc (.cells #[.string kb, .string vb] 51)).drewN q).heap.size > wr.heap.size := by simp
      generalize (wr.alloc (.cells #[.string kb, .string vb] 51)).drewN q = w2 at *
      obtain ⟨bc, hbc, hbl⟩ := low1 cm
      have HBC := hid hbc
      have HBL := hid hbl
      clear hbc hbl c0 c1
      go_wp2_with (first
        | (at_builtin; refine wpAp1 w2 rfl (.tmp 22) (.tmp 25) rfl w.heap.size u3 o rfl HO2.out bc _ ?_ rfl ?_ ?_ ?_))
      · rw [HBC.out]; omega
      · omega
      · omega
      intro v3 w3 ho3 hg3 hat3
      have HO3 := hid ho3
      have hgr := grew_alloc hg3 hat3
      have HB3 := hid (HB2.out.trans (hgr.below HO2.out (by omega)))
      have hs4 := hgr.size
      have e0 := hgr.cell d0 HN2.out
      have e1 := hgr.cell d1 HN2.out
      have HN3 := hid (hgr.ne (by omega) HN2.out)
      clear ho3 hg3 hat3 hgr d0 d1
      have hi1 : (0 : Int) ≤ (cm : Int) := by omega
      have hi2 : (cm : Int) ≤ (kb.size : Int) := by omega
      go_wp2_with fail
      refine (apText_any w.heap.size v3 _ (kb.extract cm kb.size) _ HO3.out (by omega) (by simp; omega) (by rw [ByteArray.size_extract]; omega)).mono ?_
      rintro r w4 ⟨v4, rfl, ho4, hg4⟩
      have ht1 := text_len (kb.data.toList.drop cm) (by rw [List.length_drop, len_size]; omega)
      rw [List.length_drop, len_size] at ht1
      rw [drop_data] at ho4
      have HO4 := hid ho4
      have HB4 := hid (HB3.out.trans (hg4.below HO3.out (by omega)))
      have hs5 := hg4.size
      have f0 := hg4.cell e0 HN3.out
      have f1 := hg4.cell e1 HN3.out
      have HN4 := hid (hg4.ne (by omega) HN3.out)
      clear ho4 hg4 e0 e1
      go_wp2_with fail
      refine (apText_any w.heap.size v4 _ vb _ HO4.out (by omega) (by simp; omega) (by omega)).mono ?_
      rintro r w5 ⟨v5, rfl, ho5, hg5⟩
      have ht2 := text_len vb.data.toList (by rw [len_size]; omega)
      rw [len_size] at ht2
      have HO5 := hid ho5
      have HB5 := hid (HB4.out.trans (hg5.below HO4.out (by omega)))
      have g0 := hg5.cell f0 HN4.out
      clear ho5 hg5 f0 f1
      go_wp2_with fail
      go_roundw
      case rel =>
        refine ⟨k + 1, _, kb, by omega, by go_num, rfl, hs2.1, ?_, HO5.out, HB5.out, ?_⟩
        · simp only [List.length_append, List.length_singleton]; omega
        · rw [← HEQ.out, HIS.out, HBL.out]; simp
      case measure => simp [intOf]; omega
    · have HF : Hid (o = Pg.basement (plain l)) := by
        show _ = _; rw [← HEQ.out, List.drop_eq_nil_of_le (by omega)]; simp [plain, Pg.items]
      go_wp2_with fail
      go_ret
      exact ⟨_, rfl, by rw [← HF.out]; exact HOWN.out, HBEL.out⟩
set_option maxHeartbeats 1000000 in
set_option maxRecDepth 20000 in
theorem base_nil (a : Option Addr) (cap : Nat) (w : World) :
    Calls Tryz.prog 179 #[.slice a 0 cap] w fun r w' => ∃ v', r = .returned v' ∧ Owns w.heap.size w' v' (Pg.basement []) ∧ Below w.heap.size w w' := by
  have hlit := owns_lit w w.heap.size (Nat.le_refl _) [0] #[.int .u8 0] (by simp [Lib.byteCells]) (by simp)
  have HLIT := hid hlit
  have HBL := hid ((Below.refl w.heap.size w).alloc (Nat.le_refl _) (.cells #[.int .u8 0] 5))
  clear hlit
  go_enter Tryz.func179, Tryz.ntmps179
  go_wp2_with fail
  go_loopw [3, 4, 14] (fun u _ i wr => i = .int .i64 0 ∧ Owns w.heap.size wr u [0] ∧ Below w.heap.size w wr) (fun _ _ _ _ => 0)
  case atStart => exact ⟨rfl, HLIT.out, HBL.out⟩
  case round =>
    obtain ⟨rfl, ho, hb⟩ := hrel
    go_wp2_with fail
    go_ret
    exact ⟨_, rfl, ho, hb⟩
theorem base_any (v : Value) (l : List (ByteArray × ByteArray)) (w : World) (hv : IsItems w v l) (hl : l.length ≤ 1000) (hsz : ∀ x ∈ l, x.1.size ≤ 10000000 ∧ x.2.size ≤ 10000000) :
    Calls Tryz.prog 179 #[v] w fun r w' => ∃ v', r = .returned v' ∧ Owns w.heap.size w' v' (Pg.basement (plain l)) ∧ Below w.heap.size w w' := by
  rcases hv with ⟨a, cap, rfl, rfl⟩ | ⟨b, off, cap, rfl, -, -, hb, hit⟩
  · exact base_nil a cap w
  · exact base_at b off cap l w hl hit hb hsz
end Go.Proofs.YtolgpnaoaodepaaGreat
/- Plain mathematics of the program's reading: each reader tells what it has read and what is left, or gives up. -/
namespace Go.Proofs.YtolgpnaoaodepaaGreat.Pr
open Pg

def takeR (n : Nat) (t : List UInt8) : Option (List UInt8 × List UInt8) := if n ≤ t.length then some (t.take n, t.drop n) else none
theorem takeR_yes {n : Nat} {t : List UInt8} (h : n ≤ t.length) : takeR n t = some (t.take n, t.drop n) := if_pos h
theorem takeR_no {n : Nat} {t : List UInt8} (h : ¬ n ≤ t.length) : takeR n t = none := if_neg h
theorem takeR_append (p q : List UInt8) : takeR p.length (p ++ q) = some (p, q) := by rw [takeR_yes (by simp), List.take_left, List.drop_left]
theorem takeR_len {n : Nat} {t x u : List UInt8} (h : takeR n t = some (x, u)) : x.length = n ∧ t = x ++ u := by
  unfold takeR at h
  split at h
  · rename_i hn
    simp only [Option.some.injEq, Prod.mk.injEq] at h
    rw [← h.1, ← h.2, List.take_append_drop, List.length_take]; exact ⟨by omega, rfl⟩
  · simp at h
def byteR : List UInt8 → Option (UInt8 × List UInt8)
  | [] => none
  | b :: t => some (b, t)
theorem byteR_len {t u : List UInt8} {b : UInt8} (h : byteR t = some (b, u)) : t = b :: u := by
  cases t with
  | nil => simp [byteR] at h
  | cons a r => simp [byteR] at h; rw [h.1, h.2]
def shortR (t : List UInt8) : Option (Nat × List UInt8) := (takeR 2 t).map fun x => (high x.1, x.2)
/-- A number: so many bytes may still be read; what a byte counts; what has been read. -/
def numR : Nat → Nat → Nat → List UInt8 → Option (Nat × List UInt8)
  | 0, _, _, _ => none
  | _ + 1, _, _, [] => none
  | f + 1, c, n, b :: t =>
    if 2147483647 < n + b.toNat % 128 * c then none
    else if b.toNat < 128 then (if b.toNat = 0 ∧ c ≠ 1 then none else some (n + b.toNat % 128 * c, t))
    else numR f (128 * c) (n + b.toNat % 128 * c) t
def numberR (t : List UInt8) : Option (Nat × List UInt8) := numR 5 1 0 t
theorem numR_le : ∀ (f c n : Nat) (t : List UInt8) (m : Nat) (u : List UInt8), numR f c n t = some (m, u) → m ≤ 2147483647 ∧ u.length < t.length
  | 0, _, _, _, _, _, h => by simp [numR] at h
  | f + 1, c, n, [], _, _, h => by simp [numR] at h
  | f + 1, c, n, b :: t, m, u, h => by
    unfold numR at h
    split at h
    · simp at h
    · split at h
      · split at h
        · simp at h
        · simp only [Option.some.injEq, Prod.mk.injEq] at h
          rw [← h.1, ← h.2]; exact ⟨by omega, by simp⟩
      · have := numR_le f _ _ _ _ _ h
        exact ⟨this.1, by simp; omega⟩
theorem numberR_le {t u : List UInt8} {m : Nat} (h : numberR t = some (m, u)) : m ≤ 2147483647 ∧ u.length < t.length := numR_le _ _ _ _ _ _ h
theorem numR_num : ∀ (f c n m : Nat) (t : List UInt8), m < 128 ^ (f + 1) → n + m * c ≤ 2147483647 → (0 < m ∨ c = 1) → 0 < c → numR (f + 1) c n (num m ++ t) = some (n + m * c, t)
  | f, c, n, m, t, hm, hle, h0, hc => by
    by_cases hs : m < 128
    · rw [num_small m hs, low, low, show m % 256 = m by omega]
      simp only [List.cons_append, List.nil_append, numR]
      have hb : (UInt8.ofNat m).toNat = m := by simp; omega
      rw [hb, Nat.mod_eq_of_lt hs, if_neg (by omega), if_pos hs, if_neg (by omega)]
    · rw [num_big m hs, low, low, show (128 + m % 128) % 256 = 128 + m % 128 by omega]
      simp only [List.cons_append, List.nil_append, numR]
      have hb : (UInt8.ofNat (128 + m % 128)).toNat = 128 + m % 128 := by
        rw [UInt8.toNat_ofNat']; omega
      rw [hb, show (128 + m % 128) % 128 = m % 128 by omega]
      have hdiv : m % 128 * c + m / 128 * (128 * c) = m * c := by
        rw [← Nat.mul_assoc, ← Nat.add_mul, Nat.mul_comm (m / 128) 128]; congr 1; omega
      rw [if_neg (by omega), if_neg (by omega)]
      match f with
      | 0 => omega
      | f + 1 =>
        rw [numR_num f (128 * c) (n + m % 128 * c) (m / 128) t (by rw [Nat.div_lt_iff_lt_mul (by decide)]; rw [Nat.pow_succ] at hm; exact hm) (by omega) (.inl (by omega)) (by omega)]
        congr 2; omega
theorem numberR_num (m : Nat) (t : List UInt8) (h : m ≤ 2147483647) : numberR (num m ++ t) = some (m, t) := by
  have := numR_num 4 1 0 m t (by show m < 128 ^ 5; omega) (by omega) (.inr rfl) (by decide)
  unfold numberR; rw [this]; simp
def textR (t : List UInt8) : Option (List UInt8 × List UInt8) := match numberR t with
  | some (n, u) => takeR n u
  | none => none
theorem textR_text (s t : List UInt8) (h : s.length ≤ 2147483647) : textR (text s ++ t) = some (s, t) := by
  unfold textR text
  rw [List.append_assoc, numberR_num _ _ h]
  exact takeR_append s t
theorem textR_len {t x u : List UInt8} (h : textR t = some (x, u)) : x.length ≤ t.length ∧ u.length < t.length := by
  unfold textR at h
  split at h
  · rename_i n v hn
    have h1 := numberR_le hn
    obtain ⟨h2, h3⟩ := takeR_len h
    have : v.length = x.length + u.length := by rw [h3, List.length_append]
    omega
  · simp at h
/-- What is written in a section: how, and the bytes. -/
def secW (s : List UInt8) : Option (UInt8 × List UInt8) :=
  (takeR 1 s).bind fun a => (byteR a.2).bind fun h => (numberR h.2).bind fun n => (numberR n.2).bind fun z => if 249 < z.1 then none else (takeR z.1 z.2).map fun c => (h.1, c.1)
def secU (how : UInt8) (c : List UInt8) : Option (List UInt8) := if how = 1 then Sq.spread c else some c
/-- The content of a section. -/
def secR (k : UInt8) (s : List UInt8) : Option (List UInt8) := (secW s).bind fun x => (secU x.1 x.2).bind fun u => if section_ [k] u = s then some u else none
theorem secR_is {k : UInt8} {s c : List UInt8} (h : secR k s = some c) : section_ [k] c = s := by
  unfold secR at h
  cases hw : secW s with
  | none => rw [hw] at h; simp at h
  | some x =>
    rw [hw] at h
    simp only [Option.bind_some] at h
    cases hu : secU x.1 x.2 with
    | none => rw [hu] at h; simp at h
    | some u =>
      rw [hu] at h
      simp only [Option.bind_some] at h
      split at h
      · rename_i he; simp at h; rw [← h]; exact he
      · simp at h
theorem secW_is (k how : UInt8) (n : Nat) (c t : List UInt8) (hn : n ≤ 2147483647) (hc : c.length ≤ 249) : secW ([k] ++ [how] ++ num n ++ text c ++ t) = some (how, c) := by
  unfold secW text
  rw [show [k] ++ [how] ++ num n ++ (num c.length ++ c) ++ t = [k] ++ (how :: (num n ++ (num c.length ++ (c ++ t)))) by simp]
  rw [show takeR 1 ([k] ++ (how :: (num n ++ (num c.length ++ (c ++ t))))) = some ([k], how :: (num n ++ (num c.length ++ (c ++ t)))) from takeR_append [k] _]
  simp only [Option.bind_some, byteR]
  rw [numberR_num n _ hn]
  simp only [Option.bind_some]
  rw [numberR_num c.length _ (by omega)]
  simp only [Option.bind_some]
  rw [if_neg (by omega), takeR_append]
  rfl
theorem secR_section (k : UInt8) (c : List UInt8) (h : c.length ≤ 249) : secR k (section_ [k] c) = some c := by
  unfold secR
  by_cases hs : (Sq.squeeze c).length < c.length
  · have e : section_ [k] c = [k] ++ [1] ++ num c.length ++ text (Sq.squeeze c) ++ low (crc ([k] ++ low 1 1 ++ num c.length ++ text (Sq.squeeze c))) 4 := by unfold section_; rw [if_pos hs]; rfl
    have hw : secW (section_ [k] c) = some (1, Sq.squeeze c) := by rw [e]; exact secW_is k 1 _ _ _ (by omega) (by omega)
    rw [hw]
    simp only [Option.bind_some, secU, if_true, Sq.spread_squeeze]
  · have e : section_ [k] c = [k] ++ [0] ++ num c.length ++ text c ++ low (crc ([k] ++ low 0 1 ++ num c.length ++ text c)) 4 := by unfold section_; rw [if_neg hs]; rfl
    have hw : secW (section_ [k] c) = some (0, c) := by rw [e]; exact secW_is k 0 _ _ _ (by omega) h
    rw [hw]
    simp [secU]
/-- Items, so many, behind a key. -/
def itemsR : Nat → List UInt8 → List UInt8 → Option (List (List UInt8 × List UInt8) × List UInt8)
  | 0, _, t => some ([], t)
  | n + 1, last, t => (byteR t).bind fun b => if last.length < b.1.toNat then none else (textR b.2).bind fun x => (textR x.2).bind fun v => (itemsR n (last.take b.1.toNat ++ x.1) v.2).map fun r => ((last.take b.1.toNat ++ x.1, v.1) :: r.1, r.2)
theorem common_take : ∀ (a b : List UInt8), a.take (common a b) ++ b.drop (common a b) = b
  | [], b => by simp [common]
  | _ :: _, [] => by simp [common]
  | x :: xs, y :: ys => by
    unfold common; split
    · rename_i h; rw [List.take_succ_cons, List.drop_succ_cons, List.cons_append, common_take xs ys, h]
    · simp
theorem itemsR_items : ∀ (l : List (List UInt8 × List UInt8)) (last t : List UInt8), last.length ≤ 12 → (∀ x ∈ l, x.1.length ≤ 12 ∧ x.2.length ≤ 16) → itemsR l.length last (items last l ++ t) = some (l, t)
  | [], _, t, _, _ => rfl
  | (k, v) :: r, last, t, hl, h => by
    have hk := h (k, v) (by simp)
    simp only at hk
    have hc := common_le last k
    rw [items, List.length_cons, itemsR]
    obtain ⟨c, hc1⟩ : ∃ c, common last k = c := ⟨_, rfl⟩
    have hct := common_take last k
    rw [hc1] at hc hct ⊢
    have hb : (UInt8.ofNat (c % 256)).toNat = c := by rw [UInt8.toNat_ofNat']; omega
    rw [show low c 1 ++ text (k.drop c) ++ text v ++ items k r ++ t = UInt8.ofNat (c % 256) :: (text (k.drop c) ++ (text v ++ (items k r ++ t))) by simp [low]]
    simp only [byteR, Option.bind_some, hb]
    rw [if_neg (by omega), textR_text _ _ (by rw [List.length_drop]; omega)]
    simp only [Option.bind_some]
    rw [textR_text _ _ (by omega)]
    simp only [Option.bind_some, hct]
    rw [itemsR_items r k t hk.1 (fun x hx => h x (by simp [hx]))]
    rfl
/-- The items of which this is the content. -/
def basR (c : List UInt8) : Option (List (List UInt8 × List UInt8)) := (byteR c).bind fun b => (itemsR b.1.toNat [] b.2).bind fun r => if basement r.1 = c then some r.1 else none
theorem basR_is {c : List UInt8} {l : List (List UInt8 × List UInt8)} (h : basR c = some l) : basement l = c := by
  unfold basR at h
  cases hw : byteR c with
  | none => rw [hw] at h; simp at h
  | some x =>
    rw [hw] at h
    simp only [Option.bind_some] at h
    cases hu : itemsR x.1.toNat [] x.2 with
    | none => rw [hu] at h; simp at h
    | some u =>
      rw [hu] at h
      simp only [Option.bind_some] at h
      split at h
      · rename_i he; simp at h; rw [← h]; exact he
      · simp at h
theorem basR_basement (l : List (List UInt8 × List UInt8)) (h4 : l.length ≤ 255) (h : ∀ x ∈ l, x.1.length ≤ 12 ∧ x.2.length ≤ 16) : basR (basement l) = some l := by
  have e : basement l = UInt8.ofNat (l.length % 256) :: (items [] l ++ []) := by unfold basement; simp [low]
  unfold basR
  have hb : (UInt8.ofNat (l.length % 256)).toNat = l.length := by rw [UInt8.toNat_ofNat']; omega
  rw [show byteR (basement l) = some (UInt8.ofNat (l.length % 256), items [] l ++ []) by rw [e]; rfl]
  simp only [Option.bind_some, hb]
  rw [itemsR_items l [] [] (by simp) h]
  simp
end Go.Proofs.YtolgpnaoaodepaaGreat.Pr
namespace Go.Proofs.YtolgpnaoaodepaaGreat.Pr
open Pg
/-- A page cut into sections, of these lengths. -/
def cutsR : List Nat → List UInt8 → Option (List (List UInt8) × List UInt8)
  | [], t => some ([], t)
  | s :: ss, t => (takeR s t).bind fun x => (cutsR ss x.2).map fun r => (x.1 :: r.1, r.2)
def cutR (page : List UInt8) (ss : List Nat) : Option (List (List UInt8)) := (takeR 68 page).bind fun a => (cutsR ss a.2).bind fun r => if r.2 = [] then some r.1 else none
theorem cutsR_flat : ∀ (l : List (List UInt8)) (t : List UInt8), cutsR (l.map List.length) (l.flatten ++ t) = some (l, t)
  | [], t => rfl
  | x :: r, t => by
    rw [List.map_cons, cutsR, List.flatten_cons, List.append_assoc, takeR_append]
    simp only [Option.bind_some]
    rw [cutsR_flat r t]; rfl
theorem cutsR_is : ∀ (ss : List Nat) (t : List UInt8) (l : List (List UInt8)) (u : List UInt8), cutsR ss t = some (l, u) → t = l.flatten ++ u ∧ l.map List.length = ss
  | [], t, l, u, h => by simp [cutsR] at h; rw [h.1, h.2]; simp
  | s :: ss, t, l, u, h => by
    rw [cutsR] at h
    cases ht : takeR s t with
    | none => rw [ht] at h; simp at h
    | some x =>
      rw [ht] at h
      simp only [Option.bind_some] at h
      cases hc : cutsR ss x.2 with
      | none => rw [hc] at h; simp at h
      | some r =>
        rw [hc] at h
        simp only [Option.map_some, Option.some.injEq, Prod.mk.injEq] at h
        obtain ⟨h1, h2⟩ := takeR_len ht
        obtain ⟨h3, h4⟩ := cutsR_is ss x.2 r.1 r.2 hc
        rw [← h.1, ← h.2, List.flatten_cons, List.map_cons, h1, h4, h2, h3, List.append_assoc]
        exact ⟨rfl, rfl⟩
theorem cutR_is {page : List UInt8} {ss : List Nat} {l : List (List UInt8)} (h : cutR page ss = some l) : 68 ≤ page.length ∧ page.drop 68 = l.flatten ∧ l.map List.length = ss := by
  unfold cutR at h
  cases ht : takeR 68 page with
  | none => rw [ht] at h; simp at h
  | some x =>
    rw [ht] at h
    simp only [Option.bind_some] at h
    cases hc : cutsR ss x.2 with
    | none => rw [hc] at h; simp at h
    | some r =>
      rw [hc] at h
      simp only [Option.bind_some] at h
      split at h
      · rename_i he
        simp only [Option.some.injEq] at h
        obtain ⟨h1, h2⟩ := takeR_len ht
        obtain ⟨h3, h4⟩ := cutsR_is ss x.2 r.1 r.2 hc
        rw [he, List.append_nil] at h3
        rw [← h]
        refine ⟨by rw [h2, List.length_append]; omega, ?_, h4⟩
        rw [h2, ← h1, List.drop_left, h3]
      · simp at h
theorem cutR_flat (p : List UInt8) (l : List (List UInt8)) (h : p.length = 68) : cutR (p ++ l.flatten) (l.map List.length) = some l := by
  unfold cutR
  rw [← h, takeR_append]
  simp only [Option.bind_some]
  have := cutsR_flat l []
  rw [List.append_nil] at this
  rw [this]; simp
end Go.Proofs.YtolgpnaoaodepaaGreat.Pr
