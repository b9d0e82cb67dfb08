/- The walks of pages' writeSection, commonFront, basement, sealHead. -/
import Derived.Test.YtolgpnaoaodepaaWalkK
namespace Go.Proofs.Ytolgpnaoaodepaa
open Go.RowKit

theorem own_lt {B : Nat} {w : World} {v : Value} {T : TypeId} {sz n : Nat} {xs : List Value} (h : w.ownsRow B T sz v n xs) {k : Nat} (hk : w.heap.size ≤ k) : v.ownBlock ≠ some k := fun e => by
  have := (World.ownsRow.lt h k e).2; omega
theorem section_yes {k c : List UInt8} (h : (Sq.squeeze c).length < c.length) : Pg.section_ k c = Pg.sealed (k ++ Pg.low 1 1 ++ Pg.num c.length ++ Pg.text (Sq.squeeze c)) := by unfold Pg.section_; rw [if_pos h]
theorem section_no {k c : List UInt8} (h : ¬ (Sq.squeeze c).length < c.length) : Pg.section_ k c = Pg.sealed (k ++ Pg.low 0 1 ++ Pg.num c.length ++ Pg.text c) := by unfold Pg.section_; rw [if_neg h]

set_option maxHeartbeats 1000000 in
set_option maxRecDepth 20000 in
theorem writeSec_cv (k : UInt8) (v : Value) (l : List UInt8) (w : World) (hsh : ∃ a c, v = .slice a l.length c) (hst : ∀ w' : World, w'.heap = w.heap → (convert 59 9 v).run Try.prog w' = .ok (.string ⟨l.toArray⟩) w') (hl : l.length ≤ 10000000000) :
    Calls Try.prog 54 #[.int .u8 (k.toNat : Int), v] w fun r w' => r = .returned (.string ⟨(Pg.section_ [k] l).toArray⟩) ∧ Below w.heap.size w w' := by
  have hkb : k.toNat < 256 := k.toNat_lt
  have hcv := hst w rfl
  have hcv2 := hst w.drew rfl
  have hcvn : ∀ q, (convert 59 9 v).run Try.prog (w.drewN q) = .ok (.string ⟨l.toArray⟩) (w.drewN q) := fun q => hst (w.drewN q) rfl
  obtain ⟨va, vc, rfl⟩ := hsh
  clear hst
  go_enter Try.func54, Try.ntmps54
  go_wp2_with fail
  go_quiet (fail)
  clear hcv hcv2 hcvn
  go_wp2_with fail
  refine (squeeze_any ⟨l.toArray⟩ _ (by rw [size_mk]; omega)).mono ?_
  rintro r w1 ⟨rfl, hb1⟩
  rw [show (⟨l.toArray⟩ : ByteArray).data.toList = l from rfl]
  have HB1 := hid ((below_drewN (Below.refl w.heap.size w) nq).trans (hb1.mono (by simp)))
  have hsl := Sq.squeeze_le l
  have hsz1 := HB1.out.size
  clear hb1
  by_cases hlt : (Sq.squeeze l).length < l.length
  · have HS := hid (section_yes (k := [k]) hlt)
    generalize hsq : Sq.squeeze l = sq at *
    have hlt' : ((sq.length : Int) < (l.length : Int)) := by omega
    have hzz := size_mk sq
    go_wp2_with fail
    have hlit := owns_lit w1 w1.heap.size (Nat.le_refl _) [k, 1] #[.int .u8 (k.toNat : Int), .int .u8 1] (by simp [Lib.byteCells]) (by simp)
    refine (apNum_any w1.heap.size _ [k, 1] l.length _ hlit (by simp) (by simp) (by omega)).mono ?_
    rintro r w2 ⟨v2, rfl, ho2, hg2⟩
    have HO2 := hid ho2
    have HB2 := hid (((Below.refl w1.heap.size w1).alloc (Nat.le_refl _) _).trans (hg2.below hlit (by simp)))
    have hsz2 := HB2.out.size
    clear ho2 hg2 hlit
    have hnl := num_short l.length (by omega)
    go_wp2_with fail
    refine (apText_any w1.heap.size v2 _ ⟨sq.toArray⟩ _ HO2.out hsz2 (by simp; omega) (by rw [size_mk]; omega)).mono ?_
    rintro r w3 ⟨v3, rfl, ho3, hg3⟩
    have HO3 := hid ho3
    have HB3 := hid (HB2.out.trans (hg3.below HO2.out hsz2))
    have hsz3 := HB3.out.size
    clear ho3 hg3
    go_wp2_with fail
    have htl := text_len sq (by omega)
    refine (seal_any w1.heap.size v3 _ _ HO3.out hsz3 (by simp; omega)).mono ?_
    rintro r w4 ⟨v4, rfl, ho4, hg4⟩
    have hcv := ho4.str
    have HB4 := hid (HB3.out.trans (hg4.below HO3.out hsz3))
    clear ho4 hg4
    have HFIN : Hid (Pg.sealed ([k, 1] ++ Pg.num l.length ++ Pg.text sq) = Pg.section_ [k] l) := by
      show _ = _; rw [HS.out]; rfl
    rw [HFIN.out] at hcv
    go_wp2_with fail
    go_ret
    exact ⟨rfl, HB1.out.trans (HB4.out.mono hsz1)⟩
  · have HS := hid (section_no (k := [k]) hlt)
    generalize hsq : Sq.squeeze l = sq at *
    have hlt' : ¬ ((sq.length : Int) < (l.length : Int)) := by omega
    have hzz := size_mk sq
    go_wp2_with fail
    have hlit := owns_lit w1 w1.heap.size (Nat.le_refl _) [k, 0] #[.int .u8 (k.toNat : Int), .int .u8 0] (by simp [Lib.byteCells]) (by simp)
    refine (apNum_any w1.heap.size _ [k, 0] l.length _ hlit (by simp) (by simp) (by omega)).mono ?_
    rintro r w2 ⟨v2, rfl, ho2, hg2⟩
    have HO2 := hid ho2
    have HB2 := hid (((Below.refl w1.heap.size w1).alloc (Nat.le_refl _) _).trans (hg2.below hlit (by simp)))
    have hsz2 := HB2.out.size
    clear ho2 hg2 hlit
    have hnl := num_short l.length (by omega)
    go_wp2_with fail
    refine (apText_any w1.heap.size v2 _ ⟨l.toArray⟩ _ HO2.out hsz2 (by simp; omega) (by rw [size_mk]; omega)).mono ?_
    rintro r w3 ⟨v3, rfl, ho3, hg3⟩
    have HO3 := hid ho3
    have HB3 := hid (HB2.out.trans (hg3.below HO2.out hsz2))
    have hsz3 := HB3.out.size
    clear ho3 hg3
    go_wp2_with fail
    have htl := text_len l (by omega)
    refine (seal_any w1.heap.size v3 _ _ HO3.out hsz3 (by simp; omega)).mono ?_
    rintro r w4 ⟨v4, rfl, ho4, hg4⟩
    have hcv := ho4.str
    have HB4 := hid (HB3.out.trans (hg4.below HO3.out hsz3))
    clear ho4 hg4
    have HFIN : Hid (Pg.sealed ([k, 0] ++ Pg.num l.length ++ Pg.text l) = Pg.section_ [k] l) := by
      show _ = _; rw [HS.out]; rfl
    rw [HFIN.out] at hcv
    go_wp2_with fail
    go_ret
    exact ⟨rfl, HB1.out.trans (HB4.out.mono hsz1)⟩

theorem writeSec_any (B : Nat) (k : UInt8) (v : Value) (l : List UInt8) (w : World) (hown : Owns B w v l) (hl : l.length ≤ 10000000000) :
    Calls Try.prog 54 #[.int .u8 (k.toNat : Int), v] w fun r w' => r = .returned (.string ⟨(Pg.section_ [k] l).toArray⟩) ∧ Below w.heap.size w w' := by
  refine writeSec_cv k v l w hown.shape (fun w' he => ?_) hl
  have : Owns B w' v l := by unfold Owns World.ownsRow at *; rw [he]; exact hown
  exact this.str
set_option maxHeartbeats 1000000 in
set_option maxRecDepth 20000 in
theorem sealHead_any (B : Nat) (v : Value) (l : List UInt8) (w : World) (hown : Owns B w v l) (hB : B ≤ w.heap.size) (hp : 0 < l.length) (hl : l.length ≤ 64) :
    Calls Try.prog 60 #[v] w fun r w' => ∃ v', r = .returned v' ∧ Owns B w' v' (Pg.sealed (l ++ List.replicate (64 - l.length) 0)) ∧ Grew w w' v v' := by
  obtain ⟨va, vc, rfl⟩ := hown.shape
  have HOWN := hid hown
  clear hown
  obtain ⟨d, hd⟩ : ∃ d, d = 64 - l.length := ⟨_, rfl⟩
  have hd2 : (64 : Int) - (l.length : Int) = (d : Int) := by omega
  have HD := hid hd
  have hd3 : d ≤ 64 := by omega
  clear hd
  go_enter Try.func60, Try.ntmps60
  go_wp2_with (first
    | (at_builtin; refine wpApZ w rfl (.tmp 3) (.tmp 6) rfl B (.slice va l.length vc) l rfl HOWN.out hp d rfl (by omega) (by omega) hB ?_))
  intro v2 w2 ho2 hg2
  have HO2 := hid ho2
  have HG2 := hid hg2
  have hsz2 := hg2.size
  clear ho2 hg2
  go_wp2_with fail
  refine (seal_any B v2 _ _ HO2.out (by omega) (by simp; omega)).mono ?_
  rintro r w3 ⟨v3, rfl, ho3, hg3⟩
  go_wp2_with fail
  go_ret
  exact ⟨v3, rfl, by rw [← HD.out]; exact ho3, HG2.out.trans hg3⟩
end Go.Proofs.Ytolgpnaoaodepaa
