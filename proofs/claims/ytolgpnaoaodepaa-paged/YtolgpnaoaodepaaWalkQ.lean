/- The walks of package rules: AreKeys, areChildren, IsChange, areChanges. -/
import Derived.Test.YtolgpnaoaodepaaWalkP
namespace Go.Proofs.Ytolgpnaoaodepaa
open Go.RowKit
namespace Pg
theorem okPivots_cons (p : Option (List UInt8)) (k : List UInt8) (r : List (List UInt8)) : okPivots (k :: r) p = (isKey k.length && rises p k && okPivots r (some k)) := rfl
end Pg

set_option maxHeartbeats 1000000 in
set_option maxRecDepth 100000 in
theorem areKeys_any (v : Value) (l : List ByteArray) (w : World) (hv : IsRow w v l.length (l.map .string)) :
    Calls Try.prog 52 #[v] w fun r w' => r = .returned (.bool (Pg.okPivots (lists l) none)) ∧ Below w.heap.size w w' := by
  obtain ⟨va, vc, rfl, hl, hrow⟩ := hv
  have HV := hid hrow
  clear hrow
  go_enter Try.func52, Try.ntmps52
  go_wp2_with fail
  go_loopw [7] (fun i wr => ∃ k : Nat, k ≤ l.length ∧ i = .int .i64 k ∧ Pg.okPivots (lists (l.drop k)) (prevOf (lists l) k) = Pg.okPivots (lists l) none ∧ Below w.heap.size w wr) (fun i _ => l.length - (intOf i).toNat)
  case atStart => exact ⟨0, Nat.zero_le _, rfl, rfl, Below.refl _ _⟩
  case round =>
    obtain ⟨k, hk, rfl, heq, hbel⟩ := hrel
    have HEQ := hid heq
    have HBE := hid hbel
    have hszr := hbel.size
    clear heq hbel
    by_cases hkl : k < l.length
    · obtain ⟨b, off, hve, hbw, hcs⟩ := HV.out.resolve_left (by omega)
      subst hve
      have c0 := rowAt (pl := l) hcs HBE.out hbw k hkl
      have HCS := hid (fun j hj => rowAt (pl := l) hcs HBE.out hbw j hj)
      clear hcs
      generalize hx : l[k]'hkl = kb at *
      have HNX : Hid (lists (l.drop k) = kb.data.toList :: lists (l.drop (k + 1))) := by
        show _ = _; rw [List.drop_eq_getElem_cons hkl, hx]; rfl
      have HPK : Hid (prevOf (lists l) (k + 1) = some kb.data.toList) := by
        show _ = _; unfold prevOf lists; rw [if_neg (by omega), Nat.add_sub_cancel, List.getElem?_map, List.getElem?_eq_getElem hkl, hx]; rfl
      clear hx
      rw [HNX.out, Pg.okPivots_cons, len_size] at HEQ
      have hi1 : (0 : Int) ≤ (k : Int) := by omega
      have hi2 : (k : Int) < (l.length : Int) := by omega
      have CK : ∀ W, Calls Try.prog 71 #[.string kb] W fun r w' => r = .returned (.bool (Pg.isKey kb.size)) ∧ w' = W := fun W => isKey_any kb W
      generalize hkk : Pg.isKey kb.size = kk at *
      cases kk
      · have HF : Hid (Pg.okPivots (lists l) none = false) := by
          show _ = _; rw [← HEQ.out]; rfl
        go_wp2_with fail
        refine (CK _).mono ?_
        rintro r w1 ⟨rfl, rfl⟩
        go_wp2_with fail
        go_ret
        exact ⟨by rw [HF.out]; rfl, HBE.out⟩
      · by_cases hk0 : k = 0
        · have HG : Hid (Pg.okPivots (lists (l.drop (k + 1))) (prevOf (lists l) (k + 1)) = Pg.okPivots (lists l) none) := by
            show _ = _; rw [← HEQ.out, HPK.out, hk0]; rfl
          have hd2 : decide (0 < k) = false := by simp; omega
          have hd3 : ¬ 0 < k := by omega
          clear hk0
          go_wp2_with fail
          refine (CK _).mono ?_
          rintro r w1 ⟨rfl, rfl⟩
          go_wp2_with fail
          go_roundw
          case rel => exact ⟨k + 1, by omega, by go_num, HG.out, HBE.out⟩
          case measure => simp [intOf]; omega
        · have hd2 : decide (0 < k) = true := by simp; omega
          have hd3 : 0 < k := by omega
          have hkp : k - 1 < l.length := by omega
          have e0 := HCS.out (k - 1) hkp
          have HPP : Hid (prevOf (lists l) k = some (l[k - 1]'hkp).data.toList) := by
            show _ = _; unfold prevOf lists; rw [if_neg hk0, List.getElem?_map, List.getElem?_eq_getElem hkp]; rfl
          generalize l[k - 1]'hkp = yb at *
          have hw1 : IntKind.i64.wrap ((k : Int) - 1) = ((k - 1 : Nat) : Int) := by rw [IntWalk.i64_in _ ⟨by omega, by omega⟩]; omega
          have hw2 : (k : Int) - 1 = ((k - 1 : Nat) : Int) := by omega
          have hi3 : ((k - 1 : Nat) : Int) < (l.length : Int) := by omega
          have HKP : Hid (k - 1 < l.length) := hkp
          generalize hjp : k - 1 = jp at *
          clear hjp hkp
          by_cases hlt : yb.data.toList < kb.data.toList
          · have HG : Hid (Pg.okPivots (lists (l.drop (k + 1))) (prevOf (lists l) (k + 1)) = Pg.okPivots (lists l) none) := by
              show _ = _; rw [← HEQ.out, HPK.out, HPP.out]; simp [Pg.rises, hlt]
            have hcmp : Op.bytesLess yb.toList kb.toList = true := by rw [toList_is, toList_is, less_is]; exact decide_eq_true hlt
            clear hlt
            go_wp2_with fail
            refine (CK _).mono ?_
            rintro r w1 ⟨rfl, rfl⟩
            go_wp2_with fail
            go_roundw
            case rel => exact ⟨k + 1, by omega, by go_num, HG.out, HBE.out⟩
            case measure => simp [intOf]; omega
          · have HF : Hid (Pg.okPivots (lists l) none = false) := by
              show _ = _; rw [← HEQ.out, HPP.out]; simp [Pg.rises, hlt]
            have hcmp : Op.bytesLess yb.toList kb.toList = false := by rw [toList_is, toList_is, less_is]; exact decide_eq_false hlt
            clear hlt
            go_wp2_with fail
            refine (CK _).mono ?_
            rintro r w1 ⟨rfl, rfl⟩
            go_wp2_with fail
            go_ret
            exact ⟨by rw [HF.out]; rfl, HBE.out⟩
    · have HT : Hid (Pg.okPivots (lists l) none = true) := by
        show _ = _; rw [← HEQ.out, List.drop_eq_nil_of_le (by omega)]; rfl
      go_wp2_with fail
      go_ret
      exact ⟨by rw [HT.out]; rfl, HBE.out⟩

set_option maxHeartbeats 1000000 in
set_option maxRecDepth 100000 in
theorem areChildren_any (v : Value) (l : List Int) (w : World) (hv : IsRow w v l.length (l.map (.int .i64))) :
    Calls Try.prog 51 #[v] w fun r w' => r = .returned (.bool (decide (1 ≤ l.length) && decide (l.length ≤ 4) && l.all Pg.okChild)) ∧ Below w.heap.size w w' := by
  obtain ⟨va, vc, rfl, hl, hrow⟩ := hv
  have HV := hid hrow
  clear hrow
  go_enter Try.func51, Try.ntmps51
  by_cases h1 : l.length < 1
  · go_wp2_with fail
    go_ret
    exact ⟨ret_bool (by rw [decide_eq_false (show ¬ 1 ≤ l.length by omega)]; rfl), Below.refl _ _⟩
  · by_cases h4 : 4 < l.length
    · go_wp2_with fail
      go_ret
      exact ⟨ret_bool (by rw [decide_eq_false (show ¬ l.length ≤ 4 by omega)]; simp), Below.refl _ _⟩
    · have HR : Hid ((decide (1 ≤ l.length) && decide (l.length ≤ 4) && l.all Pg.okChild) = l.all Pg.okChild) := by
        show _ = _; rw [decide_eq_true (show 1 ≤ l.length by omega), decide_eq_true (show l.length ≤ 4 by omega)]; rfl
      go_wp2_with fail
      go_loopw [15] (fun i wr => ∃ k : Nat, k ≤ l.length ∧ i = .int .i64 k ∧ (l.drop k).all Pg.okChild = l.all Pg.okChild ∧ Below w.heap.size w wr) (fun i _ => l.length - (intOf i).toNat)
      case atStart => exact ⟨0, Nat.zero_le _, rfl, rfl, Below.refl _ _⟩
      case round =>
        obtain ⟨k, hk, rfl, heq, hbel⟩ := hrel
        have HEQ := hid heq
        have HBE := hid hbel
        clear heq hbel
        by_cases hkl : k < l.length
        · obtain ⟨b, off, hve, hbw, hcs⟩ := HV.out.resolve_left (by omega)
          subst hve
          have c0 := rowAtI (pl := l) hcs HBE.out hbw k hkl
          clear hcs
          rw [List.drop_eq_getElem_cons hkl, List.all_cons] at HEQ
          generalize l[k]'hkl = c at *
          by_cases hc0 : c < 0
          · have HF : Hid (l.all Pg.okChild = false) := by
              show _ = _; rw [← HEQ.out]; unfold Pg.okChild; rw [decide_eq_false (show ¬ 0 ≤ c by omega)]; rfl
            go_wp2_with fail
            go_ret
            exact ⟨by rw [HR.out, HF.out]; rfl, HBE.out⟩
          · by_cases hc1 : 2147483647 < c
            · have HF : Hid (l.all Pg.okChild = false) := by
                show _ = _; rw [← HEQ.out]; unfold Pg.okChild; rw [decide_eq_false (show ¬ c ≤ 2147483647 by omega)]; simp
              go_wp2_with fail
              go_ret
              exact ⟨by rw [HR.out, HF.out]; rfl, HBE.out⟩
            · have HG : Hid ((l.drop (k + 1)).all Pg.okChild = l.all Pg.okChild) := by
                show _ = _; rw [← HEQ.out]; unfold Pg.okChild; rw [decide_eq_true (show 0 ≤ c by omega), decide_eq_true (show c ≤ 2147483647 by omega)]; simp
              go_wp2_with fail
              go_roundw
              case rel => exact ⟨k + 1, by omega, by go_num, HG.out, HBE.out⟩
              case measure => simp [intOf]; omega
        · have HT : Hid (l.all Pg.okChild = true) := by
            show _ = _; rw [← HEQ.out, List.drop_eq_nil_of_le (by omega)]; rfl
          go_wp2_with fail
          go_ret
          exact ⟨by rw [HR.out, HT.out]; rfl, HBE.out⟩
end Go.Proofs.Ytolgpnaoaodepaa
