/- The walks of package rules: IsKey, IsValue, AreItems, AreKeys. -/
import Derived.Test.YtolgpnaoaodepaaGreatMathIm
namespace Go.Proofs.YtolgpnaoaodepaaGreat
open Go.RowKit

theorem ret_bool {a b : Bool} (h : a = b) : Ending.returned (.bool a) = .returned (.bool b) := by rw [h]
set_option maxHeartbeats 400000 in
theorem isKey_any (s : ByteArray) (w : World) : Calls Tryz.prog 60 #[.string s] w fun r w' => r = .returned (.bool (Pg.isKey s.size)) ∧ w' = w := by
  go_enter Tryz.func60, Tryz.ntmps60
  by_cases h1 : 1 ≤ s.size
  · have h2 : decide ((1 : Int) ≤ (s.size : Int)) = true := by simp; omega
    go_wp2_with fail
    go_ret
    exact ⟨ret_bool (by unfold Pg.isKey; rw [decide_eq_true h1]; simp; omega), rfl⟩
  · have h2 : decide ((1 : Int) ≤ (s.size : Int)) = false := by simp; omega
    go_wp2_with fail
    go_ret
    exact ⟨ret_bool (by unfold Pg.isKey; rw [decide_eq_false h1]; rfl), rfl⟩
set_option maxHeartbeats 400000 in
theorem isValue_any (s : ByteArray) (w : World) : Calls Tryz.prog 61 #[.string s] w fun r w' => r = .returned (.bool (decide (s.size ≤ 16))) ∧ w' = w := by
  go_enter Tryz.func61, Tryz.ntmps61
  go_wp2_with fail
  go_ret
  exact ⟨ret_bool (by simp; omega), rfl⟩

theorem quiet_of {f : FuncId} {args : Array Value} {w : World} {n : Nat} {v : Value} (h : Calls Tryz.prog f args (w.drewN n) fun e w' => e = .returned v ∧ w' = w.drewN n) : Calls Tryz.prog f args (w.drewN n) fun e w'' => e = .returned v ∧ ∃ m, w'' = w.drewN m :=
  h.mono fun _ _ ⟨he, hb⟩ => ⟨he, n, hb⟩
set_option maxHeartbeats 1000000 in
set_option maxRecDepth 100000 in
theorem areItems_any (v : Value) (l : List (ByteArray × ByteArray)) (w : World) (hv : IsItems w v l) (hl : l.length ≤ 1000000000) :
    Calls Tryz.prog 195 #[v] w fun r w' => r = .returned (.bool (Pg.okFrom none (plain l))) ∧ Below w.heap.size w w' := by
  obtain ⟨va, vc, rfl⟩ := hv.shape
  have HV := hid hv
  clear hv
  go_enter Tryz.func195, Tryz.ntmps195
  go_wp2_with fail
  go_loopw [7] (fun i wr => ∃ k : Nat, k ≤ l.length ∧ i = .int .i64 k ∧ Pg.okFrom (prevKey (plain l) k) (plain (l.drop k)) = Pg.okFrom none (plain l) ∧ Below w.heap.size w wr) (fun i _ => l.length - (intOf i).toNat)
  case atStart => exact ⟨0, Nat.zero_le _, rfl, rfl, Below.refl _ _⟩
  case round =>
    obtain ⟨k, hk, rfl, heq, hbel⟩ := hrel
    have HEQ := hid heq
    have HBE := hid hbel
    have hszr := hbel.size
    clear heq hbel
    by_cases hkl : k < l.length
    · obtain ⟨b, off, cap, hve, hcap1, hcap2, hbw, hia⟩ := HV.out.resolve_left (by rintro ⟨_, _, _, rfl⟩; simp at hkl)
      injection hve with hve1 hve2 hve3
      subst hve1 hve3
      have HIT := hid hia
      clear hia
      obtain ⟨c0, c1⟩ := HIT.out.below HBE.out hbw k hkl
      generalize hx : l[k]'hkl = x at *
      obtain ⟨kb, vb⟩ := x
      simp only at c0 c1
      have HNX : Hid (plain (l.drop k) = (kb.data.toList, vb.data.toList) :: plain (l.drop (k + 1))) := by
        show _ = _; rw [List.drop_eq_getElem_cons hkl, hx]; rfl
      have HPK : Hid (prevKey (plain l) (k + 1) = some kb.data.toList) := by
        show _ = _; unfold prevKey plain; rw [if_neg (by omega), Nat.add_sub_cancel, List.getElem?_map, List.getElem?_eq_getElem hkl, hx]; rfl
      clear hx
      rw [HNX.out, Pg.ok_cons, len_size, len_size] at HEQ
      have hi1 : (0 : Int) ≤ (k : Int) := by omega
      have hi2 : (k : Int) < (l.length : Int) := by omega
      have CK : ∀ W, Calls Tryz.prog 60 #[.string kb] W fun r w' => r = .returned (.bool (Pg.isKey kb.size)) ∧ w' = W := fun W => isKey_any kb W
      have CV : ∀ W, Calls Tryz.prog 61 #[.string vb] W fun r w' => r = .returned (.bool (decide (vb.size ≤ 16))) ∧ w' = W := fun W => isValue_any vb W
      have D0 := hid (show (wr.alloc (.cells #[.string kb, .string vb] 51)).cell? ⟨wr.heap.size, 0, none⟩ = some (.string kb) by simp)
      have D1 := hid (show (wr.alloc (.cells #[.string kb, .string vb] 51)).cell? ⟨wr.heap.size, 1, none⟩ = some (.string vb) by simp)
      have HB2 := hid (HBE.out.alloc hszr (.cells #[.string kb, .string vb] 51))
      generalize hkk : Pg.isKey kb.size = kk at *
      generalize hvv : decide (vb.size ≤ 16) = vv at *
      go_wp2_with fail
      generalize (wr.alloc (.cells #[.string kb, .string vb] 51)) = w2 at *
      generalize wr.heap.size = xb at *
      have k0 := D0.out
      have k1 := D1.out
      clear c0 c1
      cases kk
      · have HF : Hid (Pg.okFrom none (plain l) = false) := by
          show _ = _; rw [← HEQ.out]; rfl
        go_quiet (first | exact quiet_of (CK _) | exact quiet_of (CV _))
        go_wp2_with fail
        go_ret
        exact ⟨by rw [HF.out]; rfl, below_drewN HB2.out _⟩
      · cases vv
        · have HF : Hid (Pg.okFrom none (plain l) = false) := by
            show _ = _; rw [← HEQ.out]; rfl
          go_quiet (first | exact quiet_of (CK _) | exact quiet_of (CV _))
          go_wp2_with fail
          go_ret
          exact ⟨by rw [HF.out]; rfl, below_drewN HB2.out _⟩
        · by_cases hk0 : k = 0
          · have HG : Hid (Pg.okFrom (prevKey (plain l) (k + 1)) (plain (l.drop (k + 1))) = Pg.okFrom none (plain l)) := by
              show _ = _; rw [← HEQ.out, HPK.out, hk0]; rfl
            have hd2 : decide (0 < k) = false := by simp; omega
            clear hk0
            go_quiet (first | exact quiet_of (CK _) | exact quiet_of (CV _))
            go_wp2_with fail
            go_roundw
            case rel => exact ⟨k + 1, by omega, by go_num, HG.out, below_drewN HB2.out _⟩
            case measure => simp [intOf]; omega
          · have hd2 : decide (0 < k) = true := by simp; omega
            have hkp : k - 1 < l.length := by omega
            obtain ⟨e0, e1⟩ := HIT.out.below HB2.out hbw (k - 1) hkp
            have HPP : Hid (prevKey (plain l) k = some (l[k - 1]'hkp).1.data.toList) := by
              show _ = _; unfold prevKey plain; rw [if_neg hk0, List.getElem?_map, List.getElem?_eq_getElem hkp]; rfl
            generalize l[k - 1]'hkp = y at *
            obtain ⟨yb, yv⟩ := y
            simp only at e0 e1
            have hw1 : IntKind.i64.wrap ((k : Int) - 1) = ((k - 1 : Nat) : Int) := by rw [IntWalk.i64_in _ ⟨by omega, by omega⟩]; omega
            have hi3 : ((k - 1 : Nat) : Int) < (l.length : Int) := by omega
            have HKP : Hid (k - 1 < l.length) := hkp
            generalize hjp : k - 1 = jp at *
            clear hjp hkp e1
            by_cases hlt : yb.data.toList < kb.data.toList
            · have HG : Hid (Pg.okFrom (prevKey (plain l) (k + 1)) (plain (l.drop (k + 1))) = Pg.okFrom none (plain l)) := by
                show _ = _; rw [← HEQ.out, HPK.out, HPP.out]; simp [Pg.rises, hlt]
              have hcmp : Op.bytesLess yb.toList kb.toList = true := by rw [toList_is, toList_is, less_is]; exact decide_eq_true hlt
              clear hlt
              go_quiet (first | exact quiet_of (CK _) | exact quiet_of (CV _))
              go_wp2_with fail
              go_roundw
              case rel => exact ⟨k + 1, by omega, by go_num, HG.out, below_drewN HB2.out _⟩
              case measure => simp [intOf]; omega
            · have HF : Hid (Pg.okFrom none (plain l) = false) := by
                show _ = _; rw [← HEQ.out, HPP.out]; simp [Pg.rises, hlt]
              have hcmp : Op.bytesLess yb.toList kb.toList = false := by rw [toList_is, toList_is, less_is]; exact decide_eq_false hlt
              clear hlt
              go_quiet (first | exact quiet_of (CK _) | exact quiet_of (CV _))
              go_wp2_with fail
              go_ret
              exact ⟨by rw [HF.out]; rfl, below_drewN HB2.out _⟩
    · have HT : Hid (Pg.okFrom none (plain l) = true) := by
        show _ = _; rw [← HEQ.out, List.drop_eq_nil_of_le (by omega)]; rfl
      go_wp2_with fail
      go_ret
      exact ⟨by rw [HT.out]; rfl, HBE.out⟩
end Go.Proofs.YtolgpnaoaodepaaGreat
/- The walks of package rules: AreKeys, areChildren, IsChange, areChanges. -/
namespace Go.Proofs.YtolgpnaoaodepaaGreat
open Go.RowKit
namespace Pg
theorem okPivots_cons (p : Option (List UInt8)) (k : List UInt8) (r : List (List UInt8)) : okPivots (k :: r) p = (isKey k.length && rises p k && okPivots r (some k)) := rfl
end Pg

set_option maxHeartbeats 1000000 in
set_option maxRecDepth 100000 in
theorem areKeys_any (v : Value) (l : List ByteArray) (w : World) (hv : IsRow w v l.length (l.map .string)) :
    Calls Tryz.prog 197 #[v] w fun r w' => r = .returned (.bool (Pg.okPivots (lists l) none)) ∧ Below w.heap.size w w' := by
  obtain ⟨va, vc, rfl, hl, hrow⟩ := hv
  have HV := hid hrow
  clear hrow
  go_enter Tryz.func197, Tryz.ntmps197
  go_wp2_with fail
  go_loopw [7] (fun i wr => ∃ k : Nat, k ≤ l.length ∧ i = .int .i64 k ∧ Pg.okPivots (lists (l.drop k)) (prevOf (lists l) k) = Pg.okPivots (lists l) none ∧ Below w.heap.size w wr) (fun i _ => l.length - (intOf i).toNat)
  case atStart => exact ⟨0, Nat.zero_le _, rfl, rfl, Below.refl _ _⟩
  case round =>
    obtain ⟨k, hk, rfl, heq, hbel⟩ := hrel
    have HEQ := hid heq
    have HBE := hid hbel
    have hszr := hbel.size
    clear heq hbel
    by_cases hkl : k < l.length
    · obtain ⟨b, off, hve, hbw, hcs⟩ := HV.out.resolve_left (by omega)
      subst hve
      have c0 := rowAt (pl := l) hcs HBE.out hbw k hkl
      have HCS := hid (fun j hj => rowAt (pl := l) hcs HBE.out hbw j hj)
      clear hcs
      generalize hx : l[k]'hkl = kb at *
      have HNX : Hid (lists (l.drop k) = kb.data.toList :: lists (l.drop (k + 1))) := by
        show _ = _; rw [List.drop_eq_getElem_cons hkl, hx]; rfl
      have HPK : Hid (prevOf (lists l) (k + 1) = some kb.data.toList) := by
        show _ = _; unfold prevOf lists; rw [if_neg (by omega), Nat.add_sub_cancel, List.getElem?_map, List.getElem?_eq_getElem hkl, hx]; rfl
      clear hx
      rw [HNX.out, Pg.okPivots_cons, len_size] at HEQ
      have hi1 : (0 : Int) ≤ (k : Int) := by omega
      have hi2 : (k : Int) < (l.length : Int) := by omega
      have CK : ∀ W, Calls Tryz.prog 60 #[.string kb] W fun r w' => r = .returned (.bool (Pg.isKey kb.size)) ∧ w' = W := fun W => isKey_any kb W
      generalize hkk : Pg.isKey kb.size = kk at *
      cases kk
      · have HF : Hid (Pg.okPivots (lists l) none = false) := by
          show _ = _; rw [← HEQ.out]; rfl
        go_wp2_with fail
        refine (CK _).mono ?_
        rintro r w1 ⟨rfl, rfl⟩
        go_wp2_with fail
        go_ret
        exact ⟨by rw [HF.out]; rfl, HBE.out⟩
      · by_cases hk0 : k = 0
        · have HG : Hid (Pg.okPivots (lists (l.drop (k + 1))) (prevOf (lists l) (k + 1)) = Pg.okPivots (lists l) none) := by
            show _ = _; rw [← HEQ.out, HPK.out, hk0]; rfl
          have hd2 : decide (0 < k) = false := by simp; omega
          have hd3 : ¬ 0 < k := by omega
          clear hk0
          go_wp2_with fail
          refine (CK _).mono ?_
          rintro r w1 ⟨rfl, rfl⟩
          go_wp2_with fail
          go_roundw
          case rel => exact ⟨k + 1, by omega, by go_num, HG.out, HBE.out⟩
          case measure => simp [intOf]; omega
        · have hd2 : decide (0 < k) = true := by simp; omega
          have hd3 : 0 < k := by omega
          have hkp : k - 1 < l.length := by omega
          have e0 := HCS.out (k - 1) hkp
          have HPP : Hid (prevOf (lists l) k = some (l[k - 1]'hkp).data.toList) := by
            show _ = _; unfold prevOf lists; rw [if_neg hk0, List.getElem?_map, List.getElem?_eq_getElem hkp]; rfl
          generalize l[k - 1]'hkp = yb at *
          have hw1 : IntKind.i64.wrap ((k : Int) - 1) = ((k - 1 : Nat) : Int) := by rw [IntWalk.i64_in _ ⟨by omega, by omega⟩]; omega
          have hw2 : (k : Int) - 1 = ((k - 1 : Nat) : Int) := by omega
          have hi3 : ((k - 1 : Nat) : Int) < (l.length : Int) := by omega
          have HKP : Hid (k - 1 < l.length) := hkp
          generalize hjp : k - 1 = jp at *
          clear hjp hkp
          by_cases hlt : yb.data.toList < kb.data.toList
          · have HG : Hid (Pg.okPivots (lists (l.drop (k + 1))) (prevOf (lists l) (k + 1)) = Pg.okPivots (lists l) none) := by
              show _ = _; rw [← HEQ.out, HPK.out, HPP.out]; simp [Pg.rises, hlt]
            have hcmp : Op.bytesLess yb.toList kb.toList = true := by rw [toList_is, toList_is, less_is]; exact decide_eq_true hlt
            clear hlt
            go_wp2_with fail
            refine (CK _).mono ?_
            rintro r w1 ⟨rfl, rfl⟩
            go_wp2_with fail
            go_roundw
            case rel => exact ⟨k + 1, by omega, by go_num, HG.out, HBE.out⟩
            case measure => simp [intOf]; omega
          · have HF : Hid (Pg.okPivots (lists l) none = false) := by
              show _ = _; rw [← HEQ.out, HPP.out]; simp [Pg.rises, hlt]
            have hcmp : Op.bytesLess yb.toList kb.toList = false := by rw [toList_is, toList_is, less_is]; exact decide_eq_false hlt
            clear hlt
            go_wp2_with fail
            refine (CK _).mono ?_
            rintro r w1 ⟨rfl, rfl⟩
            go_wp2_with fail
            go_ret
            exact ⟨by rw [HF.out]; rfl, HBE.out⟩
    · have HT : Hid (Pg.okPivots (lists l) none = true) := by
        show _ = _; rw [← HEQ.out, List.drop_eq_nil_of_le (by omega)]; rfl
      go_wp2_with fail
      go_ret
      exact ⟨by rw [HT.out]; rfl, HBE.out⟩

set_option maxHeartbeats 1000000 in
set_option maxRecDepth 100000 in
theorem areChildren_any (v : Value) (l : List Int) (w : World) (hv : IsRow w v l.length (l.map (.int .i64))) :
    Calls Tryz.prog 196 #[v] w fun r w' => r = .returned (.bool (decide (1 ≤ l.length) && decide (l.length ≤ 4) && l.all Pg.okChild)) ∧ Below w.heap.size w w' := by
  obtain ⟨va, vc, rfl, hl, hrow⟩ := hv
  have HV := hid hrow
  clear hrow
  go_enter Tryz.func196, Tryz.ntmps196
  by_cases h1 : l.length < 1
  · go_wp2_with fail
    go_ret
    exact ⟨ret_bool (by rw [decide_eq_false (show ¬ 1 ≤ l.length by omega)]; rfl), Below.refl _ _⟩
  · by_cases h4 : 4 < l.length
    · go_wp2_with fail
      go_ret
      exact ⟨ret_bool (by rw [decide_eq_false (show ¬ l.length ≤ 4 by omega)]; simp), Below.refl _ _⟩
    · have HR : Hid ((decide (1 ≤ l.length) && decide (l.length ≤ 4) && l.all Pg.okChild) = l.all Pg.okChild) := by
        show _ = _; rw [decide_eq_true (show 1 ≤ l.length by omega), decide_eq_true (show l.length ≤ 4 by omega)]; rfl
      go_wp2_with fail
      go_loopw [15] (fun i wr => ∃ k : Nat, k ≤ l.length ∧ i = .int .i64 k ∧ (l.drop k).all Pg.okChild = l.all Pg.okChild ∧ Below w.heap.size w wr) (fun i _ => l.length - (intOf i).toNat)
      case atStart => exact ⟨0, Nat.zero_le _, rfl, rfl, Below.refl _ _⟩
      case round =>
        obtain ⟨k, hk, rfl, heq, hbel⟩ := hrel
        have HEQ := hid heq
        have HBE := hid hbel
        clear heq hbel
        by_cases hkl : k < l.length
        · obtain ⟨b, off, hve, hbw, hcs⟩ := HV.out.resolve_left (by omega)
          subst hve
          have c0 := rowAtI (pl := l) hcs HBE.out hbw k hkl
          clear hcs
          rw [List.drop_eq_getElem_cons hkl, List.all_cons] at HEQ
          generalize l[k]'hkl = c at *
          by_cases hc0 : c < 0
          · have HF : Hid (l.all Pg.okChild = false) := by
              show _ = _; rw [← HEQ.out]; unfold Pg.okChild; rw [decide_eq_false (show ¬ 0 ≤ c by omega)]; rfl
            go_wp2_with fail
            go_ret
            exact ⟨by rw [HR.out, HF.out]; rfl, HBE.out⟩
          · by_cases hc1 : 2147483647 < c
            · have HF : Hid (l.all Pg.okChild = false) := by
                show _ = _; rw [← HEQ.out]; unfold Pg.okChild; rw [decide_eq_false (show ¬ c ≤ 2147483647 by omega)]; simp
              go_wp2_with fail
              go_ret
              exact ⟨by rw [HR.out, HF.out]; rfl, HBE.out⟩
            · have HG : Hid ((l.drop (k + 1)).all Pg.okChild = l.all Pg.okChild) := by
                show _ = _; rw [← HEQ.out]; unfold Pg.okChild; rw [decide_eq_true (show 0 ≤ c by omega), decide_eq_true (show c ≤ 2147483647 by omega)]; simp
              go_wp2_with fail
              go_roundw
              case rel => exact ⟨k + 1, by omega, by go_num, HG.out, HBE.out⟩
              case measure => simp [intOf]; omega
        · have HT : Hid (l.all Pg.okChild = true) := by
            show _ = _; rw [← HEQ.out, List.drop_eq_nil_of_le (by omega)]; rfl
          go_wp2_with fail
          go_ret
          exact ⟨by rw [HR.out, HT.out]; rfl, HBE.out⟩
end Go.Proofs.YtolgpnaoaodepaaGreat
/- The walks of package rules: IsChange, areChanges, isLeaf, isBranch, IsNode. -/
namespace Go.Proofs.YtolgpnaoaodepaaGreat
open Go.RowKit

theorem empty_is (v : ByteArray) : v.toList.isEmpty = decide (v.size = 0) := by
  rw [toList_is]
  by_cases h : v.size = 0
  · rw [List.length_eq_zero_iff.1 (show v.data.toList.length = 0 by rw [len_size]; exact h), decide_eq_true h]; rfl
  · rw [decide_eq_false h, List.isEmpty_eq_false_iff]
    intro e; exact h (by rw [← len_size, e]; rfl)
set_option maxHeartbeats 1000000 in
set_option maxRecDepth 100000 in
theorem isChange_any (kd : Int) (k v : ByteArray) (w : World) :
    Calls Tryz.prog 36 #[.agg #[.int .i64 kd, .string k, .string v]] w fun r w' => r = .returned (.bool (Pg.isChange kd k.size v.size)) ∧ Below w.heap.size w w' := by
  have HB := hid ((Below.refl w.heap.size w).alloc (Nat.le_refl _) (.cells #[.int .i64 kd, .string k, .string v] 34))
  have CK : ∀ W, Calls Tryz.prog 60 #[.string k] W fun r w' => r = .returned (.bool (Pg.isKey k.size)) ∧ w' = W := fun W => isKey_any k W
  have CV : ∀ W, Calls Tryz.prog 61 #[.string v] W fun r w' => r = .returned (.bool (decide (v.size ≤ 16))) ∧ w' = W := fun W => isValue_any v W
  have HD : Hid (Pg.isChange kd k.size v.size = (Pg.isKey k.size && decide (v.size ≤ 16) && (decide (kd = 1) || decide (kd = 3) || (decide (kd = 2) && decide (v.size = 0))))) := rfl
  have HE := hid (empty_is v)
  generalize hkk : Pg.isKey k.size = kk at *
  clear hkk
  go_enter Tryz.func36, Tryz.ntmps36
  by_cases h13 : kd = 1 ∨ kd = 3
  · have HS : Hid (Pg.isChange kd k.size v.size = (kk && decide (v.size ≤ 16))) := by
      show _ = _; rw [HD.out]; rcases h13 with h | h <;> rw [h] <;> simp
    generalize hvv : decide (v.size ≤ 16) = vv at *
    clear hvv
    rcases h13 with h | h
    · subst h
      go_wp2_with fail
      refine (CK _).mono ?_
      rintro r w1 ⟨rfl, rfl⟩
      cases kk
      · go_wp2_with fail
        go_ret
        exact ⟨by rw [HS.out]; rfl, HB.out⟩
      · go_wp2_with fail
        refine (CV _).mono ?_
        rintro r w1 ⟨rfl, rfl⟩
        go_wp2_with fail
        go_ret
        exact ⟨by rw [HS.out]; rfl, HB.out⟩
    · subst h
      go_wp2_with fail
      refine (CK _).mono ?_
      rintro r w1 ⟨rfl, rfl⟩
      cases kk
      · go_wp2_with fail
        go_ret
        exact ⟨by rw [HS.out]; rfl, HB.out⟩
      · go_wp2_with fail
        refine (CV _).mono ?_
        rintro r w1 ⟨rfl, rfl⟩
        go_wp2_with fail
        go_ret
        exact ⟨by rw [HS.out]; rfl, HB.out⟩
  · have hn1 : ¬ kd = 1 := fun h => h13 (.inl h)
    have hn3 : ¬ kd = 3 := fun h => h13 (.inr h)
    clear h13
    have hb1 : (kd == 1) = false := by simpa using hn1
    have hb3 : (kd == 3) = false := by simpa using hn3
    by_cases h2 : kd = 2
    · have HS : Hid (Pg.isChange kd k.size v.size = (kk && decide (v.size = 0))) := by
        show _ = _; rw [HD.out, h2]
        by_cases h0 : v.size = 0
        · rw [h0]; cases kk <;> simp
        · rw [decide_eq_false h0]; simp
      subst h2
      go_wp2_with fail
      refine (CK _).mono ?_
      rintro r w1 ⟨rfl, rfl⟩
      cases kk
      · go_wp2_with fail
        go_ret
        exact ⟨by rw [HS.out]; rfl, HB.out⟩
      · go_wp2_with fail
        go_ret
        exact ⟨by rw [HS.out, ← HE.out]; rfl, HB.out⟩
    · have HS : Hid (Pg.isChange kd k.size v.size = false) := by
        show _ = _; rw [HD.out, decide_eq_false hn1, decide_eq_false hn3, decide_eq_false h2]; simp
      have hb2 : (kd == 2) = false := by simpa using h2
      go_wp2_with fail
      go_ret
      exact ⟨by rw [HS.out]; rfl, HB.out⟩

set_option maxHeartbeats 1000000 in
set_option maxRecDepth 100000 in
theorem areChanges_any (v : Value) (l : List (Int × ByteArray × ByteArray)) (w : World) (hv : IsChs w v l) :
    Calls Tryz.prog 198 #[v] w fun r w' => r = .returned (.bool (decide (l.length ≤ 8) && (plainCh l).all Pg.okChange)) ∧ Below w.heap.size w w' := by
  obtain ⟨va, vc, rfl, hl, hrow⟩ := hv
  have HV := hid hrow
  clear hrow
  go_enter Tryz.func198, Tryz.ntmps198
  by_cases h8 : 8 < l.length
  · go_wp2_with fail
    go_ret
    exact ⟨ret_bool (by rw [decide_eq_false (show ¬ l.length ≤ 8 by omega)]; rfl), Below.refl _ _⟩
  · have HR : Hid ((decide (l.length ≤ 8) && (plainCh l).all Pg.okChange) = (plainCh l).all Pg.okChange) := by
      show _ = _; rw [decide_eq_true (show l.length ≤ 8 by omega)]; rfl
    go_wp2_with fail
    go_loopw [10] (fun i wr => ∃ k : Nat, k ≤ l.length ∧ i = .int .i64 k ∧ (plainCh (l.drop k)).all Pg.okChange = (plainCh l).all Pg.okChange ∧ Below w.heap.size w wr) (fun i _ => l.length - (intOf i).toNat)
    case atStart => exact ⟨0, Nat.zero_le _, rfl, rfl, Below.refl _ _⟩
    case round =>
      obtain ⟨k, hk, rfl, heq, hbel⟩ := hrel
      have HEQ := hid heq
      have HBE := hid hbel
      have hszr := hbel.size
      clear heq hbel
      by_cases hkl : k < l.length
      · obtain ⟨b, off, hve, hbw, hcs⟩ := HV.out.resolve_left (by omega)
        subst hve
        obtain ⟨c0, c1, c2⟩ := hcs.below HBE.out hbw k hkl
        clear hcs
        have HNX : Hid (plainCh (l.drop k) = ((l[k]'hkl).1, (l[k]'hkl).2.1.data.toList, (l[k]'hkl).2.2.data.toList) :: plainCh (l.drop (k + 1))) := by
          show _ = _; rw [List.drop_eq_getElem_cons hkl]; rfl
        generalize l[k]'hkl = x at *
        obtain ⟨ck, kb, vb⟩ := x
        simp only at c0 c1 c2
        have HB2 := hid (HBE.out.alloc hszr (.cells #[.int .i64 ck, .string kb, .string vb] 34))
        have HOK : Hid (Pg.okChange (ck, kb.data.toList, vb.data.toList) = Pg.isChange ck kb.size vb.size) := by
          show _ = _; unfold Pg.okChange; simp only [len_size]
        rw [HNX.out, List.all_cons, HOK.out] at HEQ
        go_wp2_with fail
        refine (isChange_any ck kb vb _).mono ?_
        rintro r w1 ⟨rfl, hb1⟩
        have HB1 := hid (HB2.out.trans (hb1.mono (by simp; omega)))
        clear hb1
        generalize Pg.isChange ck kb.size vb.size = cc at *
        cases cc
        · have HF : Hid ((plainCh l).all Pg.okChange = false) := by
            show _ = _; rw [← HEQ.out]; rfl
          go_wp2_with fail
          go_ret
          exact ⟨by rw [HR.out, HF.out]; rfl, HB1.out⟩
        · have HG : Hid ((plainCh (l.drop (k + 1))).all Pg.okChange = (plainCh l).all Pg.okChange) := by
            show _ = _; rw [← HEQ.out]; rfl
          go_wp2_with fail
          go_roundw
          case rel => exact ⟨k + 1, by omega, by go_num, HG.out, HB1.out⟩
          case measure => simp [intOf]; omega
      · have HT : Hid ((plainCh l).all Pg.okChange = true) := by
          show _ = _; rw [← HEQ.out, List.drop_eq_nil_of_le (by omega)]; rfl
        go_wp2_with fail
        go_ret
        exact ⟨by rw [HR.out, HT.out]; rfl, HBE.out⟩

set_option maxHeartbeats 1000000 in
set_option maxRecDepth 100000 in
theorem isLeaf_any (kd : Int) (v1 : Value) (a2 a3 a4 : Option Addr) (n2 n3 n4 p2 p3 p4 : Nat) (l : List (ByteArray × ByteArray)) (w : World) (hv : IsItems w v1 l) (hl : l.length ≤ 1000000000) :
    Calls Tryz.prog 140 #[.agg #[.int .i64 kd, v1, .slice a2 n2 p2, .slice a3 n3 p3, .slice a4 n4 p4]] w fun r w' => r = .returned (.bool (Pg.okFrom none (plain l) && decide (l.length ≤ 16) && decide (n2 = 0) && decide (n3 = 0) && decide (n4 = 0))) ∧ Below w.heap.size w w' := by
  generalize hres : (Pg.okFrom none (plain l) && decide (l.length ≤ 16) && decide (n2 = 0) && decide (n3 = 0) && decide (n4 = 0)) = res
  have HRES := hid hres
  clear hres
  obtain ⟨a1, p1, rfl⟩ := hv.shape
  have HV := hid hv
  clear hv
  have HB0 := hid ((Below.refl w.heap.size w).alloc (Nat.le_refl _) (.cells #[.int .i64 kd, .slice a1 l.length p1, .slice a2 n2 p2, .slice a3 n3 p3, .slice a4 n4 p4] 79))
  have HV2 := hid (HV.out.below ((Below.refl w.heap.size w).alloc (Nat.le_refl _) (.cells #[.int .i64 kd, .slice a1 l.length p1, .slice a2 n2 p2, .slice a3 n3 p3, .slice a4 n4 p4] 79)))
  go_enter Tryz.func140, Tryz.ntmps140
  by_cases q2 : n2 = 0
  · by_cases q3 : n3 = 0
    · by_cases q4 : n4 = 0
      · subst q2 q3 q4
        by_cases h16 : l.length ≤ 16
        · have HR : Hid ((Pg.okFrom none (plain l) && decide (l.length ≤ 16) && decide (0 = 0) && decide (0 = 0) && decide (0 = 0)) = Pg.okFrom none (plain l)) := by
            show _ = _; rw [decide_eq_true h16]; simp
          go_wp2_with fail
          refine (areItems_any _ l _ HV2.out hl).mono ?_
          rintro r w1 ⟨rfl, hb1⟩
          have HB1 := hid (HB0.out.trans (hb1.mono (by simp)))
          clear hb1
          generalize Pg.okFrom none (plain l) = ok at *
          go_wp2_with fail
          go_ret
          exact ⟨by rw [← HRES.out, HR.out]; rfl, HB1.out⟩
        · go_wp2_with fail
          go_ret
          exact ⟨ret_bool (by rw [← HRES.out, decide_eq_false h16]; simp), HB0.out⟩
      · have h4' : 0 < n4 := by omega
        subst q2 q3
        go_wp2_with fail
        go_ret
        exact ⟨ret_bool (by rw [← HRES.out, decide_eq_false q4]; simp), HB0.out⟩
    · have h3' : 0 < n3 := by omega
      subst q2
      go_wp2_with fail
      go_ret
      exact ⟨ret_bool (by rw [← HRES.out, decide_eq_false q3]; simp), HB0.out⟩
  · have h2' : 0 < n2 := by omega
    go_wp2_with fail
    go_ret
    exact ⟨ret_bool (by rw [← HRES.out, decide_eq_false q2]; simp), HB0.out⟩

set_option maxHeartbeats 1000000 in
set_option maxRecDepth 100000 in
theorem isBranch_any (v : Value) (kd : Int) (il : List (ByteArray × ByteArray)) (cl : List Int) (pl : List ByteArray) (ml : List (Int × ByteArray × ByteArray)) (w : World) (hv : IsNode w v kd il cl pl ml) :
    Calls Tryz.prog 141 #[v] w fun r w' => r = .returned (.bool (Pg.okPivots (lists pl) none && cl.all Pg.okChild && (plainCh ml).all Pg.okChange && decide (il.length = 0) && decide (1 ≤ cl.length) && decide (cl.length ≤ 4) && decide (pl.length + 1 = cl.length) && decide (ml.length ≤ 8))) ∧ Below w.heap.size w w' := by
  generalize hres : (Pg.okPivots (lists pl) none && cl.all Pg.okChild && (plainCh ml).all Pg.okChange && decide (il.length = 0) && decide (1 ≤ cl.length) && decide (cl.length ≤ 4) && decide (pl.length + 1 = cl.length) && decide (ml.length ≤ 8)) = res
  have HRES := hid hres
  clear hres
  obtain ⟨v1, v2, v3, v4, rfl, h1, hil, h2, h3, h4⟩ := hv
  obtain ⟨a1, p1, rfl⟩ := h1.shape
  obtain ⟨a2, p2, rfl, hcl, -⟩ := id h2
  obtain ⟨a3, p3, rfl, hpl, -⟩ := id h3
  obtain ⟨a4, p4, rfl, hml, -⟩ := id h4
  have BA := (Below.refl w.heap.size w).alloc (Nat.le_refl _) (.cells #[.int .i64 kd, .slice a1 il.length p1, .slice a2 cl.length p2, .slice a3 pl.length p3, .slice a4 ml.length p4] 79)
  have HB0 := hid BA
  have H2 := hid (h2.below BA)
  have H3 := hid (h3.below BA)
  have H4 := hid (h4.below BA)
  have HN : Hid ((w.alloc (.cells #[.int .i64 kd, .slice a1 il.length p1, .slice a2 cl.length p2, .slice a3 pl.length p3, .slice a4 ml.length p4] 79)).heap[w.heap.size]? = some (.cells #[.int .i64 kd, .slice a1 il.length p1, .slice a2 cl.length p2, .slice a3 pl.length p3, .slice a4 ml.length p4] 79 (0, 0))) := heap_alloc_new _ _
  have hws : w.heap.size < (w.alloc (.cells #[.int .i64 kd, .slice a1 il.length p1, .slice a2 cl.length p2, .slice a3 pl.length p3, .slice a4 ml.length p4] 79)).heap.size := by simp
  clear BA h1 h2 h3 h4
  go_enter Tryz.func141, Tryz.ntmps141
  by_cases hi : 0 < il.length
  · go_wp2_with fail
    go_ret
    exact ⟨ret_bool (by rw [← HRES.out, decide_eq_false (show ¬ il.length = 0 by omega)]; simp), HB0.out⟩
  · have HR0 : Hid (decide (il.length = 0) = true) := by exact decide_eq_true (by omega)
    go_wp2_with fail
    generalize w.alloc (.cells #[.int .i64 kd, .slice a1 il.length p1, .slice a2 cl.length p2, .slice a3 pl.length p3, .slice a4 ml.length p4] 79) = w0 at *
    refine (areChildren_any _ cl _ H2.out).mono ?_
    rintro r w1 ⟨rfl, hb1⟩
    have HB1 := hid (HB0.out.trans (hb1.mono (by omega)))
    obtain ⟨m0, m1, m2, m3, m4⟩ := node_cells ((hb1.block w.heap.size (by omega)).trans HN.out)
    have H3' := hid (H3.out.below hb1)
    have H4' := hid (H4.out.below hb1)
    have hs1 := hb1.size
    have HN1 := hid ((hb1.block w.heap.size (by omega)).trans HN.out)
    clear hb1 H3 H4 HN
    have HC : Hid ((decide (1 ≤ cl.length) && decide (cl.length ≤ 4) && cl.all Pg.okChild) = (cl.all Pg.okChild && decide (1 ≤ cl.length) && decide (cl.length ≤ 4))) := by
      show _ = _; generalize cl.all Pg.okChild = x; generalize decide (1 ≤ cl.length) = y; generalize decide (cl.length ≤ 4) = z; cases x <;> cases y <;> cases z <;> rfl
    generalize hcc : (decide (1 ≤ cl.length) && decide (cl.length ≤ 4) && cl.all Pg.okChild) = cc at *
    have HS : Hid (res = (cc && decide (pl.length + 1 = cl.length) && Pg.okPivots (lists pl) none && (decide (ml.length ≤ 8) && (plainCh ml).all Pg.okChange))) := by
      show _ = _
      rw [← HRES.out, HC.out, HR0.out]
      generalize cl.all Pg.okChild = x; generalize decide (1 ≤ cl.length) = y; generalize decide (cl.length ≤ 4) = z; generalize Pg.okPivots (lists pl) none = p; generalize (plainCh ml).all Pg.okChange = q; generalize decide (pl.length + 1 = cl.length) = s; generalize decide (ml.length ≤ 8) = t
      cases x <;> cases y <;> cases z <;> cases p <;> cases q <;> cases s <;> cases t <;> rfl
    clear hcc HC
    cases cc
    · go_wp2_with fail
      go_ret
      exact ⟨by rw [HS.out]; rfl, HB1.out⟩
    · by_cases hq : pl.length + 1 = cl.length
      · have hq2 : ((pl.length : Int) == (cl.length : Int) - 1) = true := by simp; omega
        have HQ : Hid (decide (pl.length + 1 = cl.length) = true) := by exact decide_eq_true hq
        have hc1 : 1 ≤ cl.length := by omega
        clear hq
        go_wp2_with fail
        refine (areKeys_any _ pl _ H3'.out).mono ?_
        rintro r w2 ⟨rfl, hb2⟩
        have HB2 := hid (HB1.out.trans (hb2.mono (by omega)))
        have H4'' := hid (H4'.out.below hb2)
        clear m0 m1 m2 m3 m4
        obtain ⟨m0, m1, m2, m3, m4⟩ := node_cells ((hb2.block w.heap.size (by omega)).trans HN1.out)
        have hs2 := hb2.size
        clear hb2
        generalize Pg.okPivots (lists pl) none = pp at *
        cases pp
        · go_wp2_with fail
          go_ret
          exact ⟨by rw [HS.out, HQ.out]; rfl, HB2.out⟩
        · go_wp2_with fail
          refine (areChanges_any _ ml _ H4''.out).mono ?_
          rintro r w3 ⟨rfl, hb3⟩
          have HB3 := hid (HB2.out.trans (hb3.mono (by omega)))
          clear hb3
          generalize (decide (ml.length ≤ 8) && (plainCh ml).all Pg.okChange) = mm at *
          go_wp2_with fail
          go_ret
          exact ⟨by rw [HS.out, HQ.out]; rfl, HB3.out⟩
      · have hq2 : ((pl.length : Int) == (cl.length : Int) - 1) = false := by simp; omega
        have HQ : Hid (decide (pl.length + 1 = cl.length) = false) := by exact decide_eq_false hq
        go_wp2_with fail
        go_ret
        exact ⟨by rw [HS.out, HQ.out]; rfl, HB1.out⟩
theorem node_branch {il : List (ByteArray × ByteArray)} {cl : List Int} {pl : List ByteArray} {ml : List (Int × ByteArray × ByteArray)} (kd : Int) (h1 : kd ≠ 1) (x : Bool) (hx : (Pg.okPivots (lists pl) none && cl.all Pg.okChild && (plainCh ml).all Pg.okChange && decide (il.length = 0) && decide (1 ≤ cl.length) && decide (cl.length ≤ 4) && decide (pl.length + 1 = cl.length) && decide (ml.length ≤ 8)) = x) : Pg.well kd (plain il) cl (lists pl) (plainCh ml) = (decide (kd = 2) && x) := by
  unfold Pg.well
  rw [if_neg h1, ← hx]
  simp only [plain, lists, plainCh, List.length_map]
  generalize cl.all Pg.okChild = x; generalize decide (1 ≤ cl.length) = y; generalize decide (cl.length ≤ 4) = z; generalize Pg.okPivots _ none = p; generalize (List.all _ Pg.okChange) = q; generalize decide (pl.length + 1 = cl.length) = s; generalize decide (ml.length ≤ 8) = t; generalize decide (il.length = 0) = u; generalize decide (kd = 2) = k
  cases x <;> cases y <;> cases z <;> cases p <;> cases q <;> cases s <;> cases t <;> cases u <;> cases k <;> rfl
set_option maxHeartbeats 1000000 in
set_option maxRecDepth 100000 in
theorem isNode_any (v : Value) (kd : Int) (il : List (ByteArray × ByteArray)) (cl : List Int) (pl : List ByteArray) (ml : List (Int × ByteArray × ByteArray)) (w : World) (hv : IsNode w v kd il cl pl ml) :
    Calls Tryz.prog 80 #[v] w fun r w' => r = .returned (.bool (Pg.well kd (plain il) cl (lists pl) (plainCh ml))) ∧ Below w.heap.size w w' := by
  have HW := hid hv
  generalize hres : Pg.well kd (plain il) cl (lists pl) (plainCh ml) = res
  have HRES := hid hres
  clear hres
  obtain ⟨v1, v2, v3, v4, rfl, h1, hil, h2, h3, h4⟩ := hv
  obtain ⟨a1, p1, rfl⟩ := h1.shape
  obtain ⟨a2, p2, rfl, hcl, -⟩ := id h2
  obtain ⟨a3, p3, rfl, hpl, -⟩ := id h3
  obtain ⟨a4, p4, rfl, hml, -⟩ := id h4
  have BA := (Below.refl w.heap.size w).alloc (Nat.le_refl _) (.cells #[.int .i64 kd, .slice a1 il.length p1, .slice a2 cl.length p2, .slice a3 pl.length p3, .slice a4 ml.length p4] 79)
  have HB0 := hid BA
  have H1 := hid (h1.below BA)
  have HW2 := hid (HW.out.below BA)
  clear BA h1 h2 h3 h4
  go_enter Tryz.func80, Tryz.ntmps80
  by_cases hk1 : kd = 1
  · have HR : Hid (res = (Pg.okFrom none (plain il) && decide (il.length ≤ 16) && decide (cl.length = 0) && decide (pl.length = 0) && decide (ml.length = 0))) := by
      show _ = _; rw [← HRES.out]; unfold Pg.well; rw [if_pos hk1]; simp only [plain, lists, plainCh, List.length_map]
    have hb : (kd == 1) = true := by simpa using hk1
    clear hk1
    go_wp2_with fail
    refine (isLeaf_any kd _ a2 a3 a4 cl.length pl.length ml.length p2 p3 p4 il _ H1.out hil).mono ?_
    rintro r w1 ⟨rfl, hb1⟩
    have HB1 := hid (HB0.out.trans (hb1.mono (by simp)))
    clear hb1
    rw [← HR.out]
    go_wp2_with fail
    go_ret
    exact ⟨rfl, HB1.out⟩
  · have hb : (kd == 1) = false := by simpa using hk1
    by_cases hk2 : kd = 2
    · have hb2 : (kd == 2) = true := by simpa using hk2
      have HK2 := hid (decide_eq_true hk2)
      have HK1 := hid hk1
      clear hk1 hk2
      go_wp2_with fail
      refine (isBranch_any _ kd il cl pl ml _ HW2.out).mono ?_
      rintro r w1 ⟨rfl, hb1⟩
      have HB1 := hid (HB0.out.trans (hb1.mono (by simp)))
      clear hb1
      generalize hx : (Pg.okPivots (lists pl) none && cl.all Pg.okChild && (plainCh ml).all Pg.okChange && decide (il.length = 0) && decide (1 ≤ cl.length) && decide (cl.length ≤ 4) && decide (pl.length + 1 = cl.length) && decide (ml.length ≤ 8)) = x
      have HX : Hid (res = x) := by
        show _ = _; rw [← HRES.out, node_branch kd HK1.out x hx, HK2.out]; rfl
      clear hx
      go_wp2_with fail
      go_ret
      exact ⟨by rw [HX.out]; rfl, HB1.out⟩
    · have hb2 : (kd == 2) = false := by simpa using hk2
      have HX : Hid (res = false) := by
        show _ = _; rw [← HRES.out, node_branch kd hk1 _ rfl, decide_eq_false hk2]; rfl
      clear hk1 hk2
      go_wp2_with fail
      go_ret
      exact ⟨by rw [HX.out]; rfl, HB0.out⟩
end Go.Proofs.YtolgpnaoaodepaaGreat
