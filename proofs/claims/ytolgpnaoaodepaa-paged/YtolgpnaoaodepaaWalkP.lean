/- The walks of package rules: IsKey, IsValue, AreItems, AreKeys. -/
import Derived.Test.YtolgpnaoaodepaaWalkO
namespace Go.Proofs.Ytolgpnaoaodepaa
open Go.RowKit

theorem ret_bool {a b : Bool} (h : a = b) : Ending.returned (.bool a) = .returned (.bool b) := by rw [h]
set_option maxHeartbeats 400000 in
theorem isKey_any (s : ByteArray) (w : World) : Calls Try.prog 71 #[.string s] w fun r w' => r = .returned (.bool (Pg.isKey s.size)) ∧ w' = w := by
  go_enter Try.func71, Try.ntmps71
  by_cases h1 : 1 ≤ s.size
  · have h2 : decide ((1 : Int) ≤ (s.size : Int)) = true := by simp; omega
    go_wp2_with fail
    go_ret
    exact ⟨ret_bool (by unfold Pg.isKey; rw [decide_eq_true h1]; simp; omega), rfl⟩
  · have h2 : decide ((1 : Int) ≤ (s.size : Int)) = false := by simp; omega
    go_wp2_with fail
    go_ret
    exact ⟨ret_bool (by unfold Pg.isKey; rw [decide_eq_false h1]; rfl), rfl⟩
set_option maxHeartbeats 400000 in
theorem isValue_any (s : ByteArray) (w : World) : Calls Try.prog 72 #[.string s] w fun r w' => r = .returned (.bool (decide (s.size ≤ 16))) ∧ w' = w := by
  go_enter Try.func72, Try.ntmps72
  go_wp2_with fail
  go_ret
  exact ⟨ret_bool (by simp; omega), rfl⟩

theorem quiet_of {f : FuncId} {args : Array Value} {w : World} {n : Nat} {v : Value} (h : Calls Try.prog f args (w.drewN n) fun e w' => e = .returned v ∧ w' = w.drewN n) : Calls Try.prog f args (w.drewN n) fun e w'' => e = .returned v ∧ ∃ m, w'' = w.drewN m :=
  h.mono fun _ _ ⟨he, hb⟩ => ⟨he, n, hb⟩
set_option maxHeartbeats 1000000 in
set_option maxRecDepth 100000 in
theorem areItems_any (v : Value) (l : List (ByteArray × ByteArray)) (w : World) (hv : IsItems w v l) (hl : l.length ≤ 1000000000) :
    Calls Try.prog 50 #[v] w fun r w' => r = .returned (.bool (Pg.okFrom none (plain l))) ∧ Below w.heap.size w w' := by
  obtain ⟨va, vc, rfl⟩ := hv.shape
  have HV := hid hv
  clear hv
  go_enter Try.func50, Try.ntmps50
  go_wp2_with fail
  go_loopw [7] (fun i wr => ∃ k : Nat, k ≤ l.length ∧ i = .int .i64 k ∧ Pg.okFrom (prevKey (plain l) k) (plain (l.drop k)) = Pg.okFrom none (plain l) ∧ Below w.heap.size w wr) (fun i _ => l.length - (intOf i).toNat)
  case atStart => exact ⟨0, Nat.zero_le _, rfl, rfl, Below.refl _ _⟩
  case round =>
    obtain ⟨k, hk, rfl, heq, hbel⟩ := hrel
    have HEQ := hid heq
    have HBE := hid hbel
    have hszr := hbel.size
    clear heq hbel
    by_cases hkl : k < l.length
    · obtain ⟨b, off, cap, hve, hcap1, hcap2, hbw, hia⟩ := HV.out.resolve_left (by rintro ⟨_, _, _, rfl⟩; simp at hkl)
      injection hve with hve1 hve2 hve3
      subst hve1 hve3
      have HIT := hid hia
      clear hia
      obtain ⟨c0, c1⟩ := HIT.out.below HBE.out hbw k hkl
      generalize hx : l[k]'hkl = x at *
      obtain ⟨kb, vb⟩ := x
      simp only at c0 c1
      have HNX : Hid (plain (l.drop k) = (kb.data.toList, vb.data.toList) :: plain (l.drop (k + 1))) := by
        show _ = _; rw [List.drop_eq_getElem_cons hkl, hx]; rfl
      have HPK : Hid (prevKey (plain l) (k + 1) = some kb.data.toList) := by
        show _ = _; unfold prevKey plain; rw [if_neg (by omega), Nat.add_sub_cancel, List.getElem?_map, List.getElem?_eq_getElem hkl, hx]; rfl
      clear hx
      rw [HNX.out, Pg.ok_cons, len_size, len_size] at HEQ
      have hi1 : (0 : Int) ≤ (k : Int) := by omega
      have hi2 : (k : Int) < (l.length : Int) := by omega
      have CK : ∀ W, Calls Try.prog 71 #[.string kb] W fun r w' => r = .returned (.bool (Pg.isKey kb.size)) ∧ w' = W := fun W => isKey_any kb W
      have CV : ∀ W, Calls Try.prog 72 #[.string vb] W fun r w' => r = .returned (.bool (decide (vb.size ≤ 16))) ∧ w' = W := fun W => isValue_any vb W
      have D0 := hid (show (wr.alloc (.cells #[.string kb, .string vb] 43)).cell? ⟨wr.heap.size, 0, none⟩ = some (.string kb) by simp)
      have D1 := hid (show (wr.alloc (.cells #[.string kb, .string vb] 43)).cell? ⟨wr.heap.size, 1, none⟩ = some (.string vb) by simp)
      have HB2 := hid (HBE.out.alloc hszr (.cells #[.string kb, .string vb] 43))
      generalize hkk : Pg.isKey kb.size = kk at *
      generalize hvv : decide (vb.size ≤ 16) = vv at *
      go_wp2_with fail
      generalize (wr.alloc (.cells #[.string kb, .string vb] 43)) = w2 at *
      generalize wr.heap.size = xb at *
      have k0 := D0.out
      have k1 := D1.out
      clear c0 c1
      cases kk
      · have HF : Hid (Pg.okFrom none (plain l) = false) := by
          show _ = _; rw [← HEQ.out]; rfl
        go_quiet (first | exact quiet_of (CK _) | exact quiet_of (CV _))
        go_wp2_with fail
        go_ret
        exact ⟨by rw [HF.out]; rfl, below_drewN HB2.out _⟩
      · cases vv
        · have HF : Hid (Pg.okFrom none (plain l) = false) := by
            show _ = _; rw [← HEQ.out]; rfl
          go_quiet (first | exact quiet_of (CK _) | exact quiet_of (CV _))
          go_wp2_with fail
          go_ret
          exact ⟨by rw [HF.out]; rfl, below_drewN HB2.out _⟩
        · by_cases hk0 : k = 0
          · have HG : Hid (Pg.okFrom (prevKey (plain l) (k + 1)) (plain (l.drop (k + 1))) = Pg.okFrom none (plain l)) := by
              show _ = _; rw [← HEQ.out, HPK.out, hk0]; rfl
            have hd2 : decide (0 < k) = false := by simp; omega
            clear hk0
            go_quiet (first | exact quiet_of (CK _) | exact quiet_of (CV _))
            go_wp2_with fail
            go_roundw
            case rel => exact ⟨k + 1, by omega, by go_num, HG.out, below_drewN HB2.out _⟩
            case measure => simp [intOf]; omega
          · have hd2 : decide (0 < k) = true := by simp; omega
            have hkp : k - 1 < l.length := by omega
            obtain ⟨e0, e1⟩ := HIT.out.below HB2.out hbw (k - 1) hkp
            have HPP : Hid (prevKey (plain l) k = some (l[k - 1]'hkp).1.data.toList) := by
              show _ = _; unfold prevKey plain; rw [if_neg hk0, List.getElem?_map, List.getElem?_eq_getElem hkp]; rfl
            generalize l[k - 1]'hkp = y at *
            obtain ⟨yb, yv⟩ := y
            simp only at e0 e1
            have hw1 : IntKind.i64.wrap ((k : Int) - 1) = ((k - 1 : Nat) : Int) := by rw [IntWalk.i64_in _ ⟨by omega, by omega⟩]; omega
            have hi3 : ((k - 1 : Nat) : Int) < (l.length : Int) := by omega
            have HKP : Hid (k - 1 < l.length) := hkp
            generalize hjp : k - 1 = jp at *
            clear hjp hkp e1
            by_cases hlt : yb.data.toList < kb.data.toList
            · have HG : Hid (Pg.okFrom (prevKey (plain l) (k + 1)) (plain (l.drop (k + 1))) = Pg.okFrom none (plain l)) := by
                show _ = _; rw [← HEQ.out, HPK.out, HPP.out]; simp [Pg.rises, hlt]
              have hcmp : Op.bytesLess yb.toList kb.toList = true := by rw [toList_is, toList_is, less_is]; exact decide_eq_true hlt
              clear hlt
              go_quiet (first | exact quiet_of (CK _) | exact quiet_of (CV _))
              go_wp2_with fail
              go_roundw
              case rel => exact ⟨k + 1, by omega, by go_num, HG.out, below_drewN HB2.out _⟩
              case measure => simp [intOf]; omega
            · have HF : Hid (Pg.okFrom none (plain l) = false) := by
                show _ = _; rw [← HEQ.out, HPP.out]; simp [Pg.rises, hlt]
              have hcmp : Op.bytesLess yb.toList kb.toList = false := by rw [toList_is, toList_is, less_is]; exact decide_eq_false hlt
              clear hlt
              go_quiet (first | exact quiet_of (CK _) | exact quiet_of (CV _))
              go_wp2_with fail
              go_ret
              exact ⟨by rw [HF.out]; rfl, below_drewN HB2.out _⟩
    · have HT : Hid (Pg.okFrom none (plain l) = true) := by
        show _ = _; rw [← HEQ.out, List.drop_eq_nil_of_le (by omega)]; rfl
      go_wp2_with fail
      go_ret
      exact ⟨by rw [HT.out]; rfl, HBE.out⟩
end Go.Proofs.Ytolgpnaoaodepaa
