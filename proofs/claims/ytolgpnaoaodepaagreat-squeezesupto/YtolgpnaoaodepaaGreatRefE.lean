/- The walk of Old, of leaves. -/
import Derived.Test.YtolgpnaoaodepaaGreatRefD
namespace Go.Proofs.YtolgpnaoaodepaaGreat
open Go.RowKit
set_option maxHeartbeats 1500000 in
set_option maxRecDepth 100000 in
theorem oldLeaf_any (v c2 c3 c4 : Value) (l : List (ByteArray × ByteArray)) (w : World) (hv : IsItems w v l) (hl : l.length ≤ 16) (hsz : ∀ x ∈ l, x.1.size ≤ 12 ∧ x.2.size ≤ 16) :
    Calls Tryz.prog 49 #[.agg #[.int .i64 1, v, c2, c3, c4]] w fun r w' => r = .returned (.string ⟨(Pg.oldLeaf (plain l)).toArray⟩) ∧ Below w.heap.size w w' := by
  have HSZ := hid hsz
  have HV := hid hv
  clear hsz
  obtain ⟨va, vc, rfl⟩ : ∃ a cap, v = .slice a l.length cap := by
    rcases hv with ⟨va, vc, rfl, rfl⟩ | ⟨b, off, cap, rfl, _⟩
    · exact ⟨va, vc, rfl⟩
    · exact ⟨_, _, rfl⟩
  clear hv
  go_enter Tryz.func49, Tryz.ntmps49
  go_wp2_with fail
  refine (low_any l.length 1 _ (by omega) (by omega)).mono ?_
  rintro r w1 ⟨rfl, hb1⟩
  have HB1 := hid hb1
  clear hb1
  have hl1 := Pg.low_len 1 l.length
  have HST : Hid (Pg.oldLeaf (plain l) = Pg.sealed ([83, 49, 76] ++ Pg.low l.length 1 ++ Pg.oldItems (plain l))) := by
    show _ = _; unfold Pg.oldLeaf; rw [show (plain l).length = l.length by simp [plain]]
  generalize Pg.low l.length 1 = lw at *
  go_wp2_with fail
  go_loopw [3, 4] (fun s i wr => ∃ (k : Nat) (sb : ByteArray), k ≤ l.length ∧ i = .int .i64 k ∧ s = .string sb ∧ sb.size ≤ 4 + k * 100 ∧ sb.data.toList ++ Pg.oldItems (plain (l.drop k)) = [83, 49, 76] ++ lw ++ Pg.oldItems (plain l) ∧ Below (w.heap.size + 1) (w.alloc (.cells #[.int .i64 1, .slice va l.length vc, c2, c3, c4] 79)) wr) (fun _ i _ => l.length - (intOf i).toNat)
  case atStart => exact ⟨0, _, Nat.zero_le _, rfl, rfl, by simp only [ByteArray.size_append', size_mk, List.length_cons, List.length_nil]; omega, by simp, by simpa using HB1.out⟩
  case round =>
    obtain ⟨k, sb, hk, rfl, rfl, hsb, heq, hbel⟩ := hrel
    have HEQ := hid heq
    have HBEL := hid hbel
    have hcn : wr.cell? ⟨w.heap.size, 1, none⟩ = some (.slice va l.length vc) := by
      rw [hbel.cell (p := ⟨w.heap.size, 1, none⟩) (by simp)]; simp
    have hszr := hbel.size
    simp only [World.size_alloc] at hszr
    clear heq hbel
    by_cases hkl : k < l.length
    · rcases HV.out with ⟨va', vc', he, he2⟩ | ⟨b, off, cap, he, hcap, hcap2, hbw, hit⟩
      · subst he2; simp at hkl
      · obtain ⟨rfl, rfl⟩ : va = some ⟨b, off, none⟩ ∧ vc = cap := by simpa using he
        clear he
        have hitr : ItemsAt wr b off l := (hit.below ((Below.refl w.heap.size w).alloc (Nat.le_refl _) _) hbw).below HBEL.out (by omega)
        obtain ⟨c0, c1⟩ := hitr k hkl
        have hs2 := HSZ.out _ (List.getElem_mem hkl)
        have HNX : Hid (plain (l.drop k) = ((l[k]'hkl).1.data.toList, (l[k]'hkl).2.data.toList) :: plain (l.drop (k + 1))) := by
          show _ = _; rw [List.drop_eq_getElem_cons hkl]; rfl
        clear hit hitr
        generalize l[k]'hkl = x at *
        obtain ⟨kb, vb⟩ := x
        simp only at c0 c1 hs2
        have HIS : Hid (Pg.oldItems (plain (l.drop k)) = Pg.text kb.data.toList ++ Pg.text vb.data.toList ++ Pg.oldItems (plain (l.drop (k + 1)))) := by
          show _ = _; rw [HNX.out]; rfl
        have hkb := hs2.1
        have hvb := hs2.2
        have ht1 := text_len kb.data.toList (by rw [len_size]; omega)
        have ht2 := text_len vb.data.toList (by rw [len_size]; omega)
        rw [len_size] at ht1 ht2
        have z2 := size_mk (Pg.text kb.data.toList)
        have z3 := size_mk (Pg.text vb.data.toList)
        have e1 : ∀ w, (Op.stringOp .add sb ⟨(Pg.text kb.data.toList).toArray⟩).run Tryz.prog w = .ok (.string (sb ++ ⟨(Pg.text kb.data.toList).toArray⟩)) w := fun w => run_string_add_sum w _ _ (by omega)
        have e2 : ∀ w, (Op.stringOp .add (sb ++ ⟨(Pg.text kb.data.toList).toArray⟩) ⟨(Pg.text vb.data.toList).toArray⟩).run Tryz.prog w = .ok (.string (sb ++ ⟨(Pg.text kb.data.toList).toArray⟩ ++ ⟨(Pg.text vb.data.toList).toArray⟩)) w := fun w => run_string_add_sum w _ _ (by rw [ByteArray.size_append']; omega)
        clear z2 z3
        have hbr : b < wr.heap.size := by omega
        have hnr : w.heap.size < wr.heap.size := by omega
        have hi1 : (0 : Int) ≤ (k : Int) := by omega
        have hi2 : (k : Int) < (l.length : Int) := by omega
        go_wp2_with fail
        go_region_held3 (fun w' => w'.cell? ⟨w.heap.size, 1, none⟩ = some (.slice (some ⟨b, off, none⟩) l.length vc) ∧ w'.cell? ⟨b, off + k * 2, none⟩ = some (.string kb) ∧ w'.cell? ⟨b, off + k * 2 + 1, none⟩ = some (.string vb)) (go_keep)
          (first
            | (go_at_call_of 85 (Value.string kb); go_must (refine (text_any kb _ (by omega)).mono ?_; rintro r w3 ⟨rfl, hb3⟩; have n3 := (hb3.cell (p := ⟨w.heap.size, 1, none⟩) (by exact hnr)).trans hcn; have c30 := (hb3.cell (p := ⟨b, off + k * 2, none⟩) (by exact hbr)).trans c0; have c31 := (hb3.cell (p := ⟨b, off + k * 2 + 1, none⟩) (by exact hbr)).trans c1; have HBa := hid (HBEL.out.trans ((Below.refl _ wr).drew.trans (hb3.mono hszr))); have hz3 := size_past HBa.out; clear hb3))
            | (go_at_call_of 85 (Value.string vb); refine (text_any vb _ (by omega)).mono ?_; rintro r w4 ⟨rfl, hb4⟩; have n4 := (bcell hb4 (w.heap.size) (1) (by omega)).trans n3; have c40 := (bcell hb4 (b) (off + k * 2) (by omega)).trans c30; have c41 := (bcell hb4 (b) (off + k * 2 + 1) (by omega)).trans c31; have HBb := hid (HBa.out.trans (hb4.mono hz3)); clear hb4))
        all_goals go_wp2_with fail
        go_roundw
        case rel =>
          refine ⟨k + 1, _, by omega, by go_num, rfl, ?_, ?_, HBb.out⟩
          · simp only [ByteArray.size_append', size_mk]; omega
          · rw [← HEQ.out, HIS.out]; simp
        case measure => simp [intOf]; omega
    · have HF : Hid (sb.data.toList = [83, 49, 76] ++ lw ++ Pg.oldItems (plain l)) := by
        show _ = _; rw [← HEQ.out, List.drop_eq_nil_of_le (by omega)]; simp [plain, Pg.oldItems]
      go_wp2_with fail
      refine (sealed_any sb _ (by omega)).mono ?_
      rintro r w2 ⟨rfl, hb2⟩
      have HB2 := hid ((((Below.refl w.heap.size w).alloc (Nat.le_refl _) _).trans (HBEL.out.mono (by omega))).trans (hb2.mono (by omega)))
      clear hb2
      go_wp2_with fail
      go_ret
      exact ⟨ret_str (by rw [HST.out, ← HF.out]), HB2.out⟩
end Go.Proofs.YtolgpnaoaodepaaGreat
