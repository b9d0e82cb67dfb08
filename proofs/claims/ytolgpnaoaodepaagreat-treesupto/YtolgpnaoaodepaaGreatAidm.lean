/- Small lemmas that the tree wants early: on rows, on lists of cells. -/
import Derived.Test.YtolgpnaoaodepaaGreatGenm
import Derived.Test.YtolgpnaoaodepaaGreatWalkMm
import Derived.Laws.AppendOwnNone
import Derived.Deep.DeepCutAuto
import Derived.Laws.CopyOwn
import Derived.Lib.AppendZeros
import Derived.Lib.BufferMore
import Derived.Lib.BufferWrite
import Derived.Lib.ConvBytes
import Derived.Lib.Overlaps
import Derived.Lib.UnsafeStr
import Derived.RegionDies
import Derived.Test.YtolgpnaoaodepaaGreatMathAm
import Derived.Test.YtolgpnaoaodepaaGreatWalkCm
import Derived.Test.YtolgpnaoaodepaaGreatWalkFm
namespace Go.Proofs.YtolgpnaoaodepaaGreat
open Go.RowKit

/-- So many elements lie there. -/
def Src (size : Nat) (w : World) (v : Value) (n : Nat) (cs : List Value) : Prop := ∃ a cap, v = .slice a n cap ∧ cs.length = n * size ∧ (n = 0 ∨ ∃ b off, a = some ⟨b, off, none⟩ ∧ b < w.heap.size ∧ ∀ (j : Nat) (u : Value), cs[j]? = some u → w.cell? ⟨b, off + j, none⟩ = some u)
theorem off_add (g o j : Nat) : (⟨g, o, none⟩ : Addr).add j = ⟨g, o + j, none⟩ := by unfold Addr.add; split <;> simp_all
theorem icells_len2 : ∀ l : List (ByteArray × ByteArray), (icells l).length = l.length * 2
  | [] => rfl
  | x :: r => by
    show ([Value.string x.1, Value.string x.2] ++ icells r).length = _
    rw [List.length_append, icells_len2 r]; simp; omega
theorem one_icells : ∀ (l : List (ByteArray × ByteArray)), ∀ v ∈ icells l, v.oneCell' = true
  | [], v, h => by cases h
  | x :: r, v, h => by
    have h' : v ∈ [Value.string x.1, Value.string x.2] ++ icells r := h
    rcases List.mem_append.1 h' with h | h
    · simp at h; rcases h with rfl | rfl <;> rfl
    · exact one_icells r v h
theorem one_ccells : ∀ (l : List (Int × ByteArray × ByteArray)), ∀ v ∈ ccells l, v.oneCell' = true
  | [], v, h => by cases h
  | x :: r, v, h => by
    have h' : v ∈ [Value.int .i64 x.1, Value.string x.2.1, Value.string x.2.2] ++ ccells r := h
    rcases List.mem_append.1 h' with h | h
    · simp at h; rcases h with rfl | rfl | rfl <;> rfl
    · exact one_ccells r v h
theorem row_shrink {B C : Nat} {w : World} {v : Value} {T : TypeId} {s n : Nat} {xs : List Value} (h : w.ownsRow B T s v n xs) (hc : C ≤ B) : w.ownsRow C T s v n xs := by
  refine ⟨h.1, ?_⟩
  rcases h.2 with hn | ⟨g, cap, cur, hv, hb', r⟩
  · exact .inl hn
  · exact .inr ⟨g, cap, cur, hv, Nat.le_trans hc hb', r⟩
theorem row_zero {B : Nat} {w : World} {v : Value} {T : TypeId} {s n : Nat} {xs : List Value} (h : w.ownsRow B T s v n xs) : w.ownsRow 0 T s v n xs := by
  refine ⟨h.1, ?_⟩
  rcases h.2 with q | ⟨g, cap, cur, e, _, q⟩
  · exact .inl q
  · exact .inr ⟨g, cap, cur, e, Nat.zero_le _, q⟩
theorem row_same {B : Nat} {e : TypeId} {sz n : Nat} {v : Value} {xs : List Value} {w w' : World} (h : w.ownsRow B e sz v n xs) (hs : ∀ g, v.ownBlock = some g → g < w.heap.size → w'.heap[g]? = w.heap[g]?) : w'.ownsRow B e sz v n xs := by
  refine ⟨h.1, ?_⟩
  rcases h.2 with q | ⟨g, cap, cur, rfl, hb, hg, q⟩
  · exact .inl q
  · exact .inr ⟨g, cap, cur, rfl, hb, (hs g rfl (Array.getElem?_eq_some_iff.1 hg).1).trans hg, q⟩
theorem row_store {B : Nat} {e : TypeId} {sz g cap n : Nat} {xs : List Value} {w : World} (h : w.ownsRow B e sz (.slice (some ⟨g, 0, none⟩) n cap) n xs) (i : Nat) (u : Value) : (w.setCell ⟨g, i, none⟩ u).ownsRow B e sz (.slice (some ⟨g, 0, none⟩) n cap) n (xs.set i u) := by
  rcases h.2 with ⟨h0, _⟩ | ⟨g', cap', cur, hv, hb, hg, h1, h2, h3, h4⟩
  · simp at h0
  · simp only [Value.slice.injEq, Option.some.injEq, Addr.mk.injEq, and_true, true_and] at hv
    obtain ⟨rfl, rfl⟩ := hv
    refine ⟨by simpa using h.1, .inr ⟨g, cap, _, rfl, hb, heap_setCell_at hg u, h1, h2, by simpa using h3, ?_⟩⟩
    rw [Array.toList_setIfInBounds, List.take_set, h4]
/-- Rows of different elements lie in different blocks. -/
theorem rowsE_apart {B B' : Nat} {e e' : TypeId} {s s' n n' : Nat} {v v' : Value} {xs xs' : List Value} {w : World} (h : w.ownsRow B e s v n xs) (h' : w.ownsRow B' e' s' v' n' xs') (hne : e ≠ e') (g : Nat) (q : v.ownBlock = some g) (q' : v'.ownBlock = some g) : False := by
  rcases h.2 with ⟨rfl, -⟩ | ⟨k, cap, cur, rfl, -, hg, -⟩
  · simp [Value.ownBlock] at q
  · rcases h'.2 with ⟨rfl, -⟩ | ⟨k', cap', cur', rfl, -, hg', -⟩
    · simp [Value.ownBlock] at q'
    · obtain rfl : k = g := Option.some.inj q
      obtain rfl : k' = k := Option.some.inj q'
      rw [hg] at hg'
      simp only [Option.some.injEq, Obj.cells.injEq] at hg'
      exact hne hg'.2.1
theorem info_rowI : (Tryz.prog.info? 30).map (fun i => (i.zero, i.size, i.bytes)) = some (some (.slice none 0 0), 1, 24) := by kernel_rfl
theorem plain_app (l r : List (ByteArray × ByteArray)) : plain (l ++ r) = plain l ++ plain r := by simp [plain]
theorem icells_len (l : List (ByteArray × ByteArray)) : (icells l).length = l.length * 2 := by
  induction l with
  | nil => rfl
  | cons x r ih => rw [show icells (x :: r) = .string x.1 :: .string x.2 :: icells r from rfl, List.length_cons, List.length_cons, List.length_cons, ih]; omega
theorem icells_one (l : List (ByteArray × ByteArray)) : ∀ u ∈ icells l, u.oneCell' = true := by
  intro u hu
  unfold icells at hu
  obtain ⟨x, _, hx⟩ := List.mem_flatMap.1 hu
  simp at hx
  rcases hx with rfl | rfl <;> rfl
theorem icells_app (l r : List (ByteArray × ByteArray)) : icells (l ++ r) = icells l ++ icells r := by simp [icells]
/-- append(v, x...), x a row of items, or nil; where the new row lies is told. -/
theorem wpApI2 (w : World) {ops : Array Oper} {rest : List Oper} {o : Oper} {a : Act} {Q : Exit → Act → World → Prop} (hgd : o.guard = none) (sl x : Operand)
    (ho : o.op = Op.call { callee := Callee.builtin Builtin.append, args := #[sl, x], argTypes := #[30, 30] }) (B : Nat) (v : Value) (l : List (ByteArray × ByteArray)) (hs : a.eval sl = v) (hown : OwnsI B w v l)
    (xv : Value) (xl : List (ByteArray × ByteArray)) (hx : a.eval x = xv) (hsrc : (xv = .slice none 0 0 ∧ xl = []) ∨ ∃ ad cap, xv = .slice (some ad) xl.length cap ∧ ∀ j u, (icells xl)[j]? = some u → w.cell? (ad.add j) = some u) (hb : l.length + xl.length ≤ 1000000000) (hB : B ≤ w.heap.size)
    (h : ∀ (v' : Value) (w' : World), OwnsI B w' v' (l ++ xl) → w.grownBy w' v.ownBlock → (v'.ownBlock = v.ownBlock ∨ ∃ k, w.heap.size ≤ k ∧ v'.ownBlock = some k) → wpList Tryz.prog ops Q rest (a.put o.dst v') w') : wpList Tryz.prog ops Q (o :: rest) a w := by
  obtain ⟨i, hi, hz0, hz1, hz2⟩ := info_parts info_item
  rcases hsrc with ⟨rfl, rfl⟩ | ⟨ad, cap, rfl, hc⟩
  · refine wpList_append_own_none hgd sl x 30 ho B 51 i 2 Tryz.underlying30 hi v l.length (icells l) hs hown hx ?_
    exact h v w (by rw [List.append_nil]; exact hown) ⟨rfl, rfl, rfl, Nat.le_refl _, fun _ _ _ => rfl⟩ (.inl rfl)
  · refine wpList_append_own_at w hgd sl x 30 ho B 51 i (.agg #[.string ⟨#[]⟩, .string ⟨#[]⟩]) 2 32 Tryz.underlying30 hi hz0 hz1 hz2 rfl (by decide) v l.length (icells l) hs hown ad xl.length cap (icells xl) hx (icells_len xl) hc (icells_one xl) (by unfold maxLen; omega) (by omega) hB ?_
    intro v' w' ho' hg _ hat
    refine h v' w' ?_ hg (hat.imp_right fun e => ⟨w.heap.size, Nat.le_refl _, e⟩)
    unfold OwnsI
    rw [List.length_append, icells_app]
    exact ho'
theorem plainZ_inj {a b : List (ByteArray × ByteArray)} (h : plain a = plain b) : a = b := by
  unfold plain at h
  refine List.map_inj_right ?_ |>.1 h
  rintro ⟨x1, x2⟩ ⟨y1, y2⟩ e
  simp only [Prod.mk.injEq] at e
  rw [bytes_ext e.1, bytes_ext e.2]
end Go.Proofs.YtolgpnaoaodepaaGreat
/- The walk of the reference's like. -/
namespace Go.Proofs.YtolgpnaoaodepaaGreat
open Go.RowKit
set_option maxHeartbeats 400000 in
theorem like_any (s : ByteArray) (a d : Nat) (w : World) (hs : s.size ≤ 140737488355328) (hd1 : 1 ≤ d) (hda : d ≤ a) (ha : a ≤ s.size) :
    Calls Tryz.prog 147 #[.string s, .int .i64 a, .int .i64 d] w fun r w' => r = .returned (.int .i64 (Sq.mat s.data.toList a d)) ∧ ∃ q, w' = w.drewN q := by
  go_enter Tryz.func147, Tryz.ntmps147
  go_wp2
  go_loopw [7] (fun i wr => ∃ k : Nat, k ≤ min 66 (s.size - a) ∧ i = .int .i64 k ∧ (∀ j, j < k → s.data.toList[a - d + j]? = s.data.toList[a + j]?) ∧ ∃ q, wr = w.drewN q) (fun i _ => 66 - (intOf i).toNat)
  case atStart => exact ⟨0, Nat.zero_le _, rfl, fun j h => by omega, 0, rfl⟩
  case round =>
    obtain ⟨k, hk, rfl, hj, q, rfl⟩ := hrel
    have HJ : Hid (∀ j, j < k → s.data.toList[a - d + j]? = s.data.toList[a + j]?) := hj
    clear hj
    by_cases hlt : k < 66
    · by_cases hl2 : a + k < s.size
      · have h1 : (a : Int) + (k : Int) < (s.size : Int) := by omega
        have h2 : (a : Int) + (k : Int) - (d : Int) < (s.size : Int) := by omega
        have h3 : (0 : Int) ≤ (a : Int) + (k : Int) := by omega
        have h4 : (0 : Int) ≤ (a : Int) + (k : Int) - (d : Int) := by omega
        have h5 : (k : Int) < 66 := by omega
        have e1 : IntKind.i64.wrap ((a : Int) + (k : Int)) = (a : Int) + (k : Int) := IntWalk.i64_in _ ⟨by omega, by omega⟩
        have e2 : IntKind.i64.wrap ((a : Int) + (k : Int) - (d : Int)) = (a : Int) + (k : Int) - (d : Int) := IntWalk.i64_in _ ⟨by omega, by omega⟩
        have h7 : (d : Int) ≤ (a : Int) + (k : Int) := by omega
        have h8 : d ≤ a + k := by omega
        have h6 : decide ((a : Int) + (k : Int) < (s.size : Int)) = true := by simpa using h1
        go_wp2
        go_quiet (fail)
        go_wp2
        · have hb := byte_eq s (a + k) (a + k - d) (by omega) (by omega) (by assumption)
          go_roundw
          case rel =>
            refine ⟨k + 1, by omega, by go_num, fun j hj => ?_, _, rfl⟩
            by_cases ej : j = k
            · rw [ej, hb, show a - d + k = a + k - d by omega]
            · exact HJ.out j (by omega)
          case measure => simp [intOf]; omega
        · have hb := byte_ne s (a + k) (a + k - d) (by omega) (by omega) (by assumption)
          go_ret
          exact ⟨ret_int (by unfold Sq.mat; rw [Sq.com_stop s.data.toList _ (a - d) a k (by simp; omega) (by simp; omega) HJ.out (.inr fun h => hb (by rw [h.2.symm, show a - d + k = a + k - d by omega]))]), _, World.drewN_drewN _ _ _⟩
      · have h5 : (k : Int) < 66 := by omega
        have hd : decide ((a : Int) + (k : Int) < (s.size : Int)) = false := by simp; omega
        have e1 : IntKind.i64.wrap ((a : Int) + (k : Int)) = (a : Int) + (k : Int) := IntWalk.i64_in _ ⟨by omega, by omega⟩
        go_wp2
        go_quiet (fail)
        go_wp2
        go_ret
        exact ⟨ret_int (by unfold Sq.mat; rw [Sq.com_stop s.data.toList _ (a - d) a k (by simp; omega) (by simp; omega) HJ.out (.inl (by simp; omega))]), _, World.drewN_drewN _ _ _⟩
    · have hd : decide ((k : Int) < 66) = false := by simp; omega
      go_wp2
      go_quiet (fail)
      go_wp2
      go_ret
      exact ⟨ret_int (by unfold Sq.mat; rw [Sq.com_stop s.data.toList _ (a - d) a k (by simp; omega) (by simp; omega) HJ.out (.inl (by simp; omega))]), _, World.drewN_drewN _ _ _⟩
end Go.Proofs.YtolgpnaoaodepaaGreat
/- The walk of the reference's Squeeze. -/
namespace Go.Proofs.YtolgpnaoaodepaaGreat
open Go.RowKit

theorem down_step (l : List UInt8) (a j : Nat) : Sq.down l a (j + 1) = if 255 - j ≤ a ∧ (Sq.down l a j).1 ≤ Sq.mat l a (255 - j) then (Sq.mat l a (255 - j), 255 - j) else Sq.down l a j := rfl
theorem down_bd (l : List UInt8) (a j : Nat) : (Sq.down l a j).1 ≤ 66 ∧ (Sq.down l a j).2 ≤ 255 := by
  induction j with
  | zero => simp [Sq.down]
  | succ j ih =>
    rw [down_step]; split
    · exact ⟨Sq.mat_le _ _ _, by simp⟩
    · exact ih

set_option maxHeartbeats 4000000 in
theorem refSqueeze_any (s : ByteArray) (w : World) (hs : s.size ≤ 35184372088832) :
    Calls Tryz.prog 93 #[.string s] w fun r w' => r = .returned (.string ⟨(Sq.squeeze s.data.toList).toArray⟩) ∧ Below w.heap.size w w' := by
  have HL := hid (len_size s)
  go_enter Tryz.func93, Tryz.ntmps93
  go_wp2_with fail
  go_loopw [3, 4, 5] (fun u v i wr => ∃ (out run : List UInt8) (a : Nat), a ≤ s.size ∧ i = .int .i64 a ∧ run.length < 128 ∧ Owns w.heap.size wr u out ∧ Owns w.heap.size wr v run ∧ Apart u v ∧ Below w.heap.size w wr ∧ out.length + run.length ≤ 2 * a ∧ out ++ Sq.rest s.data.toList a run = Sq.squeeze s.data.toList) (fun _ _ i _ => s.size - (intOf i).toNat)
  case atStart => exact ⟨[], [], 0, Nat.zero_le _, rfl, by simp, Owns.nil _ _, Owns.nil _ _, by intro k hk; simp [Value.ownBlock] at hk, Below.refl _ _, by simp, by simp [Sq.squeeze]⟩
  case round =>
    obtain ⟨out, run, a, ha, rfl, hrun, hown, hown2, hap, hbel, hout, heq⟩ := hrel
    have HEQ := hid heq
    have HO := hid hown
    have HR := hid hown2
    have HBEL := hid hbel
    have HAP := hid hap
    have hsz := hbel.size
    clear heq hown hbel hown2 hap
    by_cases hlt : a < s.size
    · go_wp2_with fail
      go_loopw [6, 7, 8] (fun n f d wi => ∃ j : Nat, j ≤ 255 ∧ d = .int .i64 (255 - j : Nat) ∧ n = .int .i64 (Sq.down s.data.toList a j).1 ∧ f = .int .i64 (Sq.down s.data.toList a j).2 ∧ ∃ q, wi = wr.drewN q) (fun _ _ d _ => (intOf d).toNat)
      case atStart => exact ⟨0, Nat.zero_le _, rfl, rfl, rfl, 0, rfl⟩
      case round =>
        obtain ⟨j, hj, rfl, rfl, rfl, q, rfl⟩ := hrel
        have hdb := down_bd s.data.toList a j
        have HST := hid (down_step s.data.toList a j)
        generalize hdn : Sq.down s.data.toList a j = dn at *
        have HDN := hid hdn
        clear hdn
        obtain ⟨n, f⟩ := dn
        by_cases hj2 : j < 255
        · obtain ⟨d, hd⟩ : ∃ d : Nat, 255 - j = d := ⟨_, rfl⟩
          have HD := hid hd
          rw [hd] at HST ⊢
          have hd1 : 1 ≤ d ∧ d ≤ 255 := by omega
          clear hd
          by_cases hda : d ≤ a
          · go_wp2_with fail
            refine (like_any s a d _ (by omega) (by omega) hda ha).mono ?_
            rintro r w1 ⟨rfl, q1, rfl⟩
            have hm := Sq.mat_le s.data.toList a d
            generalize Sq.mat s.data.toList a d = m at *
            by_cases hnm : n ≤ m
            · go_wp2_with fail
              go_roundw
              case rel =>
                have h := HST.out; rw [if_pos ⟨hda, hnm⟩] at h
                exact ⟨j + 1, by omega, by have := HD.out; go_num, by rw [h], by rw [h], _, rfl⟩
              case measure => simp [intOf]; omega
            · go_wp2_with fail
              go_roundw
              case rel =>
                have h := HST.out; rw [if_neg (fun x => hnm x.2)] at h
                exact ⟨j + 1, by omega, by have := HD.out; go_num, by rw [h], by rw [h], _, rfl⟩
              case measure => simp [intOf]; omega
          · go_wp2_with fail
            go_roundw
            case rel =>
              have h := HST.out; rw [if_neg (fun x => hda x.1)] at h
              exact ⟨j + 1, by omega, by have := HD.out; go_num, by rw [h], by rw [h], _, rfl⟩
            case measure => simp [intOf]; omega
        · obtain rfl : j = 255 := by omega
          have HO' := hid (HO.out.drewN q)
          have HR' := hid (HR.out.drewN q)
          have HB' := hid (below_drewN HBEL.out q)
          have hsz' : w.heap.size ≤ (wr.drewN q).heap.size := hsz
          have HDB := hid (Sq.down_best s.data.toList a)
          clear HO HR HBEL hsz HST
          generalize wr.drewN q = wi at *
          rw [show (255 - 255 : Nat) = 0 from rfl]
          by_cases hn3 : n < 3
          · have HS : Hid ((Sq.best s.data.toList a).2 = 0) := by
              rcases HDB.out with h | h
              · exact h.1
              · rw [HDN.out] at h; exact absurd h.2.1 (by simp; omega)
            obtain ⟨b, HSB, HRS⟩ : ∃ b : UInt8, Hid (((s[a]'hlt).toNat : Int) = (b.toNat : Int)) ∧ Hid (Sq.rest s.data.toList a run = Sq.rest s.data.toList (a + 1) (run ++ [b])) :=
              ⟨s.data.toList[a]'(by rw [HL.out]; exact hlt), rfl, Sq.rest_single _ _ _ (by rw [HL.out]; exact hlt) HS.out⟩
            go_wp2_with (first
              | (at_builtin; refine wpAp1 wi rfl (.tmp 32) (.tmp 36) rfl w.heap.size u4 run rfl HR'.out b _ HSB.out rfl (by omega) hsz' ?_))
            intro v1 w1 ho1 hg1 hat1
            obtain ⟨hO1, hA1, hB1⟩ := app_apart HO'.out HR'.out hsz' HAP.out (grown_after_alloc hg1) (hat1.imp_right fun h => ⟨_, Nat.le_succ _, h⟩)
            have HO1 := hid hO1
            have HR1 := hid ho1
            have HA1 := hid hA1
            have HB1 := hid (HB'.out.trans hB1)
            have hsz1 := HB1.out.size
            clear ho1 hg1 hat1 hO1 hA1 hB1 HO' HR' HB' HAP hsz' HDB HDN
            obtain ⟨g, c, hv1, hg1, hg2⟩ := HR1.out.shape_pos (by simp)
            subst hv1
            have hl1 : (run ++ [b]).length = run.length + 1 := by simp
            rw [hl1] at HR1 HA1 ⊢
            have HEQ1 : Hid (out ++ Sq.rest s.data.toList (a + 1) (run ++ [b]) = Sq.squeeze s.data.toList) := by rw [← HRS.out]; exact HEQ.out
            clear HRS HEQ
            by_cases h128 : run.length + 1 = 128
            · have h128' : (((run.length + 1 : Nat) : Int) == 128) = true := by rw [h128]; rfl
              rw [h128] at HR1 HA1 hl1
              generalize run ++ [b] = r2 at *
              have HL2 := hid hl1
              clear hl1
              go_wp2_with (first
                | (at_builtin; refine wpAp1 w1 rfl (.tmp 43) (.tmp 44) rfl w.heap.size u3 out rfl HO1.out 127 127 rfl rfl (by omega) hsz1 ?_))
              intro v2 w2 ho2 hg2 hat2
              obtain ⟨hR2, hA2, hB2⟩ := app_apart HR1.out HO1.out hsz1 HA1.out.symm (grown_after_alloc hg2) (hat2.imp_right fun h => ⟨_, Nat.le_succ _, h⟩)
              have HO2 := hid ho2
              have HR2 := hid hR2
              have HB2 := hid (HB1.out.trans hB2)
              have hsz2 := HB2.out.size
              clear ho2 hg2 hat2 hR2 hA2 hB2 HO1 HR1 HB1 HA1
              go_wp2_with (first
                | (at_builtin; refine wpApB w2 rfl (.tmp 46) (.tmp 47) rfl w.heap.size v2 _ rfl HO2.out ⟨g, 0, none⟩ c r2 (by rw [HL2.out]; rfl) HR2.out.cells (by rw [HL2.out]; simp; omega) hsz2 ?_))
              intro v3 w3 ho3 hg3 _
              have HO3 := hid ho3
              have HB3 := hid (HB2.out.trans ((Below.refl _ w2).grown hg3 hsz2 fun k hk => (World.ownsRow.lt HO2.out k hk).1))
              clear ho3 hg3
              go_wp2_with fail
              go_roundw
              case rel =>
                refine ⟨_, [], a + 1, by omega, by go_num, by simp, HO3.out, Owns.nil _ _, apart_nil _, HB3.out, ?_, ?_⟩
                · have := HL2.out; simp; omega
                · rw [← HEQ1.out, Sq.rest_full _ _ r2 HL2.out]; simp
              case measure => simp [intOf]; omega
            · have HL1 := hid hl1
              go_wp2_with fail
              go_roundw
              case rel => exact ⟨out, run ++ [b], a + 1, by omega, by go_num, by rw [HL1.out]; omega, HO1.out, HR1.out, HA1.out, HB1.out, by rw [HL1.out]; omega, HEQ1.out⟩
              case measure => simp [intOf]; omega
          · obtain ⟨HF, HEB⟩ : Hid ((Sq.best s.data.toList a).2 ≠ 0) ∧ Hid (Sq.best s.data.toList a = (n, f)) := by
              rcases HDB.out with h | h
              · rw [HDN.out] at h; exact absurd h.2 (by simpa using hn3)
              · exact ⟨h.1, by rw [← HDN.out]; exact h.2.2.symm⟩
            have hbl := (Sq.best_len s.data.toList a HF.out).2.2
            rw [HL.out, HEB.out] at hbl
            have HRM : Hid (out ++ (Sq.runOf run ++ (UInt8.ofNat (125 + n) :: UInt8.ofNat f :: Sq.rest s.data.toList (a + n) [])) = Sq.squeeze s.data.toList) := by
              rw [← HEQ.out, Sq.rest_match _ _ _ (by rw [HL.out]; exact hlt) HF.out, HEB.out]; rfl
            clear HDB HEQ HF HEB HDN
            by_cases hrp : 0 < run.length
            · obtain ⟨g, c, hv1, hg1, hg2⟩ := HR'.out.shape_pos hrp
              subst hv1
              have HRO := hid (Sq.runOf_short run (by intro e; rw [e] at hrp; simp at hrp) (by omega))
              go_wp2_with (first
                | (at_builtin; refine wpAp1 wi rfl (.tmp 52) (.tmp 57) rfl w.heap.size u3 out rfl HO'.out (UInt8.ofNat (run.length - 1)) _ ?_ rfl (by omega) hsz' ?_))
              · omega
              intro v2 w2 ho2 hg2 hat2
              obtain ⟨hR2, hA2, hB2⟩ := app_apart HR'.out HO'.out hsz' HAP.out.symm (grown_after_alloc hg2) (hat2.imp_right fun h => ⟨_, Nat.le_succ _, h⟩)
              have HO2 := hid ho2
              have HR2 := hid hR2
              have HB2 := hid (HB'.out.trans hB2)
              have hsz2 := HB2.out.size
              clear ho2 hg2 hat2 hR2 hA2 hB2 HO' HR' HB' HAP
              go_wp2_with (first
                | (at_builtin; refine wpApB w2 rfl (.tmp 59) (.tmp 60) rfl w.heap.size v2 _ rfl HO2.out ⟨g, 0, none⟩ c run rfl HR2.out.cells (by simp; omega) hsz2 ?_))
              intro v3 w3 ho3 hg3 _
              have HO3 := hid ho3
              have HB3 := hid (HB2.out.trans ((Below.refl _ w2).grown hg3 hsz2 fun k hk => (World.ownsRow.lt HO2.out k hk).1))
              have hsz3 := HB3.out.size
              clear ho3 hg3
              go_wp2_with (first
                | (at_builtin; refine wpAp2 w3 rfl (.tmp 62) (.tmp 68) rfl w.heap.size v3 _ rfl HO3.out (UInt8.ofNat (125 + n)) (UInt8.ofNat f) _ _ ?_ ?_ rfl ?_ hsz3 ?_))
              · simp; omega
              · simp; omega
              · simp; omega
              intro v4 w4 ho4 hg4 _
              have HO4 := hid ho4
              have HB4 := hid (HB3.out.trans (below_of_grown HO3.out hsz3 hg4))
              clear ho4 hg4
              go_wp2_with fail
              go_roundw
              case rel =>
                refine ⟨_, [], a + n, by omega, by go_num, by simp, HO4.out, Owns.nil _ _, apart_nil _, HB4.out, ?_, ?_⟩
                · simp; omega
                · rw [← HRM.out, HRO.out]; simp
              case measure => simp [intOf]; omega
            · have hr0 : run = [] := List.length_eq_zero_iff.1 (by omega)
              subst hr0
              obtain ⟨ra, rc, hv1⟩ := HR'.out.shape
              subst hv1
              go_wp2_with (first
                | (at_builtin; refine wpAp2 wi rfl (.tmp 62) (.tmp 68) rfl w.heap.size u3 _ rfl HO'.out (UInt8.ofNat (125 + n)) (UInt8.ofNat f) _ _ ?_ ?_ rfl ?_ hsz' ?_))
              · omega
              · omega
              · omega
              intro v4 w4 ho4 hg4 hat4
              obtain ⟨hR4, hA4, hB4⟩ := app_apart HR'.out HO'.out hsz' HAP.out.symm (grown_after_alloc hg4) (hat4.imp_right fun h => ⟨_, Nat.le_succ _, h⟩)
              have HO4 := hid ho4
              have HR4 := hid hR4
              have HA4 := hid hA4
              have HB4 := hid (HB'.out.trans hB4)
              clear ho4 hg4 hR4 hA4 hB4
              go_wp2_with fail
              go_roundw
              case rel =>
                refine ⟨_, [], a + n, by omega, by go_num, by simp, HO4.out, HR4.out, HA4.out.symm, HB4.out, ?_, ?_⟩
                · simp at hout ⊢; omega
                · rw [← HRM.out, Sq.runOf_nil]; simp
              case measure => simp [intOf]; omega
    · have HFN : Hid (out ++ Sq.runOf run = Sq.squeeze s.data.toList) := by
        rw [← HEQ.out, Sq.rest_end _ _ _ (by rw [HL.out]; omega)]; exact rfl
      by_cases hrp : 0 < run.length
      · obtain ⟨g, c, hv1, hg1, hg2⟩ := HR.out.shape_pos hrp
        subst hv1
        have HRO := hid (Sq.runOf_short run (by intro e; rw [e] at hrp; simp at hrp) (by omega))
        go_wp2_with (first
          | (at_builtin; refine wpAp1 wr rfl (.tmp 76) (.tmp 81) rfl w.heap.size u3 out rfl HO.out (UInt8.ofNat (run.length - 1)) _ ?_ rfl (by omega) hsz ?_))
        · simp; omega
        intro v2 w2 ho2 hg2 hat2
        obtain ⟨hR2, hA2, hB2⟩ := app_apart HR.out HO.out hsz HAP.out.symm (grown_after_alloc hg2) (hat2.imp_right fun h => ⟨_, Nat.le_succ _, h⟩)
        have HO2 := hid ho2
        have HR2 := hid hR2
        have HB2 := hid (HBEL.out.trans hB2)
        have hsz2 := HB2.out.size
        clear ho2 hg2 hat2 hR2 hA2 hB2 HO HR HBEL HAP
        go_wp2_with (first
          | (at_builtin; refine wpApB w2 rfl (.tmp 83) (.tmp 84) rfl w.heap.size v2 _ rfl HO2.out ⟨g, 0, none⟩ c run rfl HR2.out.cells (by simp; omega) hsz2 ?_))
        intro v3 w3 ho3 hg3 _
        have HB3 := hid (HB2.out.trans ((Below.refl _ w2).grown hg3 hsz2 fun k hk => (World.ownsRow.lt HO2.out k hk).1))
        have ho3' : Owns w.heap.size w3 v3 (Sq.squeeze s.data.toList) := by rw [← HFN.out, HRO.out]; simpa using ho3
        have hcv := ho3'.str
        clear ho3 hg3 ho3'
        go_wp2_with fail
        go_ret
        exact ⟨rfl, HB3.out⟩
      · have hr0 : run = [] := List.length_eq_zero_iff.1 (by omega)
        subst hr0
        obtain ⟨ra, rc, hv1⟩ := HR.out.shape
        subst hv1
        have ho3' : Owns w.heap.size wr u3 (Sq.squeeze s.data.toList) := by rw [← HFN.out, Sq.runOf_nil]; simpa using HO.out
        have hcv := ho3'.str
        clear ho3'
        go_wp2_with fail
        go_ret
        exact ⟨rfl, HBEL.out⟩
end Go.Proofs.YtolgpnaoaodepaaGreat
/- The walk of the reference's Spread. -/
namespace Go.Proofs.YtolgpnaoaodepaaGreat
open Go.RowKit

end Go.Proofs.YtolgpnaoaodepaaGreat
