/- The walk of ownItems. -/
import Derived.Test.YtolgpnaoaodepaaGreatLawFm
import Derived.BigQuiet
import Derived.Test.YtolgpnaoaodepaaGreatAidm
namespace Go.Proofs.YtolgpnaoaodepaaGreat
open Go.RowKit

theorem one_item (s : ByteArray) : ∀ u ∈ ([.string s, .string ⟨#[]⟩] : List Value), u.oneCell' = true := by
  intro u hu; simp at hu; rcases hu with rfl | rfl <;> rfl
theorem mark_next2 (a c : Value) (xs : List Value) (j : Nat) (h : j * 2 + 1 < xs.length) : ((marks [a, c] j ++ xs.drop (j * 2)).set (j * 2) a).set (j * 2 + 1) c = marks [a, c] (j + 1) ++ xs.drop ((j + 1) * 2) := by
  have hl : (marks [a, c] j).length = j * 2 := by rw [marks_len]; rfl
  rw [List.drop_eq_getElem_cons (show j * 2 < xs.length by omega), set_mid _ _ _ _ _ hl.symm, List.drop_eq_getElem_cons h]
  have e : marks [a, c] j ++ a :: xs[j * 2 + 1] :: xs.drop (j * 2 + 1 + 1) = (marks [a, c] j ++ [a]) ++ xs[j * 2 + 1] :: xs.drop (j * 2 + 1 + 1) := by simp
  rw [e, set_mid _ _ _ _ _ (by simp [hl]), marks_add, show (j + 1) * 2 = j * 2 + 1 + 1 by omega]
  simp [marks]
theorem var2 {W : World} {vb : Nat} {a c : Value} {T : TypeId} (h : W.heap[vb]? = some (.cells #[a, c] T (0, 0))) : W.cell? ⟨vb, 0, none⟩ = some a ∧ W.cell? ⟨vb, 1, none⟩ = some c := by simp [World.cell?, h]
/-- A variable of a mark lies where nothing that grows lies. -/
theorem var_grown {w w' : World} {b : Nat} {o : Obj} {r : Option Nat} (h : w.heap[b]? = some o) (hg : w.grownBy w' r) (hne : r ≠ some b) : w'.heap[b]? = some o := (hg.block b (Array.getElem?_eq_some_iff.1 h).1 fun e => hne e.symm).trans h
set_option maxHeartbeats 1000000 in
set_option maxRecDepth 20000 in
theorem ownItems_any (b : Nat) (vl v1 v2 v3 v4 v5 v6 v7 v8 : Value) (nx : Int) (l : Value) (n k : Nat) (cs L M : List Value) (w : World) (h : Wb w b vl v1 v2 v3 v4 v5 v6 v7 v8 nx)
    (hl : w.ownsRow 0 51 2 l n cs) (h5 : w.ownsRow 0 30 1 v1 k L) (h6 : w.ownsRow 0 9 1 v2 k M) (hn : n ≤ 100000) (hk : k ≤ 100000000)
    (hA : Lies b l v1 v2) :
    Calls Tryz.prog 57 #[.pointer (some ⟨b, 1, none⟩), l] w fun r w' => ∃ s ny v1' v2', r = .returned (.tuple #[]) ∧ Wb w' b vl v1' v2' v3 v4 v5 v6 v7 v8 ny ∧ OwnR w b 30 51 9 [.string s, .string ⟨#[]⟩] (.string s) l v1 v2 k L M v1' v2' w' := by
  have HW := hid h
  have HL := hid hl
  have H5 := hid h5
  have H6 := hid h6
  have HA := hid hA
  have hbl := h.lt
  have HNL : Hid (cs.length = n * 2) := hl.1
  have hlb : ∀ g, l.ownBlock = some g → g < w.heap.size := fun g hg => (World.ownsRow.lt hl g hg).2
  obtain ⟨la, lc, rfl⟩ := rowShape hl
  have HLB := hid hlb
  clear hlb
  obtain ⟨sa, sc, rfl⟩ := rowShape h5
  obtain ⟨ma, mc, rfl⟩ := rowShape h6
  clear h hl h5 h6 hA
  go_enter Tryz.func57, Tryz.ntmps57
  go_wp2_with fail
  refine (mark_any b vl _ _ v3 v4 v5 v6 v7 v8 nx w HW.out).mono ?_
  rintro r w0 ⟨s, ny, rfl, hw0, hb0⟩
  have hs0 := hb0.size
  have HW1 := hid (hw0.below ((Below.refl w0.heap.size w0).alloc (Nat.le_refl _) (.cells #[.string s, .string ⟨#[]⟩] 51)) hw0.lt)
  have HB1 := hid (but_trans hb0 (but_below ((Below.refl w0.heap.size w0).alloc (Nat.le_refl _) (.cells #[.string s, .string ⟨#[]⟩] 51))))
  have HV1 : Hid ((w0.alloc (.cells #[.string s, .string ⟨#[]⟩] 51)).heap[w0.heap.size]? = some (.cells #[.string s, .string ⟨#[]⟩] 51 (0, 0))) := heap_alloc_new _ _
  have HLN : Hid ((Value.slice la n lc).ownBlock ≠ some w0.heap.size) := fun e => by have := HLB.out _ e; omega
  clear hw0 hb0
  go_wp2_with fail
  generalize w0.alloc (.cells #[.string s, .string ⟨#[]⟩] 51) = w1 at *
  generalize w0.heap.size = vb at *
  go_loopw [6] (fun i wr => ∃ j : Nat, j ≤ n ∧ i = .int .i64 j ∧ wr.ownsRow 0 51 2 (.slice la n lc) n (marks [.string s, .string ⟨#[]⟩] j ++ cs.drop (j * 2)) ∧ w1.grownBy wr (Value.slice la n lc).ownBlock) (fun i _ => n - (intOf i).toNat)
  case atStart => exact ⟨0, Nat.zero_le _, rfl, by simpa [marks] using World.ownsRow.kept HL.out HB1.out (.inr HA.out.1), ⟨rfl, rfl, rfl, Nat.le_refl _, fun _ _ _ => rfl⟩⟩
  case round =>
    obtain ⟨j, hj, rfl, hoj, hgj⟩ := hrel
    by_cases hjn : j < n
    · obtain ⟨g, rfl⟩ : ∃ g, la = some ⟨g, 0, none⟩ := by
        rcases hoj.2 with ⟨_, h0⟩ | ⟨g, cap, cur, hv, _⟩
        · omega
        · simp only [Value.slice.injEq] at hv; exact ⟨g, hv.1⟩
      obtain ⟨⟨cv, hcv⟩, hfz⟩ := row_at hoj (j * 2) (by omega)
      obtain ⟨⟨cv1, hcv1⟩, hfz1⟩ := row_at hoj (j * 2 + 1) (by omega)
      have hst := row_store (row_store hoj (j * 2) (.string s)) (j * 2 + 1) (.string ⟨#[]⟩)
      rw [mark_next2 _ _ _ _ (by rw [HNL.out]; omega)] at hst
      have HST := hid hst
      have HG := hid (grown_trans hgj (grown_trans (but_set g (j * 2) wr (.string s)) (but_set g (j * 2 + 1) _ (.string ⟨#[]⟩))))
      obtain ⟨x0, x1⟩ := var2 (var_grown HV1.out hgj HLN.out)
      clear hoj hgj hst
      go_wp2_with fail
      go_roundw
      case rel => exact ⟨j + 1, by omega, by go_num, HST.out, HG.out⟩
      case measure => simp [intOf]; omega
    · have hO : wr.ownsRow 0 51 2 (.slice la n lc) n (marks [.string s, .string ⟨#[]⟩] n) := by
        rw [show j = n by omega, List.drop_eq_nil_of_le (by rw [HNL.out]; exact Nat.le_refl _), List.append_nil] at hoj
        exact hoj
      have HO := hid hO
      have HG := hid hgj
      have hd : ¬ (j : Int) < (n : Int) := by omega
      have HVR := hid (var_grown HV1.out hgj HLN.out)
      obtain ⟨x0, x1⟩ := var2 HVR.out
      clear hO hoj hgj
      go_wp2_with (first
        | (at_builtin; refine wpApM wr rfl (.tmp 24) (.tmp 26) 30 51 Tryz.underlying30 _ 2 32 info_item rfl (by omega) (by omega) rfl 0 (.slice la n lc) n [.string s, .string ⟨#[]⟩] rfl (one_item s) rfl HO.out 1 rfl (by omega) (by omega) #[.string s, .string ⟨#[]⟩] rfl ?_))
      intro g1 w3 ho3 hl3 hg3 hat3 hm3
      obtain ⟨g1a, g1c, rfl⟩ := rowShape ho3
      have HG1 := hid (And.intro hg3 (And.intro hat3 (marked_of ho3)))
      have HO3 := hid hl3
      have HVR3 := hid (var_grown HVR.out hg3 HLN.out)
      obtain ⟨x30, x31⟩ := var2 HVR3.out
      clear ho3 hl3 hg3 hat3 HO hm3 x0 x1 HVR
      go_wp2_with (first
        | (at_builtin; refine wpApM w3 rfl (.tmp 28) (.tmp 31) 30 51 Tryz.underlying30 _ 2 32 info_item rfl (by omega) (by omega) rfl 0 (.slice la n lc) n [.string s, .string ⟨#[]⟩] rfl (one_item s) rfl HO3.out 2 rfl (by omega) (by omega) #[.string s, .string ⟨#[]⟩, .string s, .string ⟨#[]⟩] rfl ?_))
      intro g2 w4 ho4 hl4 hg4 hat4 hm4
      obtain ⟨g2a, g2c, rfl⟩ := rowShape ho4
      have HG2 := hid (And.intro hg4 (And.intro hat4 (And.intro (marked_of ho4) (hm4 _ HG1.out.2.2))))
      have HO4 := hid hl4
      have HVR4 := hid (var_grown HVR3.out hg4 HLN.out)
      obtain ⟨x40, x41⟩ := var2 HVR4.out
      clear ho4 hl4 hg4 hat4 HO3 hm4 x30 x31 HVR3
      go_wp2_with (first
        | (at_builtin; refine wpApM w4 rfl (.tmp 33) (.tmp 37) 30 51 Tryz.underlying30 _ 2 32 info_item rfl (by omega) (by omega) rfl 0 (.slice la n lc) n [.string s, .string ⟨#[]⟩] rfl (one_item s) rfl HO4.out 3 rfl (by omega) (by omega) #[.string s, .string ⟨#[]⟩, .string s, .string ⟨#[]⟩, .string s, .string ⟨#[]⟩] rfl ?_))
      intro g3 w5 ho5 hl5 hg5 hat5 hm5
      obtain ⟨g3a, g3c, rfl⟩ := rowShape ho5
      have HG3 := hid (And.intro hg5 (And.intro hat5 (And.intro (marked_of ho5) (And.intro (hm5 _ HG2.out.2.2.1) (And.intro (hm5 _ HG2.out.2.2.2) (marked_of hl5))))))
      clear ho5 hl5 hg5 hat5 HO4 hm5 x40 x41 HVR4
      have hgl := grown_trans (grown_trans (grown_trans HG.out HG1.out.1) HG2.out.1) HG3.out.1
      have z1 := HB1.out.size
      have z2 := HG.out.size
      have z3 := HG1.out.1.size
      have z4 := HG2.out.1.size
      have z5 := HG3.out.1.size
      have HM := hid (own_mid H5.out H6.out HA.out HB1.out hgl HG3.out.2.2.2.2.2 HG3.out.2.2.2.2.1 HG3.out.2.2.2.1 HG3.out.2.2.1 (HG1.out.2.1.imp_right fun ⟨q, hq, e⟩ => ⟨q, by omega, e⟩) (HG2.out.2.1.imp_right fun ⟨q, hq, e⟩ => ⟨q, by omega, e⟩) (HG3.out.2.1.imp_right fun ⟨q, hq, e⟩ => ⟨q, by omega, e⟩))
      have HW5 := hid (HW1.out.grown hgl HA.out.1)
      clear HG HG1 HG2 HG3 hgl HB1 HW1 HL H5 H6 HW
      obtain ⟨-, c5, -, -, -, -, -, -, -, -, hfz⟩ := HW5.out.cells
      have f5 := hfz 1
      clear hfz
      go_wp2_with (first
        | (at_builtin; refine wpApX w5 rfl (.tmp 43) (.tmp 48) 68 30 Tryz.underlying68 _ 1 24 info_rowI rfl (by omega) (by omega) rfl 0 (.slice sa k sc) k L rfl HM.out.1 [.slice la n lc, .slice g1a (n + 1) g1c, .slice g2a (n + 2) g2c, .slice g3a (n + 3) g3c] 4 rfl (by intro u hu; simp at hu; rcases hu with rfl | rfl | rfl | rfl <;> rfl) rfl (by omega) (by omega) ?_))
      intro v5' w6 ho6 hg6 hat6
      obtain ⟨sa', sc', rfl⟩ := rowShape ho6
      have HS6 := hid (And.intro ho6 (And.intro hg6 hat6))
      have HW6 := hid (HW5.out.grown hg6 HA.out.2.1)
      have HR6 := hid (HM.out.rowM HA.out hg6 1 (.slice sa' (k + 4) sc'))
      have HW7 := hid (HW6.out.set1 (.slice sa' (k + 4) sc'))
      have z6 := hg6.size
      obtain ⟨-, d5, -, -, -, -, -, -, -, -, hfz⟩ := HW6.out.cells
      have f6 := hfz 1
      obtain ⟨-, -, d6, -, -, -, -, -, -, -, hfz2⟩ := HW7.out.cells
      have f7 := hfz2 2
      clear ho6 hg6 hat6 hfz hfz2 c5 f5
      go_wp2_with (first
        | (at_builtin; refine wpApX (w6.setCell ⟨b, 1, none⟩ (.slice sa' (k + 4) sc')) rfl (.tmp 56) (.tmp 61) 40 9 Tryz.underlying40 _ 1 16 info_string rfl (by omega) (by omega) rfl 0 (.slice ma k mc) k M rfl HR6.out [.string s, .string s, .string s, .string s] 4 rfl (by intro u hu; simp at hu; subst hu; rfl) (by simp [Act.eval]) (by omega) (by rw [setSize]; omega) ?_))
      intro v6' w7 ho7 hg7 hat7
      obtain ⟨ma', mc', rfl⟩ := rowShape ho7
      have HW8 := hid (HW7.out.grown hg7 HA.out.2.2.1)
      have HF := hid (own_fin hbl HM.out HA.out HS6.out.1 HS6.out.2.1 HS6.out.2.2 1 ho7 hg7 hat7 2)
      obtain ⟨-, -, e6, -, -, -, -, -, -, -, hfz⟩ := HW8.out.cells
      have f8 := hfz 2
      clear ho7 hg7 hat7 hfz d5 d6 f6 f7 HR6
      go_wp2_with fail
      go_end0
      exact ⟨s, ny, _, _, rfl, HW8.out.set2 _, HF.out⟩
end Go.Proofs.YtolgpnaoaodepaaGreat
/- The walk of ownChanges. -/
namespace Go.Proofs.YtolgpnaoaodepaaGreat
open Go.RowKit

end Go.Proofs.YtolgpnaoaodepaaGreat
/- The walk of looks: every list reads as its owner wrote it. -/
namespace Go.Proofs.YtolgpnaoaodepaaGreat
open Go.RowKit

theorem marks_at (mc : List Value) (n j t : Nat) (hj : j < n) (x : Value) (hx : mc[t]? = some x) : (marks mc n)[j * mc.length + t]? = some x := by
  have ht : t < mc.length := (List.getElem?_eq_some_iff.1 hx).1
  have hl := marks_len mc j
  rw [show n = j + (1 + (n - j - 1)) by omega, marks_add, marks_add, List.getElem?_append_right (show (marks mc j).length ≤ j * mc.length + t by omega), List.getElem?_append_left (show j * mc.length + t - (marks mc j).length < (marks mc 1).length by rw [marks_len mc 1]; omega)]
  have e : j * mc.length + t - (marks mc j).length = t := by omega
  rw [e]
  simpa [marks] using hx
theorem Marked.at {e : TypeId} {mc : List Value} {w : World} {a : Option Addr} {n cap : Nat} (h : Marked e mc w (.slice a n cap)) (j : Nat) (hj : j < n) : ∃ g, a = some ⟨g, 0, none⟩ ∧ g < w.heap.size ∧ n ≤ cap ∧ ∀ t x, mc[t]? = some x → w.cell? ⟨g, j * mc.length + t, none⟩ = some x := by
  obtain ⟨a', n', cap', hv, h1, h2, h3⟩ := h
  simp only [Value.slice.injEq] at hv
  obtain ⟨rfl, rfl, rfl⟩ := hv
  rcases h3 with h3 | ⟨g, cur, rfl, hg, ht⟩
  · omega
  · refine ⟨g, rfl, (Array.getElem?_eq_some_iff.1 hg).1, h1, fun t x hx => ?_⟩
    have hm := marks_at mc n j t hj x hx
    rw [← ht] at hm
    unfold World.cell?
    rw [hg]
    have hlt := (List.getElem?_eq_some_iff.1 hm).1
    rw [List.getElem?_take_of_lt (by simp at hlt; omega)] at hm
    simpa using hm
theorem Marked.shape {e : TypeId} {mc : List Value} {w : World} {v : Value} (h : Marked e mc w v) : ∃ a n cap, v = .slice a n cap ∧ n ≤ 9223372036854775807 := by
  obtain ⟨a, n, cap, rfl, h1, h2, -⟩ := h
  exact ⟨a, n, cap, rfl, by unfold maxLen at h2; omega⟩
theorem row_bel {B : Nat} {e : TypeId} {sz n : Nat} {v : Value} {xs : List Value} {w w' : World} (h : w.ownsRow B e sz v n xs) (hb : Below w.heap.size w w') : w'.ownsRow B e sz v n xs :=
  World.ownsRow.kept h (row := none) ⟨hb.os, hb.tape, hb.output, hb.size, fun k hk _ => hb.block k hk⟩ (by cases v.ownBlock <;> simp)
/-- A row of lists, a row of their marks: each list reads as its mark. -/
def Kept (eS eE eM : TypeId) (mk : Value → List Value) (ok : Value → Prop) (w : World) (vS vM : Value) (k : Nat) : Prop := ∃ L M : List Value, w.ownsRow 0 eS 1 vS k L ∧ w.ownsRow 0 eM 1 vM k M ∧ ∀ (i : Nat) (u m : Value), L[i]? = some u → M[i]? = some m → ok m ∧ Marked eE (mk m) w u
theorem Kept.below {eS eE eM : TypeId} {mk : Value → List Value} {ok : Value → Prop} {w w' : World} {vS vM : Value} {k : Nat} (h : Kept eS eE eM mk ok w vS vM k) (hb : Below w.heap.size w w') : Kept eS eE eM mk ok w' vS vM k := by
  obtain ⟨L, M, h1, h2, h3⟩ := h
  exact ⟨L, M, row_bel h1 hb, row_bel h2 hb, fun i u m hu hm => ⟨(h3 i u m hu hm).1, (h3 i u m hu hm).2.below hb⟩⟩
theorem Kept.shape {eS eE eM : TypeId} {mk : Value → List Value} {ok : Value → Prop} {w : World} {vS vM : Value} {k : Nat} (h : Kept eS eE eM mk ok w vS vM k) : (∃ a cap, vS = .slice a k cap) ∧ ∃ a cap, vM = .slice a k cap := by
  obtain ⟨L, M, h1, h2, h3⟩ := h
  exact ⟨rowShape h1, rowShape h2⟩
theorem row_get {e : TypeId} {w : World} {v : Value} {n : Nat} {xs : List Value} (h : w.ownsRow 0 e 1 v n xs) (i : Nat) (hi : i < n) : ∃ g cap x, v = .slice (some ⟨g, 0, none⟩) n cap ∧ g < w.heap.size ∧ n ≤ cap ∧ xs[i]? = some x ∧ w.cell? ⟨g, i, none⟩ = some x := by
  have hl := h.1
  rcases h.2 with ⟨_, h0⟩ | ⟨g, cap, cur, rfl, hb, hg, h1, h2, h3, h4⟩
  · omega
  · have hx : i < xs.length := by omega
    refine ⟨g, cap, xs[i], rfl, (Array.getElem?_eq_some_iff.1 hg).1, h1, List.getElem?_eq_getElem hx, ?_⟩
    have hq : (cur.toList.take (n * 1))[i]? = some xs[i] := by rw [h4]; exact List.getElem?_eq_getElem hx
    rw [List.getElem?_take_of_lt (by omega)] at hq
    unfold World.cell?
    rw [hg]
    simpa using hq
theorem Kept.at {eS eE eM : TypeId} {mk : Value → List Value} {ok : Value → Prop} {w : World} {vS vM : Value} {k : Nat} (h : Kept eS eE eM mk ok w vS vM k) (i : Nat) (hi : i < k) : ∃ gS cS gM cM u m, vS = .slice (some ⟨gS, 0, none⟩) k cS ∧ vM = .slice (some ⟨gM, 0, none⟩) k cM ∧ k ≤ cS ∧ k ≤ cM ∧ gS < w.heap.size ∧ gM < w.heap.size ∧ w.cell? ⟨gS, i, none⟩ = some u ∧ w.cell? ⟨gM, i, none⟩ = some m ∧ ok m ∧ Marked eE (mk m) w u := by
  obtain ⟨L, M, h1, h2, h3⟩ := h
  obtain ⟨g, c, u, e1, l1, n1, x1, c1⟩ := row_get h1 i hi
  obtain ⟨g2, cc, m, e2, l2, n2, x2, c2⟩ := row_get h2 i hi
  exact ⟨g, c, g2, cc, u, m, e1, e2, n1, n2, l1, l2, c1, c2, h3 i u m x1 x2⟩
abbrev mkI (m : Value) : List Value := [m, .string ⟨#[]⟩]
abbrev mkC (m : Value) : List Value := [.int .i64 0, m, .string ⟨#[]⟩]
abbrev mkT (m : Value) : List Value := [m]
def isStr (m : Value) : Prop := ∃ s, m = .string s
def isInt (m : Value) : Prop := ∃ q, m = .int .i64 q
abbrev KeptI := Kept 30 51 9 mkI isStr
abbrev KeptC := Kept 77 34 9 mkC isStr
abbrev KeptT := Kept 40 9 9 mkT isStr
abbrev KeptN := Kept 25 3 3 mkT isInt
set_option maxHeartbeats 2000000 in
set_option maxRecDepth 20000 in
theorem looks_any (b : Nat) (vl v1 v2 v3 v4 v5 v6 v7 v8 : Value) (nx : Int) (k1 k2 k3 k4 : Nat) (w : World) (h : Wb w b vl v1 v2 v3 v4 v5 v6 v7 v8 nx) (h1 : KeptI w v1 v2 k1) (h2 : KeptC w v3 v4 k2) (h3 : KeptT w v5 v6 k3) (h4 : KeptN w v7 v8 k4) (b1 : k1 ≤ 1000000000) (b2 : k2 ≤ 1000000000) (b3 : k3 ≤ 1000000000) (b4 : k4 ≤ 1000000000) :
    Calls Tryz.prog 30 #[.pointer (some ⟨b, 1, none⟩)] w fun r w' => r = .returned (.bool true) ∧ Below w.heap.size w w' := by
  obtain ⟨⟨a1, e1, rfl⟩, ⟨a2, e2, rfl⟩⟩ := h1.shape
  obtain ⟨⟨a3, e3, rfl⟩, ⟨a4, e4, rfl⟩⟩ := h2.shape
  obtain ⟨⟨a5, e5, rfl⟩, ⟨a6, e6, rfl⟩⟩ := h3.shape
  obtain ⟨⟨a7, e7, rfl⟩, ⟨a8, e8, rfl⟩⟩ := h4.shape
  have HW := hid h
  have H1 := hid h1
  have H2 := hid h2
  have H3 := hid h3
  have H4 := hid h4
  have hlt := h.lt
  clear h h1 h2 h3 h4
  go_enter Tryz.func30, Tryz.ntmps30
  go_wp2_with fail
  go_loopw [3, 4] (fun i _ wr => ∃ j : Nat, j ≤ k1 ∧ i = .int .i64 j ∧ Below w.heap.size w wr) (fun i _ _ => k1 - (intOf i).toNat)
  case atStart => exact ⟨0, Nat.zero_le _, rfl, Below.refl _ _⟩
  case round =>
    obtain ⟨j, hj, rfl, hbr⟩ := hrel
    have HBR := hid hbr
    obtain ⟨-, c1, c2, -, -, -, -, -, -, -, -⟩ := (HW.out.below hbr hlt).cells
    clear hbr
    by_cases hjk : j < k1
    · obtain ⟨gS, cS, gM, cM, u, m, f1, f2, f3, f4, f5, f6, q1, q2, ⟨s, rfl⟩, hm⟩ := (H1.out.below HBR.out).at j hjk
      simp only [Value.slice.injEq, true_and] at f1 f2
      obtain ⟨rfl, rfl⟩ := f1
      obtain ⟨rfl, rfl⟩ := f2
      obtain ⟨ua, un, uc, rfl, hun⟩ := hm.shape
      have HM := hid hm
      clear hm
      go_wp2_with fail
      have hwr := HBR.out.size
      go_loopw [4] (fun t wx => ∃ q : Nat, q ≤ un ∧ t = .int .i64 q ∧ Below wr.heap.size wr wx) (fun t _ => un - (intOf t).toNat)
      case atStart => exact ⟨0, Nat.zero_le _, rfl, Below.refl _ _⟩
      case round =>
        obtain ⟨q, hq, rfl, hbx⟩ := hrel
        have HBX := hid (HBR.out.trans (hbx.mono hwr))
        obtain ⟨-, d1, d2, -, -, -, -, -, -, -, -⟩ := (HW.out.below HBX.out hlt).cells
        have p1 := (hbx.cell (p := ⟨gS, j, none⟩) f5).trans q1
        have p2 := (hbx.cell (p := ⟨gM, j, none⟩) f6).trans q2
        clear c1 c2 q1 q2
        have hi1 : (0 : Int) ≤ (j : Int) := by omega
        have hi2 : (j : Int) < (k1 : Int) := by omega
        by_cases hqn : q < un
        · obtain ⟨gu, rfl, g1, g2, g3⟩ := HM.out.at q hqn
          have x0 := (hbx.cell (p := ⟨gu, q * 2 + 0, none⟩) g1).trans (g3 0 _ rfl)
          have x1 := (hbx.cell (p := ⟨gu, q * 2 + 1, none⟩) g1).trans (g3 1 _ rfl)
          rw [Nat.add_zero] at x0
          have hi3 : (0 : Int) ≤ (q : Int) := by omega
          have hi4 : (q : Int) < (un : Int) := by omega
          have HBX2 := hid hbx
          clear hbx g3
          go_wp2_with fail
          go_quiet (fail)
          go_wp2_with fail
          go_roundw
          case rel => exact ⟨q + 1, by omega, by go_num, below_drewN HBX2.out _⟩
          case measure => simp [intOf]; omega
        · have hi4 : ¬ (q : Int) < (un : Int) := by omega
          go_wp2_with fail
          go_roundw
          case rel => exact ⟨j + 1, by omega, by go_num, HBX.out⟩
          case measure => simp [intOf]; omega
    · have hi2 : ¬ (j : Int) < (k1 : Int) := by omega
      go_wp2_with fail
      clear c1 c2 hi2 hjk hj
      go_loopw [5, 6] (fun i _ wr => ∃ j : Nat, j ≤ k2 ∧ i = .int .i64 j ∧ Below w.heap.size w wr) (fun i _ _ => k2 - (intOf i).toNat)
      case atStart => exact ⟨0, Nat.zero_le _, rfl, HBR.out⟩
      case round =>
        obtain ⟨j, hj, rfl, hbr⟩ := hrel
        have HBR := hid hbr
        obtain ⟨-, -, -, c1, c2, -, -, -, -, -, -⟩ := (HW.out.below hbr hlt).cells
        clear hbr
        by_cases hjk : j < k2
        · obtain ⟨gS, cS, gM, cM, u, m, f1, f2, f3, f4, f5, f6, q1, q2, ⟨s, rfl⟩, hm⟩ := (H2.out.below HBR.out).at j hjk
          simp only [Value.slice.injEq, true_and] at f1 f2
          obtain ⟨rfl, rfl⟩ := f1
          obtain ⟨rfl, rfl⟩ := f2
          obtain ⟨ua, un, uc, rfl, hun⟩ := hm.shape
          have HM := hid hm
          clear hm
          go_wp2_with fail
          have hwr := HBR.out.size
          go_loopw [6] (fun t wx => ∃ q : Nat, q ≤ un ∧ t = .int .i64 q ∧ Below wr.heap.size wr wx) (fun t _ => un - (intOf t).toNat)
          case atStart => exact ⟨0, Nat.zero_le _, rfl, Below.refl _ _⟩
          case round =>
            obtain ⟨q, hq, rfl, hbx⟩ := hrel
            have HBX := hid (HBR.out.trans (hbx.mono hwr))
            obtain ⟨-, -, -, d1, d2, -, -, -, -, -, -⟩ := (HW.out.below HBX.out hlt).cells
            have p1 := (hbx.cell (p := ⟨gS, j, none⟩) f5).trans q1
            have p2 := (hbx.cell (p := ⟨gM, j, none⟩) f6).trans q2
            clear c1 c2 q1 q2
            have hi1 : (0 : Int) ≤ (j : Int) := by omega
            have hi2 : (j : Int) < (k2 : Int) := by omega
            by_cases hqn : q < un
            · obtain ⟨gu, rfl, g1, g2, g3⟩ := HM.out.at q hqn
              have x0 := (hbx.cell (p := ⟨gu, q * 3 + 0, none⟩) g1).trans (g3 0 _ rfl)
              have x1 := (hbx.cell (p := ⟨gu, q * 3 + 1, none⟩) g1).trans (g3 1 _ rfl)
              have x2 := (hbx.cell (p := ⟨gu, q * 3 + 2, none⟩) g1).trans (g3 2 _ rfl)
              rw [Nat.add_zero] at x0
              have hi3 : (0 : Int) ≤ (q : Int) := by omega
              have hi4 : (q : Int) < (un : Int) := by omega
              have HBX2 := hid hbx
              clear hbx g3
              go_wp2_with fail
              go_quiet (fail)
              go_wp2_with fail
              go_roundw
              case rel => exact ⟨q + 1, by omega, by go_num, below_drewN HBX2.out _⟩
              case measure => simp [intOf]; omega
            · have hi4 : ¬ (q : Int) < (un : Int) := by omega
              go_wp2_with fail
              go_roundw
              case rel => exact ⟨j + 1, by omega, by go_num, HBX.out⟩
              case measure => simp [intOf]; omega
        · have hi2 : ¬ (j : Int) < (k2 : Int) := by omega
          go_wp2_with fail
          clear c1 c2 hi2 hjk hj
          go_loopw [7, 8] (fun i _ wr => ∃ j : Nat, j ≤ k3 ∧ i = .int .i64 j ∧ Below w.heap.size w wr) (fun i _ _ => k3 - (intOf i).toNat)
          case atStart => exact ⟨0, Nat.zero_le _, rfl, HBR.out⟩
          case round =>
            obtain ⟨j, hj, rfl, hbr⟩ := hrel
            have HBR := hid hbr
            obtain ⟨-, -, -, -, -, c1, c2, -, -, -, -⟩ := (HW.out.below hbr hlt).cells
            clear hbr
            by_cases hjk : j < k3
            · obtain ⟨gS, cS, gM, cM, u, m, f1, f2, f3, f4, f5, f6, q1, q2, ⟨s, rfl⟩, hm⟩ := (H3.out.below HBR.out).at j hjk
              simp only [Value.slice.injEq, true_and] at f1 f2
              obtain ⟨rfl, rfl⟩ := f1
              obtain ⟨rfl, rfl⟩ := f2
              obtain ⟨ua, un, uc, rfl, hun⟩ := hm.shape
              have HM := hid hm
              clear hm
              go_wp2_with fail
              have hwr := HBR.out.size
              go_loopw [8] (fun t wx => ∃ q : Nat, q ≤ un ∧ t = .int .i64 q ∧ Below wr.heap.size wr wx) (fun t _ => un - (intOf t).toNat)
              case atStart => exact ⟨0, Nat.zero_le _, rfl, Below.refl _ _⟩
              case round =>
                obtain ⟨q, hq, rfl, hbx⟩ := hrel
                have HBX := hid (HBR.out.trans (hbx.mono hwr))
                obtain ⟨-, -, -, -, -, d1, d2, -, -, -, -⟩ := (HW.out.below HBX.out hlt).cells
                have p1 := (hbx.cell (p := ⟨gS, j, none⟩) f5).trans q1
                have p2 := (hbx.cell (p := ⟨gM, j, none⟩) f6).trans q2
                clear c1 c2 q1 q2
                have hi1 : (0 : Int) ≤ (j : Int) := by omega
                have hi2 : (j : Int) < (k3 : Int) := by omega
                by_cases hqn : q < un
                · obtain ⟨gu, rfl, g1, g2, g3⟩ := HM.out.at q hqn
                  have x0 := (hbx.cell (p := ⟨gu, q * 1 + 0, none⟩) g1).trans (g3 0 _ rfl)
                  rw [Nat.add_zero, Nat.mul_one] at x0
                  have hi3 : (0 : Int) ≤ (q : Int) := by omega
                  have hi4 : (q : Int) < (un : Int) := by omega
                  have HBX2 := hid hbx
                  clear hbx g3
                  go_wp2_with fail
                  go_quiet (fail)
                  go_wp2_with fail
                  go_roundw
                  case rel => exact ⟨q + 1, by omega, by go_num, below_drewN HBX2.out _⟩
                  case measure => simp [intOf]; omega
                · have hi4 : ¬ (q : Int) < (un : Int) := by omega
                  go_wp2_with fail
                  go_roundw
                  case rel => exact ⟨j + 1, by omega, by go_num, HBX.out⟩
                  case measure => simp [intOf]; omega
            · have hi2 : ¬ (j : Int) < (k3 : Int) := by omega
              go_wp2_with fail
              clear c1 c2 hi2 hjk hj
              go_loopw [9, 10] (fun i _ wr => ∃ j : Nat, j ≤ k4 ∧ i = .int .i64 j ∧ Below w.heap.size w wr) (fun i _ _ => k4 - (intOf i).toNat)
              case atStart => exact ⟨0, Nat.zero_le _, rfl, HBR.out⟩
              case round =>
                obtain ⟨j, hj, rfl, hbr⟩ := hrel
                have HBR := hid hbr
                obtain ⟨-, -, -, -, -, -, -, c1, c2, -, -⟩ := (HW.out.below hbr hlt).cells
                clear hbr
                by_cases hjk : j < k4
                · obtain ⟨gS, cS, gM, cM, u, m, f1, f2, f3, f4, f5, f6, q1, q2, ⟨s, rfl⟩, hm⟩ := (H4.out.below HBR.out).at j hjk
                  simp only [Value.slice.injEq, true_and] at f1 f2
                  obtain ⟨rfl, rfl⟩ := f1
                  obtain ⟨rfl, rfl⟩ := f2
                  obtain ⟨ua, un, uc, rfl, hun⟩ := hm.shape
                  have HM := hid hm
                  clear hm
                  go_wp2_with fail
                  have hwr := HBR.out.size
                  go_loopw [10] (fun t wx => ∃ q : Nat, q ≤ un ∧ t = .int .i64 q ∧ Below wr.heap.size wr wx) (fun t _ => un - (intOf t).toNat)
                  case atStart => exact ⟨0, Nat.zero_le _, rfl, Below.refl _ _⟩
                  case round =>
                    obtain ⟨q, hq, rfl, hbx⟩ := hrel
                    have HBX := hid (HBR.out.trans (hbx.mono hwr))
                    obtain ⟨-, -, -, -, -, -, -, d1, d2, -, -⟩ := (HW.out.below HBX.out hlt).cells
                    have p1 := (hbx.cell (p := ⟨gS, j, none⟩) f5).trans q1
                    have p2 := (hbx.cell (p := ⟨gM, j, none⟩) f6).trans q2
                    clear c1 c2 q1 q2
                    have hi1 : (0 : Int) ≤ (j : Int) := by omega
                    have hi2 : (j : Int) < (k4 : Int) := by omega
                    by_cases hqn : q < un
                    · obtain ⟨gu, rfl, g1, g2, g3⟩ := HM.out.at q hqn
                      have x0 := (hbx.cell (p := ⟨gu, q * 1 + 0, none⟩) g1).trans (g3 0 _ rfl)
                      rw [Nat.add_zero, Nat.mul_one] at x0
                      have hi3 : (0 : Int) ≤ (q : Int) := by omega
                      have hi4 : (q : Int) < (un : Int) := by omega
                      have HBX2 := hid hbx
                      clear hbx g3
                      go_wp2_with fail
                      go_quiet (fail)
                      go_wp2_with fail
                      go_roundw
                      case rel => exact ⟨q + 1, by omega, by go_num, below_drewN HBX2.out _⟩
                      case measure => simp [intOf]; omega
                    · have hi4 : ¬ (q : Int) < (un : Int) := by omega
                      go_wp2_with fail
                      go_roundw
                      case rel => exact ⟨j + 1, by omega, by go_num, HBX.out⟩
                      case measure => simp [intOf]; omega
                · have hi2 : ¬ (j : Int) < (k4 : Int) := by omega
                  go_wp2_with fail
                  go_ret
                  exact ⟨rfl, HBR.out⟩
end Go.Proofs.YtolgpnaoaodepaaGreat
/- The book through a step: the pair that grew, the pairs that stay. -/
namespace Go.Proofs.YtolgpnaoaodepaaGreat
open Go.RowKit

/-- A row of lists and a row of their marks, each list marked and lying in such a block. -/
def KeptF (eS eE eM : TypeId) (mk : Value → List Value) (ok : Value → Prop) (F : Nat → Prop) (w : World) (vS vM : Value) (k : Nat) : Prop := ∃ L M : List Value, w.ownsRow 0 eS 1 vS k L ∧ w.ownsRow 0 eM 1 vM k M ∧ ∀ (i : Nat) (u m : Value), L[i]? = some u → M[i]? = some m → ok m ∧ Marked eE (mk m) w u ∧ ∀ g, atBlock u = some g → F g
theorem KeptF.kept {eS eE eM : TypeId} {mk : Value → List Value} {ok : Value → Prop} {F : Nat → Prop} {w : World} {vS vM : Value} {k : Nat} (h : KeptF eS eE eM mk ok F w vS vM k) : Kept eS eE eM mk ok w vS vM k := by
  obtain ⟨L, M, h1, h2, h3⟩ := h
  exact ⟨L, M, h1, h2, fun i u m hu hm => ⟨(h3 i u m hu hm).1, (h3 i u m hu hm).2.1⟩⟩
/-- A pair whose blocks nobody wrote. -/
theorem KeptF.stay {eS eE eM : TypeId} {mk : Value → List Value} {ok : Value → Prop} {F F' : Nat → Prop} {w w' : World} {vS vM : Value} {k : Nat} (h : KeptF eS eE eM mk ok F w vS vM k) (hs : ∀ g, g < w.heap.size → (vS.ownBlock = some g ∨ vM.ownBlock = some g ∨ F g) → w'.heap[g]? = w.heap[g]?) (hF : ∀ g, g < w.heap.size → F g → F' g) : KeptF eS eE eM mk ok F' w' vS vM k := by
  obtain ⟨L, M, h1, h2, h3⟩ := h
  refine ⟨L, M, row_same h1 fun g hg hl => hs g hl (.inl hg), row_same h2 fun g hg hl => hs g hl (.inr (.inl hg)), fun i u m hu hm => ?_⟩
  obtain ⟨q1, q2, q3⟩ := h3 i u m hu hm
  exact ⟨q1, q2.keep fun g hg => hs g (q2.lt hg) (.inr (.inr (q3 g hg))), fun g hg => hF g (q2.lt hg) (q3 g hg)⟩
/-- The pair that an own.. grew. -/
theorem kept_grow {eS eE eM : TypeId} {mk : Value → List Value} {ok : Value → Prop} {F F' : Nat → Prop} {w w' : World} {b k : Nat} {l vS vM vS' vM' m0 : Value} {L M : List Value} (hall : ∀ (i : Nat) (u m : Value), L[i]? = some u → M[i]? = some m → ok m ∧ Marked eE (mk m) w u ∧ ∀ g, atBlock u = some g → F g) (hL : L.length = k) (hM : M.length = k)
    (hr : OwnR w b eS eE eM (mk m0) m0 l vS vM k L M vS' vM' w') (hok : ok m0) (hFo : ∀ g, g < w.heap.size → F g → g ≠ b ∧ l.ownBlock ≠ some g ∧ vS.ownBlock ≠ some g ∧ vM.ownBlock ≠ some g ∧ F' g) (hFn : ∀ g, (l.ownBlock = some g ∨ w.heap.size ≤ g) → g ≠ b → vS'.ownBlock ≠ some g → vM'.ownBlock ≠ some g → F' g) : KeptF eS eE eM mk ok F' w' vS' vM' (k + 4) := by
  obtain ⟨g1, g2, g3, rS, rM, hu4, hS, hMb, -, -, -, hsz, hfr⟩ := hr
  refine ⟨_, _, rS, rM, fun i u m hu hm => ?_⟩
  by_cases hi : i < k
  · rw [List.getElem?_append_left (by omega)] at hu hm
    obtain ⟨q1, q2, q3⟩ := hall i u m hu hm
    refine ⟨q1, q2.keep fun g hg => ?_, fun g hg => (hFo g (q2.lt hg) (q3 g hg)).2.2.2.2⟩
    obtain ⟨f1, f2, f3, f4, -⟩ := hFo g (q2.lt hg) (q3 g hg)
    exact hfr g (q2.lt hg) f1 f2 f3 f4
  · rw [List.getElem?_append_right (by omega)] at hu hm
    have hlt := (List.getElem?_eq_some_iff.1 hu).1
    rw [hL] at hu hlt
    rw [hM] at hm
    have hu' : u = l ∨ u = g1 ∨ u = g2 ∨ u = g3 := by
      have := List.mem_of_getElem? hu
      simpa using this
    have hm' : m = m0 := by
      have := List.mem_of_getElem? hm
      simpa using this
    subst hm'
    obtain ⟨q1, q2⟩ := hu4 u hu'
    refine ⟨hok, q1, fun g hg => ?_⟩
    obtain ⟨f1, f2, f3, f4⟩ := q2 g hg
    exact hFn g f1 f2 f3 f4
end Go.Proofs.YtolgpnaoaodepaaGreat
