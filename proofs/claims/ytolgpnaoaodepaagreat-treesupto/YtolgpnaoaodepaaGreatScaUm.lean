/- A scan's heap: a place is added, the first is taken; lay. -/
import Derived.Test.YtolgpnaoaodepaaGreatScaLm
import Derived.Deep.DeepCutAuto
import Derived.Lib.QuietBelow
import Derived.Test.YtolgpnaoaodepaaGreatTreZQm
namespace Go.Proofs.YtolgpnaoaodepaaGreat
open Go.RowKit
variable {A : List Nat}

/-- Blocks of other kinds stay. -/
def Frm (sb : Nat) (W W' : World) : Prop := W.heap.size ≤ W'.heap.size ∧ ∀ g cs T, W.heap[g]? = some (.cells cs T (0, 0)) → T ≠ 137 → g ≠ sb → W'.heap[g]? = some (.cells cs T (0, 0))
theorem Frm.trans {sb : Nat} {W W' W'' : World} (h1 : Frm sb W W') (h2 : Frm sb W' W'') : Frm sb W W'' := ⟨Nat.le_trans h1.1 h2.1, fun g cs T hg hT hs => h2.2 g cs T (h1.2 g cs T hg hT hs) hT hs⟩
theorem Frm.below {sb : Nat} {W W' : World} (h : Below W.heap.size W W') : Frm sb W W' := ⟨h.size, fun g _ _ hg _ _ => (h.block g (Array.getElem?_eq_some_iff.1 hg).1).trans hg⟩
theorem PlM.frm {w0 W W' : World} {b sb : Nat} {kv : ByteArray × Nat} {p : Tr.Plc} {fr ub : ByteArray} {v : Value} (h : PlM w0 A W b kv p) (hs : ScB W sb fr ub v) (hf : Frm sb W W') : PlM w0 A W' b kv p := by
  have hkb : ∀ cs T, W.heap[b]? = some (.cells cs T (0, 0)) → T = 139 → W'.heap[b]? = some (.cells cs T (0, 0)) := fun cs T hb hT => by
    subst hT
    refine hf.2 b cs _ hb (by decide) (fun e => ?_)
    subst e; unfold ScB at hs; rw [hb] at hs; simp at hs
  cases p using Tr.Plc.twoP with
  | nd f L h' m t =>
    obtain ⟨h1, h2, p, F, h3, h4⟩ := h
    exact ⟨h1, h2, p, F, hkb _ _ h3 rfl, h4⟩
  | ch L f m c cs =>
    obtain ⟨h1, h2, g, o, cap, ml, cur, h3, h4, h5, h6, h7⟩ := h
    have hkg : W'.heap[g]? = W.heap[g]? := (hf.2 g cur _ h5 (by decide) (fun e => by subst e; unfold ScB at hs; rw [h5] at hs; simp at hs)).trans h5.symm
    exact ⟨h1, h2, g, o, cap, ml, cur, hkb _ _ h3 rfl, h4, hkg.trans h5, fun j u hj => (World.cell?_of_block (w := W) (a := ⟨g, o + j, none⟩) hkg).trans (h6 j u hj), h7⟩
theorem push_sc {w0 : World} {sb : Nat} {fr ub : ByteArray} {P : List Tr.Plc} {v : Value} {K : Nat → ByteArray × Nat} {L : List (Nat × Tr.Plc)} {W : World} (h : ScW w0 A sb fr ub P v K L W) {b : Nat} {kv : ByteArray × Nat} {p : Tr.Plc} (hb : b ∉ L.map (·.1)) (hp : PlM w0 A W b kv p) (hl : L.length ≤ 1000000) :
    Calls Tryz.prog 186 #[.iface 193 (.pointer (some ⟨sb, 2, none⟩)), .iface 137 (.pointer (some ⟨b, 0, none⟩))] W fun r W' => r = .returned (.tuple #[]) ∧ ScM w0 A sb fr ub (p :: P) W' ∧ Frm sb W W' := by
  have hK : ∀ x ∈ L.map (·.1), (fun y => if y = b then kv else K y) x = K x := fun x hx => if_neg fun e => hb (by rw [← e]; exact hx)
  have hq := h.hp.congr hK
  obtain ⟨⟨un, ch, hplb⟩, -, -⟩ := hp.plb
  refine (hPush_any sb fr ub v _ (L.map (·.1)) b W hq ⟨un, ch, by show PlB W b (if b = b then kv else K b).1 (if b = b then kv else K b).2 un ch; rw [if_pos rfl]; exact hplb⟩ (by rw [List.length_map]; exact hl) (ltK_ord _)).mono ?_
  rintro r W' ⟨rfl, bs', v', hpm, hq', hv', hm⟩
  obtain ⟨L', h1, h2⟩ := Tr.perm_map (·.1) hpm.symm ((b, p) :: L) rfl
  subst h2
  refine ⟨rfl, ⟨v', _, L', hq', (h1.symm.map _).trans ?_, fun x hx => ?_, h.bel.trans (hm.below h.bel.size fun k q => q.elim (fun e => by rw [e]; exact h.sbn) (h.vn k)), h.sbn, fun g hg => ?_⟩, ⟨hm.size, fun g cs T hg hT hs => (hm.block g (Array.getElem?_eq_some_iff.1 hg).1 (fun q => q.elim hs (blk_type hg h.hp.row (fun e => hT e.symm)))).trans hg⟩⟩
  · exact (List.Perm.cons p h.pm)
  · have hx1 := h1.mem_iff.2 hx
    rcases List.mem_cons.1 hx1 with e | e
    · subst e
      show PlM w0 A W' b (if b = b then kv else K b) p
      rw [if_pos rfl]
      exact hp.keep h.hp.sc h.hp.row fun g hg n1 n2 => hm.block g hg (fun q => q.elim n1 n2)
    · have this : (if x.1 = b then kv else K x.1) = K x.1 := hK x.1 (List.mem_map.2 ⟨x, e, rfl⟩)
      rw [this]
      exact (h.pl x e).keep h.hp.sc h.hp.row fun g hg n1 n2 => hm.block g hg (fun q => q.elim n1 n2)
  · rcases hv' with e | ⟨k, hk, e⟩
    · rw [e] at hg; exact h.vn g hg
    · rw [e] at hg; have := Option.some.inj hg; have := h.bel.size; omega
theorem pop_sc {w0 : World} {sb : Nat} {fr ub : ByteArray} {P : List Tr.Plc} {v : Value} {K : Nat → ByteArray × Nat} {L : List (Nat × Tr.Plc)} {W : World} (h : ScW w0 A sb fr ub P v K L W) (hpos : 0 < L.length) (hl : L.length ≤ 1000000) :
    Calls Tryz.prog 131 #[.iface 193 (.pointer (some ⟨sb, 2, none⟩))] W fun r W' => ∃ b p R v' L', r = .returned (.iface 137 (.pointer (some ⟨b, 0, none⟩))) ∧ P.Perm (p :: R) ∧ (∀ q ∈ R, ¬ q.less p) ∧ ScW w0 A sb fr ub R v' K L' W' ∧ PlM w0 A W' b (K b) p ∧ Frm sb W W' := by
  refine (hPop_any sb fr ub v K (L.map (·.1)) W h.hp (by rw [List.length_map]; exact hpos) (by rw [List.length_map]; omega) (ltK_ord K)).mono ?_
  rintro r W' ⟨b, bs', v', rfl, hpm, hmin, hq', hv', hk, hs, ho, ht, hout⟩
  obtain ⟨L1, h1, h2⟩ := Tr.perm_map (·.1) hpm L rfl
  cases L1 with
  | nil => cases h2
  | cons y L' =>
    simp only [List.map_cons, List.cons.injEq] at h2
    obtain ⟨e1, rfl⟩ := h2
    obtain ⟨b', p⟩ := y
    have e1 : b' = b := e1
    subst e1
    have hpl : ∀ x ∈ (b', p) :: L', PlM w0 A W' x.1 (K x.1) x.2 := fun x hx => (h.pl x (h1.mem_iff.2 hx)).keep h.hp.sc h.hp.row hk
    have hbW : Below w0.heap.size W W' := ⟨ho, ht, hout, hs, fun k hk' => hk k (Nat.lt_of_lt_of_le hk' h.bel.size) (fun e => by have := h.sbn; omega) (fun e => by have := h.vn k e; omega)⟩
    refine ⟨b', p, L'.map (·.2), v', L', rfl, h.pm.symm.trans (h1.map _), fun q hq => ?_, ⟨hq', List.Perm.refl _, fun x hx => hpl x (List.mem_cons_of_mem _ hx), h.bel.trans hbW, h.sbn, fun g hg => h.vn g (by rw [← hv']; exact hg)⟩, hpl _ (List.mem_cons_self ..), ⟨hs, fun g cs T hg hT hs => (hk g (Array.getElem?_eq_some_iff.1 hg).1 hs (blk_type hg h.hp.row (fun e => hT e.symm))).trans hg⟩⟩
    obtain ⟨x, hx, rfl⟩ := List.mem_map.1 hq
    rw [lt_less (hpl x (List.mem_cons_of_mem _ hx)) (hpl _ (List.mem_cons_self ..))]
    exact hmin x.1 (List.mem_map.2 ⟨x, hx, rfl⟩)
theorem ScW.len {w0 : World} {sb : Nat} {fr ub : ByteArray} {P : List Tr.Plc} {v : Value} {K : Nat → ByteArray × Nat} {L : List (Nat × Tr.Plc)} {W : World} (h : ScW w0 A sb fr ub P v K L W) : L.length = P.length := by
  have := h.pm.length_eq; rw [List.length_map] at this; exact this
theorem ScW.lt {w0 : World} {sb : Nat} {fr ub : ByteArray} {P : List Tr.Plc} {v : Value} {K : Nat → ByteArray × Nat} {L : List (Nat × Tr.Plc)} {W : World} (h : ScW w0 A sb fr ub P v K L W) : ∀ b ∈ L.map (·.1), b < W.heap.size := fun b hb => by
  obtain ⟨u, c, q⟩ := h.hp.pl b hb; exact q.lt

/-- Changes that lie somewhere, to be laid down as a place. -/
def LayC (A : List Nat) (W : World) (v : Value) (ml : List (Int × ByteArray × ByteArray)) : Prop := (ml = [] ∧ ∃ a c, v = .slice a 0 c) ∨ (ml ≠ [] ∧ ∃ g o cap cur, v = .slice (some ⟨g, o, none⟩) ml.length cap ∧ ml.length ≤ cap ∧ W.heap[g]? = some (.cells cur 34 (0, 0)) ∧ g ∉ A ∧ ∀ j u, (ccells ml)[j]? = some u → W.cell? ⟨g, o + j, none⟩ = some u)
set_option maxHeartbeats 1000000 in
set_option maxRecDepth 4000 in
theorem sLay_any {w0 : World} {sb : Nat} {fr ub : ByteArray} {P : List Tr.Plc} {W : World} (h : ScM w0 A sb fr ub P W) (lv : Nat) (f : Tr.Key) (m : Option Tr.Key) (v : Value) (ml : List (Int × ByteArray × ByteArray)) (hc : LayC A W v ml) (hl : P.length ≤ 900000) (hm : ml.length ≤ 1000) :
    Calls Tryz.prog 132 #[.pointer (some ⟨sb, 0, none⟩), .int .i64 (lv : Nat), v] W fun r W' => r = .returned (.tuple #[]) ∧ ScM w0 A sb fr ub (Tr.lay lv f m (plainCh ml) ++ P) W' ∧ Frm sb W W' := by
  rcases hc with ⟨rfl, a, c, rfl⟩ | ⟨hne, g, o, cap, cur, rfl, hcap, hg, hA, hcs⟩
  · have H := hid h
    go_enter Tryz.func132, Tryz.ntmps132
    go_wp2_with fail
    go_end0
    exact ⟨rfl, H.out, Nat.le_refl _, fun _ _ _ hg _ _ => hg⟩
  · obtain ⟨c, cs, rfl⟩ : ∃ c cs, ml = c :: cs := by cases ml with
      | nil => exact absurd rfl hne
      | cons c cs => exact ⟨c, cs, rfl⟩
    obtain ⟨ck, ckey, cx⟩ := c
    obtain ⟨v0, K, L, hS⟩ := h
    have k1 : W.cell? ⟨g, o + 1, none⟩ = some (.string ckey) := hcs 1 _ rfl
    have hb : Below W.heap.size W (W.alloc (.cells #[.string ckey, .int .i64 (lv : Nat), .pointer none, .slice (some ⟨g, o, none⟩) (cs.length + 1) cap] 139)) := (Below.refl _ W).alloc (Nat.le_refl _) _
    have hb2 : Below W.heap.size W (W.alloc (.cells #[.string ckey, .int .i64 (lv : Nat), .pointer none, .slice (some ⟨g, o, none⟩) (cs.length + 1) cap] 139)).drew := hb.drew
    have hkg := hb2.block g (Array.getElem?_eq_some_iff.1 hg).1
    have hp : PlM w0 A (W.alloc (.cells #[.string ckey, .int .i64 (lv : Nat), .pointer none, .slice (some ⟨g, o, none⟩) (cs.length + 1) cap] 139)).drew W.heap.size (ckey, lv) (.ch lv f m (ck, ckey.data.toList, cx.data.toList) (plainCh cs)) :=
      ⟨rfl, rfl, g, o, cap, (ck, ckey, cx) :: cs, cur, heap_alloc_new _ _, rfl, hkg.trans hg, fun j u hj => (World.cell?_of_block (w := W) (a := ⟨g, o + j, none⟩) hkg).trans (hcs j u hj), hcap, hA, hm⟩
    have HPU := hid (push_sc (hS.below hb2) (b := W.heap.size) (fun q => by have := hS.lt _ q; omega) hp (by rw [hS.len]; omega))
    have hcl : (0 : Int) < (cs.length : Int) + 1 := by omega
    have HFB : Hid (Frm sb W (W.alloc (.cells #[.string ckey, .int .i64 (lv : Nat), .pointer none, .slice (some ⟨g, o, none⟩) (cs.length + 1) cap] 139)).drew) := Frm.below hb2
    clear hS hp hb hb2 hkg hcs hg
    go_enter Tryz.func132, Tryz.ntmps132
    go_upto_region 1 with fail
    go_region_law (go_simp; go_at_call 186; refine HPU.out.mono ?_; rintro r w3 ⟨rfl, hq3, hf3⟩; have HQ3 := hid hq3; have HF3 := hid (HFB.out.trans hf3); clear hq3 hf3)
    all_goals
      go_wp2_with fail
      go_end0
      exact ⟨rfl, HQ3.out, HF3.out⟩
end Go.Proofs.YtolgpnaoaodepaaGreat
/- open, of a leaf. -/
namespace Go.Proofs.YtolgpnaoaodepaaGreat
open Go.RowKit
variable {A : List Nat}

theorem ScM.perm {w0 : World} {sb : Nat} {fr ub : ByteArray} {P Q : List Tr.Plc} {W : World} (h : ScM w0 A sb fr ub P W) (hp : P.Perm Q) : ScM w0 A sb fr ub Q W := by
  obtain ⟨v, K, L, hS⟩ := h
  exact ⟨v, K, L, hS.hp, hS.pm.trans hp, hS.pl, hS.bel, hS.sbn, hS.vn⟩
theorem ScM.below {w0 : World} {sb : Nat} {fr ub : ByteArray} {P : List Tr.Plc} {W W' : World} (h : ScM w0 A sb fr ub P W) (hb : Below W.heap.size W W') : ScM w0 A sb fr ub P W' := by
  obtain ⟨v, K, L, hS⟩ := h
  exact ⟨v, K, L, hS.below hb⟩
theorem ScM.bel {w0 : World} {sb : Nat} {fr ub : ByteArray} {P : List Tr.Plc} {W : World} (h : ScM w0 A sb fr ub P W) : Below w0.heap.size w0 W := by obtain ⟨v, K, L, hS⟩ := h; exact hS.bel
theorem ScM.sc {w0 : World} {sb : Nat} {fr ub : ByteArray} {P : List Tr.Plc} {W : World} (h : ScM w0 A sb fr ub P W) : ∃ v, ScB W sb fr ub v := by obtain ⟨v, K, L, hS⟩ := h; exact ⟨v, hS.hp.sc⟩
theorem lay_of {B : Nat} {W : World} {v : Value} {ml : List (Int × ByteArray × ByteArray)} (h : OwnsC B W v ml) (hA : ∀ a ∈ A, a < B) : LayC A W v ml := by
  cases ml with
  | nil => obtain ⟨a, c, e⟩ := rowShape h; exact .inl ⟨rfl, a, c, e⟩
  | cons c r =>
    rcases h.2 with ⟨_, hn⟩ | ⟨g, cap, cur, e, hb, hg, hc, hm, hcs, htk⟩
    · simp at hn
    · refine .inr ⟨by simp, g, 0, cap, cur, e, hc, hg, fun q => by have := hA g q; omega, fun j u hj => ?_⟩
      have := World.ownsRow.cells h (g := g) (by rw [e]; rfl) j u hj
      rw [add_at] at this
      simpa using this
/-- What a node's changes come to, as a place. -/
theorem open_tail {w0 : World} {sb : Nat} {fr ub : ByteArray} {P : List Tr.Plc} {W : World} (h : ScM w0 A sb fr ub P W) {p : Nat} {vi vp vc : Value} {il : List (ByteArray × ByteArray)} {ml : List (Int × ByteArray × ByteArray)} (hn : NodT w0 p vi vp vc) (hi : OwnsI 0 w0 vi il) (hc : OwnsC 0 w0 vc ml) (hl : il.length + ml.length ≤ 19) (lv : Nat) (f : Tr.Key) (m : Option Tr.Key) (hP : P.length ≤ 900000) (hA : ∀ a ∈ A, a < W.heap.size) :
    Calls Tryz.prog 187 #[.pointer (some ⟨p, 0, none⟩), .string fr] W fun r W1 => ∃ v, r = .returned v ∧ Below W.heap.size W W1 ∧ Calls Tryz.prog 132 #[.pointer (some ⟨sb, 0, none⟩), .int .i64 (lv : Nat), v] W1 fun r W2 => r = .returned (.tuple #[]) ∧ ∃ cs, Tr.Scd fr.data.toList (plainCh (il.map putC ++ ml)) cs ∧ ScM w0 A sb fr ub (Tr.lay lv f m cs ++ P) W2 ∧ Frm sb W W2 := by
  have hb := h.bel
  refine (changesFrom_any p vi vp vc il ml fr W ((hb.block p hn.lt).trans hn) (row_below hi hb (Nat.le_refl _)) (row_below hc hb (Nat.le_refl _)) hl).mono ?_
  rintro r W1 ⟨v, ml', rfl, ho, hs, hb1⟩
  refine ⟨v, rfl, hb1, ?_⟩
  have hlen := hs.len
  rw [plainCh_len, plainCh_len, List.length_append, List.length_map] at hlen
  refine (sLay_any (h.below hb1) lv f m v ml' (lay_of ho hA) hP (by omega)).mono ?_
  rintro r W2 ⟨rfl, h2, hf⟩
  exact ⟨rfl, _, hs, h2, (Frm.below hb1).trans hf⟩
/-- The node of a place that is to be opened. -/
theorem nd_leaf {w0 W : World} {b : Nat} {kv : ByteArray × Nat} {f : Tr.Key} {L : Nat} {m : Option Tr.Key} {t : Tr.TreeT 0} (h : PlM w0 A W b kv (.nd f L 0 m t)) (htop : Tr.Top 0 t) : ∃ p vi il, PlB W b kv.1 L (some ⟨p, 0, none⟩) (.slice none 0 0) ∧ NodT w0 p vi (.slice none 0 0) (.slice none 0 0) ∧ OwnsI 0 w0 vi il ∧ plainCh (il.map putC ++ []) = Tr.nodeCh 0 t ∧ il.length ≤ 16 := by
  obtain ⟨h1, h2, p, F, h3, h4⟩ := h
  obtain ⟨vi, il, hn, ho, rfl, rfl⟩ := h4
  refine ⟨p, vi, il, h3, hn, ho, ?_, by rw [← plain_len il]; exact htop⟩
  rw [List.append_nil]
  show (il.map putC).map _ = (plain il).map _
  unfold plain
  rw [List.map_map, List.map_map]
  rfl

set_option maxHeartbeats 1000000 in
set_option maxRecDepth 4000 in
theorem sOpenL_any {w0 : World} {sb : Nat} {fr ub : ByteArray} {R : List Tr.Plc} {W : World} (h : ScM w0 A sb fr ub R W) {b : Nat} {kv : ByteArray × Nat} {f : Tr.Key} {L : Nat} {m : Option Tr.Key} {t : Tr.TreeT 0} (hp : PlM w0 A W b kv (.nd f L 0 m t)) (htop : Tr.Top 0 t) (hR : R.length ≤ 800000) (hA : ∀ a ∈ A, a < W.heap.size) :
    Calls Tryz.prog 133 #[.pointer (some ⟨sb, 0, none⟩), .pointer (some ⟨b, 0, none⟩)] W fun r W' => r = .returned (.tuple #[]) ∧ ∃ cs, Tr.Scd fr.data.toList (Tr.nodeCh 0 t) cs ∧ ScM w0 A sb fr ub (Tr.kidsFrom fr.data.toList L m 0 t ++ (Tr.lay L f m cs ++ R)) W' ∧ Frm sb W W' := by
  obtain ⟨p, vi, il, hb, hn, hi, he, hil⟩ := nd_leaf hp htop
  have hbel := h.bel
  have hnW : NodT W p vi (.slice none 0 0) (.slice none 0 0) := (hbel.block p hn.lt).trans hn
  obtain ⟨n0, n1, n2, -⟩ := hnW.cells
  obtain ⟨b0, b1, b2, b3⟩ := hb.cells
  obtain ⟨vs, hsc⟩ := h.sc
  obtain ⟨s0, s1, s2, s3⟩ := hsc.cells
  have HFI : Hid (∀ W', NodT W' p vi (.slice none 0 0) (.slice none 0 0) → Calls Tryz.prog 77 #[.pointer (some ⟨p, 0, none⟩), .string fr] W' fun r w' => r = .returned (.int .i64 0) ∧ w' = W') := fun W' hW' => tFind_any p 0 vi (.slice none 0 0) (.slice none 0 0) [] fr W' hW' (World.ownsRow_nil _ _ _ _) (by simp)
  have HNW := hid hnW
  have HTL : Hid (∀ W', Below W.heap.size W W' → Calls Tryz.prog 187 #[.pointer (some ⟨p, 0, none⟩), .string fr] W' fun r W1 => ∃ v, r = .returned v ∧ Below W'.heap.size W' W1 ∧ Calls Tryz.prog 132 #[.pointer (some ⟨sb, 0, none⟩), .int .i64 (L : Nat), v] W1 fun r W2 => r = .returned (.tuple #[]) ∧ ∃ cs, Tr.Scd fr.data.toList (Tr.nodeCh 0 t) cs ∧ ScM w0 A sb fr ub (Tr.lay L f m cs ++ R) W2 ∧ Frm sb W W2) := fun W' hb' => by
    refine (open_tail (ml := []) (h.below hb') hn hi (World.ownsRow_nil _ _ _ _) (by simp; omega) L f m (by omega) (fun a ha => Nat.lt_of_lt_of_le (hA a ha) hb'.size)).mono ?_
    rintro r W1 ⟨v, rfl, hb1, hc1⟩
    refine ⟨v, rfl, hb1, hc1.mono ?_⟩
    rintro r W2 ⟨rfl, cs, hs, h2, hf⟩
    exact ⟨rfl, cs, by rw [← he]; exact hs, h2, (Frm.below hb').trans hf⟩
  have hbl := hb.lt
  have hsl := hsc.lt
  clear h hp htop hn hi hnW hsc hb he hbel
  go_enter Tryz.func133, Tryz.ntmps133
  go_upto_region 1 with fail
  go_quiet (exact Calls.quiet_of_same (HFI.out _ HNW.out))
  go_wp2_with fail
  go_loopw [23] (fun v23 wr => v23 = .int .i64 0 ∧ wr = W.drewN nq) (fun _ _ => 0)
  case atStart => exact ⟨rfl, rfl⟩
  case round =>
    obtain ⟨rfl, rfl⟩ := hrel
    go_upto_region 6 with fail
    have HT1 := hid (HTL.out (W.drewN nq).drew ((below_drewN (Below.refl _ W) nq).drew))
    go_region_law (first
      | (go_simp; go_at_call 187; refine HT1.out.mono ?_; rintro r w2 ⟨v2, rfl, hb2, hc2⟩; have HC2 := hid hc2; have y1 := (hb2.cell (p := ⟨b, 1, none⟩) hbl).trans b1; have y0 := (hb2.cell (p := ⟨sb, 0, none⟩) hsl).trans s0; clear hb2 hc2)
      | (go_simp; go_at_call 132; refine HC2.out.mono ?_; rintro r w3 ⟨rfl, hq3⟩; have HQ3 := hid hq3; clear hq3))
    all_goals
      go_wp2_with fail
      go_end0
      exact ⟨rfl, HQ3.out⟩
end Go.Proofs.YtolgpnaoaodepaaGreat
/- open, of a branch. -/
namespace Go.Proofs.YtolgpnaoaodepaaGreat
open Go.RowKit
variable {A : List Nat}

theorem nd_branch {w0 W : World} {b : Nat} {kv : ByteArray × Nat} {f : Tr.Key} {L h : Nat} {m : Option Tr.Key} {ps : List (Tr.Key × Tr.TreeT h)} {cs : List Tr.Ch} (hp : PlM w0 A W b kv (.nd f L (h + 1) m (Tr.brT ps cs))) : ∃ p vp vc pl ml G, PlB W b kv.1 L (some ⟨p, 0, none⟩) (.slice none 0 0) ∧ NodT w0 p (.slice none 0 0) vp vc ∧ OwnsP 0 w0 vp pl ∧ OwnsC 0 w0 vc ml ∧ plainCh ml = cs ∧ Kids (Rep h w0) pl ps G := by
  obtain ⟨h1, h2, p, F, h3, h4⟩ := hp
  obtain ⟨vp, vc, pl, ml, G, hn, hop, hoc, e, hk, -⟩ := h4
  exact ⟨p, vp, vc, pl, ml, G, h3, hn, hop, hoc, e, hk⟩
theorem Kids.drop {α : Type} {R : Nat → α → List Nat → Prop} : ∀ (n : Nat) {pl : List (ByteArray × Nat)} {ps : List (Tr.Key × α)} {G : List Nat}, Kids R pl ps G → ∃ G', Kids R (pl.drop n) (ps.drop n) G'
  | 0, _, _, _, h => ⟨_, h⟩
  | _ + 1, [], [], _, _ => ⟨[], rfl⟩
  | n + 1, _ :: _, _ :: _, _, ⟨_, _, _, _, h, _⟩ => Kids.drop n h
  | _ + 1, [], _ :: _, _, h => h.elim
  | _ + 1, _ :: _, [], _, h => h.elim
theorem nodes_at {w0 : World} {h L : Nat} {hi : Option Tr.Key} : ∀ {pl : List (ByteArray × Nat)} {ps : List (Tr.Key × Tr.TreeT h)} {G : List Nat}, Kids (Rep h w0) pl ps G → ∀ (i : Nat) (hi' : i < pl.length), ∃ f m t F, (Tr.nodes L ps hi)[i]? = some (.nd f L h m t) ∧ (pl[i]'hi').1.data.toList = f ∧ Rep h w0 (pl[i]'hi').2 t F
  | x :: pl, (f, t) :: ps, _, ⟨e, G1, G2, h1, h2, _⟩, 0, _ => ⟨f, _, t, G1, rfl, e, h1⟩
  | x :: pl, (f, t) :: ps, _, ⟨e, G1, G2, h1, h2, _⟩, i + 1, hi' => nodes_at h2 i (by simpa using hi')
  | [], _, _, _, _, hi' => by simp at hi'
theorem nodes_len {h L : Nat} {hi : Option Tr.Key} : ∀ (ps : List (Tr.Key × Tr.TreeT h)), (Tr.nodes L ps hi).length = ps.length
  | [] => rfl
  | (f, t) :: r => by rw [Tr.nodes, List.length_cons, List.length_cons, nodes_len r]
theorem take_rev {α : Type} (Q R : List α) {i : Nat} {q : α} (h : Q[i]? = some q) : (Q.take (i + 1)).reverse ++ R = q :: ((Q.take i).reverse ++ R) := by
  rw [List.take_add_one, h]; simp

set_option maxHeartbeats 1000000 in
set_option maxRecDepth 4000 in
theorem sOpenB_any {w0 : World} {sb : Nat} {fr ub : ByteArray} {R : List Tr.Plc} {W : World} (hM : ScM w0 A sb fr ub R W) {b : Nat} {kv : ByteArray × Nat} {f : Tr.Key} {L h : Nat} {m : Option Tr.Key} {ps : List (Tr.Key × Tr.TreeT h)} {cs0 : List Tr.Ch} (hp : PlM w0 A W b kv (.nd f L (h + 1) m (Tr.brT ps cs0))) (htop : ps.length ≤ 4 ∧ cs0.length ≤ 8) (hpos : 0 < ps.length) (hR : R.length ≤ 800000) (hL : L ≤ 1000000000000) (hA : ∀ a ∈ A, a < W.heap.size) :
    Calls Tryz.prog 133 #[.pointer (some ⟨sb, 0, none⟩), .pointer (some ⟨b, 0, none⟩)] W fun r W' => r = .returned (.tuple #[]) ∧ ∃ cs, Tr.Scd fr.data.toList cs0 cs ∧ ScM w0 A sb fr ub (Tr.nodes (L + 1) (ps.drop (Tr.ix (ps.map (·.1)) fr.data.toList)) m ++ (Tr.lay L f m cs ++ R)) W' ∧ Frm sb W W' := by
  obtain ⟨p, vp, vc, pl, ml, G, hb, hn, hop, hoc, he, hk⟩ := nd_branch hp
  have hbel := hM.bel
  have hkeys := hk.keys
  have hpl := hk.len
  have hnW : NodT W p (.slice none 0 0) vp vc := (hbel.block p hn.lt).trans hn
  have hopW : OwnsP 0 W vp pl := row_below hop hbel (Nat.le_refl _)
  obtain ⟨n, hnn⟩ : ∃ n, n = Tr.ix (pkeys pl) fr.data.toList := ⟨_, rfl⟩
  have hnl : n < pl.length := by
    rw [hnn]
    have := ix_lt (pkeys pl) fr.data.toList (by intro q; unfold pkeys at q; rw [List.map_eq_nil_iff] at q; rw [q] at hpl; simp at hpl; omega)
    simpa [pkeys] using this
  rw [← hkeys, ← hnn]
  obtain ⟨G', hkD⟩ := hk.drop n
  obtain ⟨g, cap, rfl, hcap, -, hg0, -, -⟩ := hop.at n hnl
  have HPC : Hid (∀ i (hi : n + i < pl.length), w0.cell? ⟨g, n * 2 + i * 2, none⟩ = some (.string (pl[n + i]'hi).1) ∧ w0.cell? ⟨g, n * 2 + i * 2 + 1, none⟩ = some (.pointer (some ⟨(pl[n + i]'hi).2, 0, none⟩))) := fun i hi => by
    obtain ⟨g', cap', e, -, -, -, x0, x1⟩ := hop.at (n + i) hi
    simp only [Value.slice.injEq, Option.some.injEq, Addr.mk.injEq, and_true, true_and] at e
    obtain ⟨rfl, -⟩ := e
    rw [show (n + i) * 2 = n * 2 + i * 2 by omega] at x0 x1
    exact ⟨x0, x1⟩
  have HNA : Hid (∀ i (hi : n + i < pl.length), ∃ f' m' t' F', (Tr.nodes (L + 1) (ps.drop n) m)[i]? = some (.nd f' (L + 1) h m' t') ∧ (pl[n + i]'hi).1.data.toList = f' ∧ Rep h w0 (pl[n + i]'hi).2 t' F') := fun i hi => by
    have := nodes_at (L := L + 1) (hi := m) hkD i (by rw [List.length_drop]; omega)
    simpa only [List.getElem_drop] using this
  have HQL : Hid ((Tr.nodes (L + 1) (ps.drop n) m).length = pl.length - n) := by show _ = _; rw [nodes_len, List.length_drop, hpl]
  obtain ⟨n0, n1, n2, -⟩ := hnW.cells
  obtain ⟨b0, b1, b2, b3⟩ := hb.cells
  obtain ⟨vs, hsc⟩ := hM.sc
  obtain ⟨s0, s1, s2, s3⟩ := hsc.cells
  have HFI : Hid (∀ k, Calls Tryz.prog 77 #[.pointer (some ⟨p, 0, none⟩), .string fr] (W.drewN k) fun r w' => r = .returned (.int .i64 (n : Nat)) ∧ w' = W.drewN k) := fun k => by
    have := tFind_any p 0 _ _ vc pl fr (W.drewN k) hnW hopW (by omega)
    rw [← hnn] at this
    exact this
  have HTL : Hid (∀ P W', ScM w0 A sb fr ub P W' → W.heap.size ≤ W'.heap.size → P.length ≤ 900000 → Calls Tryz.prog 187 #[.pointer (some ⟨p, 0, none⟩), .string fr] W' fun r W1 => ∃ v, r = .returned v ∧ Below W'.heap.size W' W1 ∧ Calls Tryz.prog 132 #[.pointer (some ⟨sb, 0, none⟩), .int .i64 (L : Nat), v] W1 fun r W2 => r = .returned (.tuple #[]) ∧ ∃ cs, Tr.Scd fr.data.toList cs0 cs ∧ ScM w0 A sb fr ub (Tr.lay L f m cs ++ P) W2 ∧ Frm sb W' W2) := fun P W' hW' hsz' hPl => by
    have := open_tail (il := []) hW' hn (World.ownsRow_nil _ _ _ _) hoc (by rw [← plainCh_len ml, he]; simp; omega) L f m hPl (fun a ha => Nat.lt_of_lt_of_le (hA a ha) hsz')
    rw [show plainCh (([] : List (ByteArray × ByteArray)).map putC ++ ml) = cs0 from he] at this
    exact this
  have HM := hid hM
  have HP := hid hp
  have HSC := hid hsc
  have HG0 := hid hg0
  have c1 : n ≤ pl.length := by omega
  have c2 : ¬ cap = n := by omega
  have c3 : n ≤ cap := by omega
  have hpl4 : pl.length ≤ 4 := by omega
  have xw : IntKind.i64.wrap ((L : Int) + 1) = (L : Int) + 1 := by rw [IntKind.wrap_i64]; omega
  clear hM hp hb hn hop hoc he hk hnW hopW hkD hsc hbel hnn hkeys hpl hpos htop
  generalize hQ : Tr.nodes (L + 1) (ps.drop n) m = Q at *
  go_enter Tryz.func133, Tryz.ntmps133
  go_upto_region 1 with fail
  go_quiet (exact Calls.quiet_of_same (HFI.out _))
  go_wp2_with fail
  go_loopw [23] (fun v23 wr => ∃ i : Nat, v23 = .int .i64 (i : Nat) ∧ i ≤ pl.length - n ∧ ScM w0 A sb fr ub ((Q.take i).reverse ++ R) wr ∧ Frm sb W wr) (fun v23 _ => pl.length - n - (intOf v23).toNat)
  case atStart => exact ⟨0, rfl, Nat.zero_le _, HM.out.below (below_drewN (Below.refl _ W) nq), Frm.below (below_drewN (Below.refl _ W) nq)⟩
  case round =>
    obtain ⟨i, rfl, hi, hS, hF⟩ := hrel
    have HS := hid hS
    have HFR := hid hF
    have hpB := HP.out.frm HSC.out hF
    obtain ⟨q1, q2, qp, qF, hplb, hrp⟩ := hpB
    obtain ⟨y0, y1, y2, y3⟩ := hplb.cells
    obtain ⟨vs', hsc'⟩ := hS.sc
    obtain ⟨z0, z1, z2, z3⟩ := hsc'.cells
    have hblt := hplb.lt
    have hslt := hsc'.lt
    have hPl : ((Q.take i).reverse ++ R).length ≤ 900000 := by rw [List.length_append, List.length_reverse, List.length_take]; omega
    clear hS hF hplb hrp hsc' b0 b1 b2 b3 s0 s1 s2 s3 n0 n1 n2
    by_cases hin : i < pl.length - n
    · have hni : n + i < pl.length := by omega
      obtain ⟨x0, x1⟩ := HPC.out i hni
      have x0' := (HS.out.bel.cell (p := ⟨g, n * 2 + i * 2, none⟩) hg0).trans x0
      have x1' := (HS.out.bel.cell (p := ⟨g, n * 2 + i * 2 + 1, none⟩) hg0).trans x1
      obtain ⟨f', m', t', F', hq, hkey, hrep⟩ := HNA.out i hni
      have HQ := hid hq
      have HKEY := hid hkey
      have HREP := hid hrep
      clear x0 x1 hq hkey hrep
      generalize pl[n + i]'hni = x at *
      obtain ⟨xk, xp⟩ := x
      have hbA : Below wr.heap.size wr (wr.alloc (.cells #[.string xk, .pointer (some ⟨xp, 0, none⟩)] 132)) := (Below.refl _ wr).alloc (Nat.le_refl _) _
      have hA : (wr.alloc (.cells #[.string xk, .pointer (some ⟨xp, 0, none⟩)] 132)).heap[wr.heap.size]? = some (.cells #[.string xk, .pointer (some ⟨xp, 0, none⟩)] 132 (0, 0)) := heap_alloc_new _ _
      have a0 : (wr.alloc (.cells #[.string xk, .pointer (some ⟨xp, 0, none⟩)] 132)).cell? ⟨wr.heap.size, 0, none⟩ = some (.string xk) := cell_blk hA 0
      have a1 : (wr.alloc (.cells #[.string xk, .pointer (some ⟨xp, 0, none⟩)] 132)).cell? ⟨wr.heap.size, 1, none⟩ = some (.pointer (some ⟨xp, 0, none⟩)) := cell_blk hA 1
      have a2 := (hbA.cell (p := ⟨b, 1, none⟩) hblt).trans y1
      have hsA : (wr.alloc (.cells #[.string xk, .pointer (some ⟨xp, 0, none⟩)] 132)).heap.size = wr.heap.size + 1 := by simp
      have hbB : Below wr.heap.size wr ((wr.alloc (.cells #[.string xk, .pointer (some ⟨xp, 0, none⟩)] 132)).alloc (.cells #[.string xk, .int .i64 ((L : Int) + 1), .pointer (some ⟨xp, 0, none⟩), .slice none 0 0] 139)).drew := (hbA.alloc hbA.size _).drew
      have hpb : PlB ((wr.alloc (.cells #[.string xk, .pointer (some ⟨xp, 0, none⟩)] 132)).alloc (.cells #[.string xk, .int .i64 ((L : Int) + 1), .pointer (some ⟨xp, 0, none⟩), .slice none 0 0] 139)).drew (wr.heap.size + 1) xk (L + 1) (some ⟨xp, 0, none⟩) (.slice none 0 0) := by
        have := heap_alloc_new (wr.alloc (.cells #[.string xk, .pointer (some ⟨xp, 0, none⟩)] 132)) (.cells #[.string xk, .int .i64 ((L : Int) + 1), .pointer (some ⟨xp, 0, none⟩), .slice none 0 0] 139)
        rw [hsA] at this
        exact this
      obtain ⟨v9, K9, L9, hS9⟩ := HS.out
      have HPU := hid (push_sc (hS9.below hbB) (b := wr.heap.size + 1) (kv := (xk, L + 1)) (p := .nd f' (L + 1) h m' t') (fun q => by have := hS9.lt _ q; omega) ⟨HKEY.out, rfl, xp, F', hpb, HREP.out⟩ (by rw [hS9.len]; omega))
      have HFB : Hid (Frm sb wr ((wr.alloc (.cells #[.string xk, .pointer (some ⟨xp, 0, none⟩)] 132)).alloc (.cells #[.string xk, .int .i64 ((L : Int) + 1), .pointer (some ⟨xp, 0, none⟩), .slice none 0 0] 139)).drew) := Frm.below hbB
      clear hA hbA hbB hpb hS9 HREP HKEY
      go_upto_region 4 with fail
      go_region_law (go_simp; go_at_call 186; refine HPU.out.mono ?_; rintro r w5 ⟨rfl, hm5, hf5⟩; have HM5 := hid hm5; have HF5 := hid (HFR.out.trans (HFB.out.trans hf5)); clear hm5 hf5)
      all_goals
        go_wp2_with fail
        exact ⟨⟨i + 1, by go_num, by omega, by rw [take_rev Q R HQ.out]; exact HM5.out, HF5.out⟩, by simp [intOf]; omega⟩
    · have hie : i = pl.length - n := by omega
      subst hie
      have HS' : Hid (ScM w0 A sb fr ub (Q.reverse ++ R) wr) := by
        have := HS.out
        rw [List.take_of_length_le (by rw [HQL.out]; exact Nat.le_refl _)] at this
        exact this
      have HT1 := hid (HTL.out _ wr.drew (HS'.out.below ((Below.refl _ wr).drew)) HFR.out.1 (by rw [List.length_append, List.length_reverse, HQL.out]; omega))
      go_upto_region 6 with fail
      go_region_law (first
        | (go_simp; go_at_call 187; refine HT1.out.mono ?_; rintro r w2 ⟨v2, rfl, hb2, hc2⟩; have HC2 := hid hc2; have u1 := (hb2.cell (p := ⟨b, 1, none⟩) hblt).trans y1; have u0 := (hb2.cell (p := ⟨sb, 0, none⟩) hslt).trans z0; clear hb2 hc2)
        | (go_simp; go_at_call 132; refine HC2.out.mono ?_; rintro r w3 ⟨rfl, cs3, hs3, hm3, hf3⟩; have HQ3 := hid hs3; have HM3 := hid hm3; have HF3 : Hid (Frm sb W w3) := HFR.out.trans (Frm.trans (Frm.below (W := wr) ((Below.refl _ wr).drew)) hf3); clear hs3 hm3 hf3))
      all_goals
        go_wp2_with fail
        go_end0
        refine ⟨rfl, cs3, HQ3.out, HM3.out.perm ?_, HF3.out⟩
        have e1 : (Tr.lay L f m cs3 ++ (Q.reverse ++ R)).Perm (Q.reverse ++ (Tr.lay L f m cs3 ++ R)) := by
          rw [← List.append_assoc, ← List.append_assoc]
          exact (List.perm_append_comm).append_right R
        exact e1.trans ((List.reverse_perm Q).append_right _)
end Go.Proofs.YtolgpnaoaodepaaGreat
/- open, of whatever; the walk of next. -/
namespace Go.Proofs.YtolgpnaoaodepaaGreat
open Go.RowKit
variable {A : List Nat}

theorem sOpen_any {w0 : World} {sb : Nat} {fr ub : ByteArray} {R : List Tr.Plc} {W : World} (hM : ScM w0 A sb fr ub R W) {b : Nat} {kv : ByteArray × Nat} {f : Tr.Key} {L h D : Nat} {m : Option Tr.Key} {t : Tr.TreeT h} (hp : PlM w0 A W b kv (.nd f L h m t)) (hok : (Tr.Plc.nd f L h m t).ok fr.data.toList D) (hR : R.length ≤ 800000) (hD : D ≤ 1000000000000) (hA : ∀ a ∈ A, a < W.heap.size) :
    Calls Tryz.prog 133 #[.pointer (some ⟨sb, 0, none⟩), .pointer (some ⟨b, 0, none⟩)] W fun r W' => r = .returned (.tuple #[]) ∧ ∃ cs, Tr.Scd fr.data.toList (Tr.nodeCh h t) cs ∧ ScM w0 A sb fr ub (Tr.kidsFrom fr.data.toList L m h t ++ (Tr.lay L f m cs ++ R)) W' ∧ Frm sb W W' := by
  obtain ⟨hwf, htop, hroom, hLD⟩ := hok
  cases h with
  | zero => exact sOpenL_any hM hp htop hR hA
  | succ h =>
    obtain ⟨ps, cs0⟩ := t
    exact sOpenB_any hM hp htop (chain_some hroom hwf.1) hR (by omega) hA
theorem ScM.more {w0 : World} {sb : Nat} {fr ub : ByteArray} {P : List Tr.Plc} {W : World} (h : ScM w0 A sb fr ub P W) {N : Nat} (hN : W.heap.size ≤ N) : ScM w0 (N :: A) sb fr ub P W := by
  obtain ⟨v, K, L, hS⟩ := h
  refine ⟨v, K, L, hS.hp, hS.pm, fun x hx => ?_, hS.bel, hS.sbn, hS.vn⟩
  have := hS.pl x hx
  obtain ⟨b, p⟩ := x
  cases p using Tr.Plc.twoP with
  | nd f L h' m t => exact this
  | ch L f m c cs =>
    obtain ⟨h1, h2, g, o, cap, ml, cur, h3, h4, h5, h6, h7, h8, h9⟩ := this
    refine ⟨h1, h2, g, o, cap, ml, cur, h3, h4, h5, h6, h7, fun q => ?_, h9⟩
    rcases List.mem_cons.1 q with e | e
    · have := (Array.getElem?_eq_some_iff.1 h5).1; omega
    · exact h8 e
theorem PlM.less {w0 W : World} {b N : Nat} {kv : ByteArray × Nat} {p : Tr.Plc} (h : PlM w0 (N :: A) W b kv p) : PlM w0 A W b kv p := by
  cases p using Tr.Plc.twoP with
  | nd f L h' m t => exact h
  | ch L f m c cs =>
    obtain ⟨h1, h2, g, o, cap, ml, cur, h3, h4, h5, h6, h7, h8, h9⟩ := h
    exact ⟨h1, h2, g, o, cap, ml, cur, h3, h4, h5, h6, h7, fun q => h8 (List.mem_cons_of_mem _ q), h9⟩
theorem ScM.less {w0 : World} {sb : Nat} {fr ub : ByteArray} {P : List Tr.Plc} {W : World} {N : Nat} (h : ScM w0 (N :: A) sb fr ub P W) : ScM w0 A sb fr ub P W := by
  obtain ⟨v, K, L, hS⟩ := h
  exact ⟨v, K, L, hS.hp, hS.pm, fun x hx => (hS.pl x hx).less, hS.bel, hS.sbn, hS.vn⟩
/-- A change's box is written. -/
theorem ScM.set {w0 : World} {sb : Nat} {fr ub : ByteArray} {P : List Tr.Plc} {W W' : World} (h : ScM w0 A sb fr ub P W) {N : Nat} {cur : Array Value} (hN : W.heap[N]? = some (.cells cur 34 (0, 0))) (hNA : N ∈ A) (hNw : w0.heap.size ≤ N) (m : Mod (fun g => g = N) W W') : ScM w0 A sb fr ub P W' := by
  obtain ⟨v, K, L, hS⟩ := h
  have n1 : sb ≠ N := fun e => by have := hS.hp.sc; unfold ScB at this; rw [e, hN] at this; simp at this
  have n2 : v.ownBlock ≠ some N := blk_type hN hS.hp.row (by decide)
  have n3 : ∀ b key lv un ch, PlB W b key lv un ch → b ≠ N := fun b key lv un ch q e => by unfold PlB at q; rw [e, hN] at q; simp at q
  refine ⟨v, K, L, ⟨(m.block sb hS.hp.sc.lt n1).trans hS.hp.sc, row_same hS.hp.row fun g hg hgl => m.block g hgl (fun e => n2 (by rw [← e]; exact hg)), fun b hb => ?_, hS.hp.heap⟩, hS.pm, fun x hx => ?_, hS.bel.trans (m.below hS.bel.size fun k e => by rw [e]; exact hNw), hS.sbn, hS.vn⟩
  · obtain ⟨u, c, q⟩ := hS.hp.pl b hb
    exact ⟨u, c, (m.block b q.lt (n3 _ _ _ _ _ q)).trans q⟩
  · have := hS.pl x hx
    obtain ⟨b, p⟩ := x
    cases p using Tr.Plc.twoP with
    | nd f L h' m' t =>
      obtain ⟨h1, h2, p, F, h3, h4⟩ := this
      exact ⟨h1, h2, p, F, (m.block b h3.lt (n3 _ _ _ _ _ h3)).trans h3, h4⟩
    | ch L f m' c cs =>
      obtain ⟨h1, h2, g, o, cap, ml, cur', h3, h4, h5, h6, h7, h8, h9⟩ := this
      have hkg := m.block g (Array.getElem?_eq_some_iff.1 h5).1 (fun e => h8 (by rw [e]; exact hNA))
      exact ⟨h1, h2, g, o, cap, ml, cur', (m.block b h3.lt (n3 _ _ _ _ _ h3)).trans h3, h4, hkg.trans h5, fun j u hj => (World.cell?_of_block (w := W) (a := ⟨g, o + j, none⟩) hkg).trans (h6 j u hj), h7, h8, h9⟩
theorem ChB.put {w : World} {b : Nat} {k : Int} {key x : ByteArray} (h : ChB w b k key x) (k' : Int) (key' x' : ByteArray) : ChB (((w.setCell ⟨b, 0, none⟩ (.int .i64 k')).setCell ⟨b, 1, none⟩ (.string key')).setCell ⟨b, 2, none⟩ (.string x')) b k' key' x' := by
  unfold ChB at *
  have h1 := heap_setCell_at (i := 0) h (.int .i64 k')
  have h2 := heap_setCell_at (i := 1) h1 (.string key')
  have h3 := heap_setCell_at (i := 2) h2 (.string x')
  rw [h3]; rfl
theorem Frm.set {sb N : Nat} {W W' W'' : World} (h : Frm sb W W') (hN : W.heap.size ≤ N) (m : Mod (fun g => g = N) W' W'') : Frm sb W W'' := ⟨Nat.le_trans h.1 m.size, fun g cs T hg hT hs => by
  have h1 := h.2 g cs T hg hT hs
  have hgl := (Array.getElem?_eq_some_iff.1 hg).1
  exact (m.block g (Array.getElem?_eq_some_iff.1 h1).1 (by omega)).trans h1⟩
theorem min_fun {α β : Type} (I : α → β → Prop) (sz : β → Nat) : ∃ μ : α → Nat, (∀ a b, I a b → μ a ≤ sz b) ∧ ∀ a, (∃ b, I a b) → ∃ b, I a b ∧ sz b = μ a := by
  have h : ∀ a, ∃ n, (∀ b, I a b → n ≤ sz b) ∧ ((∃ b, I a b) → ∃ b, I a b ∧ sz b = n) := fun a => by
    by_cases he : ∃ b, I a b
    · obtain ⟨b, hb⟩ := he
      generalize hn : sz b = n
      induction n using Nat.strongRecOn generalizing b with
      | ind n ih =>
        by_cases hl : ∃ c, I a c ∧ sz c < n
        · obtain ⟨c, hc, hcn⟩ := hl
          exact ih (sz c) hcn c hc rfl
        · exact ⟨n, fun c hc => Nat.le_of_not_lt fun q => hl ⟨c, hc, q⟩, fun _ => ⟨b, hb, hn⟩⟩
    · exact ⟨0, fun b hb => absurd ⟨b, hb⟩ he, fun q => absurd q he⟩
  obtain ⟨μ, hμ⟩ := Classical.skolem.1 h
  exact ⟨μ, fun a => (hμ a).1, fun a => (hμ a).2⟩
/-- A scan's next is sought. -/
structure NxI (w0 : World) (A : List Nat) (sb : Nat) (fr ub : ByteArray) (D : Nat) (P : List Tr.Plc) (W wr : World) (P1 : List Tr.Plc) : Prop where
  op : Tr.Opened fr.data.toList D P P1
  wt : Tr.wtP P1 ≤ Tr.wtP P
  sc : ScM w0 A sb fr ub P1 wr
  frm : Frm sb W wr
/-- What next tells. -/
def NxQ (w0 : World) (A : List Nat) (sb : Nat) (fr ub : ByteArray) (D : Nat) (P : List Tr.Plc) (W : World) (r : Ending) (W' : World) : Prop :=
  (∃ k key x P', r = .returned (.tuple #[.agg #[.int .i64 k, .string key, .string x], .bool true]) ∧ Tr.NextS fr.data.toList ub.data.toList D P (chP k key x) P' ∧ Tr.wtP P' ≤ Tr.wtP P ∧ ScM w0 A sb fr ub P' W' ∧ Frm sb W W') ∨
  (∃ k key x, r = .returned (.tuple #[.agg #[.int .i64 k, .string key, .string x], .bool false]) ∧ Tr.NextN fr.data.toList ub.data.toList D P ∧ Below w0.heap.size w0 W' ∧ Frm sb W W')
theorem NxI.pop {w0 : World} {sb : Nat} {fr ub : ByteArray} {D : Nat} {P : List Tr.Plc} {W wr : World} {P1 : List Tr.Plc} (h : NxI w0 A sb fr ub D P W wr P1) {p : Tr.Plc} {R : List Tr.Plc} (hp : P1.Perm (p :: R)) : Tr.Opened fr.data.toList D P (p :: R) ∧ Tr.wtP (p :: R) ≤ Tr.wtP P := ⟨h.op.perm hp, by rw [← Tr.wtP_perm hp]; exact h.wt⟩

set_option maxHeartbeats 2000000 in
set_option maxRecDepth 4000 in
theorem sNext_any {w0 : World} {sb : Nat} {fr ub : ByteArray} {D : Nat} {P : List Tr.Plc} {W : World} (hM : ScM w0 A sb fr ub P W) (hinv : Tr.SInv fr.data.toList D P) (hwt : Tr.wtP P ≤ 90000) (hD : D ≤ 1000000000000) (hA : ∀ a ∈ A, a < W.heap.size) :
    Calls Tryz.prog 68 #[.pointer (some ⟨sb, 0, none⟩)] W (NxQ w0 A sb fr ub D P W) := by
  obtain ⟨μ, hμ1, hμ2⟩ := min_fun (NxI w0 (W.heap.size :: A) sb fr ub D P W) Tr.size
  have HM1 := hid hμ1
  have HM2 := hid hμ2
  have hb0 : Below W.heap.size W (W.alloc (.cells #[.int .i64 0, .string ⟨#[]⟩, .string ⟨#[]⟩] 34)) := (Below.refl _ W).alloc (Nat.le_refl _) _
  have HBX : Hid (ChB (W.alloc (.cells #[.int .i64 0, .string ⟨#[]⟩, .string ⟨#[]⟩] 34)) W.heap.size 0 ⟨#[]⟩ ⟨#[]⟩) := heap_alloc_new _ _
  have H0 : Hid (NxI w0 (W.heap.size :: A) sb fr ub D P W (W.alloc (.cells #[.int .i64 0, .string ⟨#[]⟩, .string ⟨#[]⟩] 34)) P) := ⟨Tr.Opened.start hinv, Nat.le_refl _, (hM.more (Nat.le_refl _)).below hb0, Frm.below hb0⟩
  have HSB : Hid (sb < W.heap.size) := by obtain ⟨v, hv⟩ := hM.sc; exact hv.lt
  have HWN : Hid (w0.heap.size ≤ W.heap.size) := hM.bel.size
  clear hμ1 hμ2 hM hb0
  go_enter Tryz.func68, Tryz.ntmps68
  go_wp2_with fail
  go_loopw [4] (fun _ wr => (∃ P1, NxI w0 (W.heap.size :: A) sb fr ub D P W wr P1) ∧ ChB wr W.heap.size 0 ⟨#[]⟩ ⟨#[]⟩) (fun _ wr => μ wr)
  case atStart => exact ⟨⟨P, H0.out⟩, HBX.out⟩
  case round =>
    obtain ⟨hrel, hbx⟩ := hrel
    obtain ⟨P1, hI, hsz⟩ := HM2.out wr hrel
    have HI := hid hI
    have HSZ := hid hsz
    obtain ⟨v1, K1, L1, hS⟩ := hI.sc
    have HS := hid hS
    obtain ⟨a1, c1, rfl⟩ := rowShape hS.hp.row
    obtain ⟨s0, s1, s2, s3⟩ := hS.hp.sc.cells
    rw [List.length_map, hS.len] at s2
    have hlenP : P1.length ≤ 90000 := Nat.le_trans (Tr.wtP_len hI.op.inv.ok) (Nat.le_trans hI.wt hwt)
    have HBW := hid hbx
    have HFW := hid hI.frm
    obtain ⟨d0, d1, d2⟩ := hbx.cells
    obtain ⟨e0, e1, e2⟩ := (show wr.frozen? ⟨W.heap.size, 0, none⟩ = false ∧ wr.frozen? ⟨W.heap.size, 1, none⟩ = false ∧ wr.frozen? ⟨W.heap.size, 2, none⟩ = false by unfold ChB at hbx; refine ⟨?_, ?_, ?_⟩ <;> simp [World.frozen?, hbx])
    clear hI hS hrel hbx hsz HBX
    by_cases hz : P1.length = 0
    · have hP1 : P1 = [] := List.eq_nil_of_length_eq_zero hz
      rw [hz] at s2
      have HN : Hid (Tr.NextN fr.data.toList ub.data.toList D P) := by
        have := HI.out.op
        rw [hP1] at this
        exact this.none
      have hm := Mod.set3 wr W.heap.size 0 (.int .i64 0) (.string ⟨#[]⟩) (.string ⟨#[]⟩)
      have HBE : Hid (Below w0.heap.size w0 (((wr.setCell ⟨W.heap.size, 0, none⟩ (.int .i64 0)).setCell ⟨W.heap.size, 1, none⟩ (.string ⟨#[]⟩)).setCell ⟨W.heap.size, 2, none⟩ (.string ⟨#[]⟩))) := HI.out.sc.bel.trans (hm.below HI.out.sc.bel.size fun k e => by rw [e]; exact HWN.out)
      have HFE := hid (HFW.out.set (Nat.le_refl _) hm)
      have HCE := hid (HBW.out.put 0 ⟨#[]⟩ ⟨#[]⟩)
      clear hm
      go_wp2_with fail
      obtain ⟨g0, g1, g2⟩ := HCE.out.cells
      refine bodyPost_ret (v := .tuple #[.agg #[.int .i64 0, .string ⟨#[]⟩, .string ⟨#[]⟩], .bool false]) ?_ rfl (.inr ⟨0, ⟨#[]⟩, ⟨#[]⟩, rfl, HN.out, HBE.out, HFE.out⟩)
      simp [results, Tryz.results68, go_sem, g0, g1, g2]
    · have hpos : (0 : Int) < (P1.length : Int) := by omega
      have HPO := hid (pop_sc HS.out (by rw [HS.out.len]; omega) (by rw [HS.out.len]; omega))
      have hta := fun W' (bb : Nat) => assertPt (some ⟨bb, 0, none⟩) W'
      go_wp2_with fail
      refine HPO.out.mono ?_
      rintro r w2 ⟨b, pp, R, v2, L2, rfl, hpm, hmin, hS2, hpl, hf2⟩
      have hta2 := hta w2 b
      obtain ⟨hop, hwt1⟩ := HI.out.pop hpm
      have HOP := hid hop
      have HWT1 := hid hwt1
      have HMIN := hid hmin
      have HS2 : Hid (ScM w0 (W.heap.size :: A) sb fr ub R w2) := ⟨v2, K1, L2, hS2⟩
      have HPL := hid hpl
      have HF2 := hid (HFW.out.trans hf2)
      have hbx2 : ChB w2 W.heap.size 0 ⟨#[]⟩ ⟨#[]⟩ := hf2.2 _ _ _ HBW.out (by decide) (by have := HSB.out; omega)
      have HBX2 := hid hbx2
      have HLT : Hid (∀ P2, Tr.size P2 < Tr.size (pp :: R) → Tr.size P2 < μ wr) := fun P2 h => by
        rw [← HSZ.out, Tr.size_perm hpm]; exact h
      obtain ⟨⟨un, ch, hplb⟩, hkey, hlv⟩ := hpl.plb
      obtain ⟨p0, p1, p2, p3⟩ := hplb.cells
      obtain ⟨t0, t1, t2, t3⟩ := hS2.hp.sc.cells
      have HKE := hid hkey
      clear hpm hmin hS2 hpl hf2 hbx2 hop hwt1 hplb hkey hlv s0 s1 s2 s3 d0 d1 d2 e0 e1 e2 HPO HS HI HFW HBW
      have HCASE : Hid (ub.data.toList = [] ∨ (ub.data.toList ≠ [] ∧ (K1 b).1.data.toList < ub.data.toList) ∨ (ub.data.toList ≠ [] ∧ ¬ (K1 b).1.data.toList < ub.data.toList)) := by
        by_cases q1 : ub.data.toList = []
        · exact .inl q1
        · by_cases q2 : (K1 b).1.data.toList < ub.data.toList
          · exact .inr (.inl ⟨q1, q2⟩)
          · exact .inr (.inr ⟨q1, q2⟩)
      have hdz : decide (0 < P1.length) = true := decide_eq_true (by omega)
      obtain ⟨d0, d1, d2⟩ := HBX2.out.cells
      have hfz : ∀ o, w2.frozen? ⟨W.heap.size, o, none⟩ = false := fun o => by
        have := HBX2.out
        unfold ChB at this
        simp [World.frozen?, this]
      have hRl : R.length ≤ 90000 := by
        have h1 := Tr.wtP_len HOP.out.inv.ok
        have h2 := HWT1.out
        rw [List.length_cons] at h1
        omega
      have hA2 : ∀ a ∈ W.heap.size :: A, a < w2.heap.size := fun a ha => by
        have := HBX2.out.lt
        rcases List.mem_cons.1 ha with e | e
        · omega
        · have := hA a e; omega
      rcases HCASE.out with q1 | ⟨q1, q2⟩ | ⟨q1, q2⟩
      case inr.inr =>
        have HTO : Hid (¬ Tr.inTo ub.data.toList pp.key) := fun z => z.elim q1 (fun z => q2 (by rw [HKE.out]; exact z))
        have r1 : (ub.toList == []) = false := by rw [toList_is]; simpa using q1
        have r2 : Op.bytesLess (K1 b).1.toList ub.toList = false := by rw [toList_is, toList_is, less_is]; exact decide_eq_false q2
        have HN := hid (HOP.out.stop HMIN.out HTO.out)
        go_upto_region 3 with fail
        go_quiet (fail)
        have hbd : Below w2.heap.size w2 (w2.drewN nq) := below_drewN (Below.refl _ w2) nq
        have hm := Mod.set3 (w2.drewN nq) W.heap.size 0 (.int .i64 0) (.string ⟨#[]⟩) (.string ⟨#[]⟩)
        have HBE : Hid (Below w0.heap.size w0 ((((w2.drewN nq).setCell ⟨W.heap.size, 0, none⟩ (.int .i64 0)).setCell ⟨W.heap.size, 1, none⟩ (.string ⟨#[]⟩)).setCell ⟨W.heap.size, 2, none⟩ (.string ⟨#[]⟩))) := (HS2.out.bel.trans (hbd.mono HS2.out.bel.size)).trans (hm.below (Nat.le_trans HS2.out.bel.size hbd.size) fun k e => by rw [e]; exact HWN.out)
        have HFE := hid ((HF2.out.trans (Frm.below hbd)).set (Nat.le_refl _) hm)
        have HCE : Hid (ChB ((((w2.drewN nq).setCell ⟨W.heap.size, 0, none⟩ (.int .i64 0)).setCell ⟨W.heap.size, 1, none⟩ (.string ⟨#[]⟩)).setCell ⟨W.heap.size, 2, none⟩ (.string ⟨#[]⟩)) W.heap.size 0 ⟨#[]⟩ ⟨#[]⟩) := ChB.put (w := w2.drewN nq) HBX2.out 0 ⟨#[]⟩ ⟨#[]⟩
        clear hm hbd
        go_wp2_with fail
        obtain ⟨g0, g1, g2⟩ := HCE.out.cells
        refine bodyPost_ret (v := .tuple #[.agg #[.int .i64 0, .string ⟨#[]⟩, .string ⟨#[]⟩], .bool false]) ?_ rfl (.inr ⟨0, ⟨#[]⟩, ⟨#[]⟩, rfl, HN.out, HBE.out, HFE.out⟩)
        simp [results, Tryz.results68, go_sem, g0, g1, g2]
      case' inl =>
        have HTO : Hid (Tr.inTo ub.data.toList pp.key) := .inl q1
        have r1 : (ub.toList == []) = true := by rw [toList_is]; simpa using q1
        go_upto_region 3 with fail
        go_quiet (fail)
      case' inr.inl =>
        have HTO : Hid (Tr.inTo ub.data.toList pp.key) := .inr (by rw [← HKE.out]; exact q2)
        have r1 : (ub.toList == []) = false := by rw [toList_is]; simpa using q1
        have r2 : Op.bytesLess (K1 b).1.toList ub.toList = true := by rw [toList_is, toList_is, less_is]; exact decide_eq_true q2
        go_upto_region 3 with fail
        go_quiet (fail)
      all_goals
        have hbd : Below w2.heap.size w2 (w2.drewN nq) := below_drewN (Below.refl _ w2) nq
        clear p0 p1 p2 p3
        cases pp using Tr.Plc.twoP with
        | nd f L h m t =>
          obtain ⟨h1, h2, p, F, h3, h4⟩ := HPL.out
          obtain ⟨p0, p1, p2, p3⟩ := h3.cells
          obtain ⟨vq, hvq⟩ := HS2.out.sc
          have HON := hid (sOpen_any (HS2.out.below hbd) (HPL.out.frm hvq (Frm.below hbd)) (HOP.out.inv.ok _ (List.mem_cons_self ..)) (by omega) hD hA2)
          have HOK := hid (HOP.out.inv.ok _ (List.mem_cons_self ..))
          clear h1 h2 h3 h4 hvq
          go_wp2_with fail
          refine HON.out.mono ?_
          rintro r w4 ⟨rfl, cs, hs, hm4, hf4⟩
          obtain ⟨ho4, hz4⟩ := HOP.out.open' hs
          have HI4 : Hid (NxI w0 (W.heap.size :: A) sb fr ub D P W w4 (Tr.kidsFrom fr.data.toList L m h t ++ (Tr.lay L f m cs ++ R))) := ⟨ho4, Nat.le_trans (Tr.wtP_open HOK.out hs) HWT1.out, hm4, (HF2.out.trans (Frm.below hbd)).trans hf4⟩
          have HB4 : Hid (ChB w4 W.heap.size 0 ⟨#[]⟩ ⟨#[]⟩) := hf4.2 _ _ _ HBX2.out (by decide) (by have := HSB.out; omega)
          have HZ4 := hid (Nat.lt_of_le_of_lt (HM1.out w4 _ HI4.out) (HLT.out _ hz4))
          clear hs hm4 hf4 ho4 hz4 HON
          go_wp2_with fail
          exact ⟨⟨⟨_, HI4.out⟩, HB4.out⟩, HZ4.out⟩
        | ch L f m c cs =>
          obtain ⟨h1, h2, g, o, cap, ml, cur, h3, h4, h5, h6, h7, h8, h9⟩ := HPL.out
          obtain ⟨c0, ml', rfl⟩ : ∃ c0 ml', ml = c0 :: ml' := by
            cases ml with
            | nil => cases h4
            | cons c0 r => exact ⟨c0, r, rfl⟩
          have h4' : (c0.1, c0.2.1.data.toList, c0.2.2.data.toList) = c ∧ plainCh ml' = cs := by
            have := List.cons.inj h4
            exact ⟨this.1, this.2⟩
          obtain ⟨ec, ecs⟩ := h4'
          obtain ⟨p0, p1, p2, p3⟩ := h3.cells
          obtain ⟨ck, ckey, cx⟩ := c0
          have x0 := h6 0 _ rfl
          have x1 := h6 1 _ rfl
          have x2 := h6 2 _ rfl
          rw [Nat.add_zero] at x0
          have hbe : Below w2.heap.size w2 (w2.drewN nq).drew := hbd.drew
          obtain ⟨ad, had, hadn⟩ : ∃ ad : Addr, (if cap = 1 then some (⟨g, o, none⟩ : Addr) else some ⟨g, o + 3, none⟩) = some ad ∧ (¬ cap = 1 → ad = ⟨g, o + 3, none⟩) := by
            by_cases e : cap = 1
            · exact ⟨_, if_pos e, fun q => absurd e q⟩
            · exact ⟨_, if_neg e, fun _ => rfl⟩
          have hkg := hbe.block g (Array.getElem?_eq_some_iff.1 h5).1
          rw [List.length_cons] at h7 h9 p3
          have hlc : LayC (W.heap.size :: A) (w2.drewN nq).drew (.slice (some ad) ml'.length (cap - 1)) ml' := by
            by_cases e : cap = 1
            · have hm0 : ml' = [] := List.eq_nil_of_length_eq_zero (by omega)
              subst hm0
              exact .inl ⟨rfl, _, _, rfl⟩
            · rw [hadn e]
              cases ml' with
              | nil => exact .inl ⟨rfl, _, _, rfl⟩
              | cons d r => exact .inr ⟨by simp, g, o + 3, cap - 1, cur, rfl, by rw [List.length_cons] at h7 ⊢; omega, hkg.trans h5, h8, fun j u hj => (World.cell?_of_block (w := w2) (a := ⟨g, o + 3 + j, none⟩) hkg).trans (by have := h6 (3 + j) u (by show (Value.int .i64 ck :: Value.string ckey :: Value.string cx :: ccells (d :: r))[3 + j]? = _; rw [show 3 + j = j + 3 by omega]; exact hj); rw [← Nat.add_assoc] at this; exact this)⟩
          have HLY := hid (sLay_any (HS2.out.below hbe) L f m (.slice (some ad) ml'.length (cap - 1)) ml' hlc (by omega) (by omega))
          have HTK : Hid (∀ P', P'.Perm (Tr.lay L f m cs ++ R) → Tr.NextS fr.data.toList ub.data.toList D P c P') := fun P' hp' => HOP.out.take HMIN.out HTO.out hp'
          have HWL : Hid (Tr.wtP (Tr.lay L f m cs ++ R) ≤ Tr.wtP P) := by
            show _ ≤ _
            have h1 := HWT1.out
            rw [Tr.wtP_cons] at h1
            rw [Tr.wtP_append]
            have h2 := (Tr.wtP_lay L f m cs).2
            have h3 : (Tr.Plc.ch L f m c cs).wt = 1 := rfl
            omega
          have HEC := hid ec
          have HECS := hid ecs
          have HFD := hid (HF2.out.trans (Frm.below hbe))
          have H5 := hid h5
          have HP3 := hid h3
          have hgs : g ≠ sb := fun e => by
            obtain ⟨vq, hvq⟩ := HS2.out.sc
            unfold ScB at hvq; rw [← e, h5] at hvq; simp at hvq
          have hbs : b ≠ sb := by obtain ⟨vq, hvq⟩ := HS2.out.sc; exact h3.ne hvq
          have b1 : (1 : Int) ≤ (ml'.length : Int) + 1 := by omega
          have b2 : 1 ≤ ml'.length + 1 := by omega
          have b3 : 1 ≤ cap := by omega
          have b4 : ml'.length + 1 ≤ cap := h7
          clear hlc hkg h1 h2 h3 h4 h5 h6 h8 h9 ec ecs hadn hbe
          go_upto_region 5 with fail
          go_region_law (go_simp; go_at_call 132; refine HLY.out.mono ?_; rintro r w4 ⟨rfl, hm4, hf4⟩; have HM4 := hid hm4; have HF4 := hid hf4; clear hm4 hf4)
          all_goals
            have hc4 : ChB w4 W.heap.size 0 ⟨#[]⟩ ⟨#[]⟩ := HF4.out.2 _ _ _ HBX2.out (by decide) (by have := HSB.out; omega)
            have hp4 : PlB w4 b (K1 b).1 L none (.slice (some ⟨g, o, none⟩) (ml'.length + 1) cap) := HF4.out.2 _ _ _ HP3.out (by decide) hbs
            have hg4 := HF4.out.2 _ _ _ H5.out (by decide) hgs
            have hkg4 : w4.heap[g]? = w2.heap[g]? := hg4.trans H5.out.symm
            have y0 := (World.cell?_of_block (w := w2) (a := ⟨g, o, none⟩) hkg4).trans x0
            have y1 := (World.cell?_of_block (w := w2) (a := ⟨g, o + 1, none⟩) hkg4).trans x1
            have y2 := (World.cell?_of_block (w := w2) (a := ⟨g, o + 2, none⟩) hkg4).trans x2
            obtain ⟨l0, l1, l2, l3⟩ := hp4.cells
            obtain ⟨k0, k1, k2⟩ := hc4.cells
            have hfz4 : ∀ o, w4.frozen? ⟨W.heap.size, o, none⟩ = false := fun o => by
              unfold ChB at hc4
              simp [World.frozen?, hc4]
            have hm := Mod.set3 w4 W.heap.size 0 (.int .i64 ck) (.string ckey) (.string cx)
            have HCE := hid (hc4.put ck ckey cx)
            have HSE := hid ((HM4.out.set hc4 (List.mem_cons_self ..) HWN.out hm).less)
            have HFE := hid ((HFD.out.trans HF4.out).set (Nat.le_refl _) hm)
            clear hc4 hp4 hg4 hkg4 hm x0 x1 x2 p0 p1 p2 p3 d0 d1 d2 t0 t1 t2 t3
            go_wp2_with fail
            obtain ⟨g0, g1, g2⟩ := HCE.out.cells
            have hse := HSE.out
            rw [HECS.out] at hse
            have hnx := HTK.out (Tr.lay L f m cs ++ R) (List.Perm.refl _)
            rw [← HEC.out] at hnx
            refine bodyPost_ret (v := .tuple #[.agg #[.int .i64 ck, .string ckey, .string cx], .bool true]) ?_ rfl (.inl ⟨ck, ckey, cx, Tr.lay L f m cs ++ R, rfl, hnx, HWL.out, hse, HFE.out⟩)
            simp [results, Tryz.results68, go_sem, g0, g1, g2]
end Go.Proofs.YtolgpnaoaodepaaGreat
