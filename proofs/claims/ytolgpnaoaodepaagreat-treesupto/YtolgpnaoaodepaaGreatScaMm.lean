/- appendItem; what changesFrom's functions tell. -/
import Derived.Test.YtolgpnaoaodepaaGreatSilAm
import Derived.Test.YtolgpnaoaodepaaGreatTreZFm
import Derived.Test.YtolgpnaoaodepaaGreatLawSm
namespace Go.Proofs.YtolgpnaoaodepaaGreat
open Go.RowKit

def addB (il : List (ByteArray × ByteArray)) (key : ByteArray) : Option (List UInt8) → List (ByteArray × ByteArray)
  | none => il
  | some x => il ++ [(key, ⟨x.toArray⟩)]

set_option maxHeartbeats 400000 in
set_option maxRecDepth 4000 in
theorem appendItem_any (s : Option (List UInt8)) (B : Nat) (v : Value) (il : List (ByteArray × ByteArray)) (key : ByteArray) (w : World) (h : OwnsI B w v il) (hB : B ≤ w.heap.size) (hl : il.length ≤ 10000000) :
    Calls Tryz.prog 69 #[.agg #[.string (stV s), .bool (stB s)], v, .string key] w fun r w' => ∃ v', r = .returned v' ∧ OwnsI B w' v' (addB il key s) ∧ Below B w w' ∧ w.grownBy w' v.ownBlock ∧ (v'.ownBlock = v.ownBlock ∨ ∃ k, w.heap.size ≤ k ∧ v'.ownBlock = some k) := by
  have hb1 : Below w.heap.size w (w.alloc (.cells #[.string (stV s), .bool (stB s)] 136)) := (Below.refl _ w).alloc (Nat.le_refl _) _
  have hx : StB (w.alloc (.cells #[.string (stV s), .bool (stB s)] 136)) w.heap.size (stV s) (stB s) := heap_alloc_new _ _
  have H1 : Hid (OwnsI B (w.alloc (.cells #[.string (stV s), .bool (stB s)] 136)) v il) := h.alloc _
  obtain ⟨c0, c1, -, -⟩ := hx.cells
  have HB := hid hb1
  have hz : (w.alloc (.cells #[.string (stV s), .bool (stB s)] 136)).heap.size = w.heap.size + 1 := by simp
  cases s with
  | none =>
    have e1 : stB none = false := rfl
    rw [e1] at c1
    clear hx h hb1
    go_enter Tryz.func69, Tryz.ntmps69
    go_wp2_with fail
    go_ret
    exact ⟨_, rfl, H1.out, HB.out.mono hB, ⟨HB.out.os, HB.out.tape, HB.out.output, HB.out.size, fun k hk _ => HB.out.block k hk⟩, .inl rfl⟩
  | some x =>
    have e1 : stB (some x) = true := rfl
    rw [e1] at c1 c0 H1 HB hz ⊢
    have HSV : Hid (stV (some x) = ⟨x.toArray⟩) := rfl
    clear hx h hb1
    generalize stV (some x) = sv at *
    go_enter Tryz.func69, Tryz.ntmps69
    go_wp2_with (at_builtin; refine wpApG (w.alloc (.cells #[.string sv, .bool true] 136)) rfl (.tmp 11) (.tmp 16) 30 51 Tryz.underlying30 _ 2 32 info_item rfl (by decide) (by decide) rfl B v il.length (icells il) rfl H1.out [.string key, .string sv] rfl (by intro u hu; simp at hu; rcases hu with rfl | rfl <;> rfl) (by simp [Act.eval]) (by omega) (by omega) ?_; intro v2 w2 ho2 hg2 hb2)
    have HF : Hid (OwnsI B w2 v2 (addB il key (some x)) ∧ Below B w w2 ∧ w.grownBy w2 v.ownBlock ∧ (v2.ownBlock = v.ownBlock ∨ ∃ k, w.heap.size ≤ k ∧ v2.ownBlock = some k)) := by
      refine ⟨?_, ((HB.out.mono hB).grown hg2 (by omega) fun k hk => (World.ownsRow.lt H1.out k hk).1), ?_, hb2.imp id (fun ⟨k, hk, e⟩ => ⟨k, by omega, e⟩)⟩
      · show OwnsI B w2 v2 (il ++ [(key, ⟨x.toArray⟩)])
        unfold OwnsI
        rw [List.length_append, icells_snoc, ← HSV.out]
        exact ho2
      · exact ⟨hg2.os.trans HB.out.os, hg2.tape.trans HB.out.tape, hg2.output.trans HB.out.output, Nat.le_trans HB.out.size hg2.size, fun k hk hne => (hg2.block k (by omega) hne).trans (HB.out.block k hk)⟩
    clear ho2 hg2 hb2
    go_wp2_with fail
    go_ret
    exact ⟨_, rfl, HF.out⟩
theorem plain_addB (il : List (ByteArray × ByteArray)) (key : ByteArray) (s : Option (List UInt8)) : plain (addB il key s) = plain il ++ (s.map fun v => (key.data.toList, v)).toList := by
  cases s with
  | none => simp [addB]
  | some x => simp [addB, plain]

set_option maxHeartbeats 400000 in
/-- Is a change's key ahead? -/
theorem ahead_any (k : Int) (key x fr : ByteArray) (fb : Nat) (w : World) (hf : w.cell? ⟨fb, 0, none⟩ = some (.string fr)) (hlt : fb < w.heap.size) :
    Calls Tryz.prog 238 #[.agg #[.int .i64 k, .string key, .string x], .pointer (some ⟨fb, 0, none⟩)] w fun r w' => r = .returned (.bool (decide (key.data.toList < fr.data.toList))) ∧ Below w.heap.size w w' := by
  have hb1 : Below w.heap.size w (w.alloc (.cells #[.int .i64 k, .string key, .string x] 34)) := (Below.refl _ w).alloc (Nat.le_refl _) _
  have hx : ChB (w.alloc (.cells #[.int .i64 k, .string key, .string x] 34)) w.heap.size k key x := heap_alloc_new _ _
  obtain ⟨c0, c1, c2⟩ := hx.cells
  have hf1 := (hb1.cell (p := ⟨fb, 0, none⟩) hlt).trans hf
  have HB := hid hb1
  clear hb1 hx
  go_enter Tryz.func238, Tryz.ntmps238
  go_wp2_with fail
  go_ret
  refine ⟨?_, HB.out⟩
  show Ending.returned (.bool (Op.bytesLess key.toList fr.toList)) = _
  rw [toList_is, toList_is, less_is]
set_option maxHeartbeats 400000 in
theorem order_any (k1 k2 : Int) (key1 x1 key2 x2 : ByteArray) (w : World) :
    Calls Tryz.prog 240 #[.agg #[.int .i64 k1, .string key1, .string x1], .agg #[.int .i64 k2, .string key2, .string x2]] w fun r w' => r = .returned (.int .i64 (Lib.compareBytes key1.data.toList key2.data.toList)) ∧ Below w.heap.size w w' := by
  have hx1 : ChB (w.alloc (.cells #[.int .i64 k1, .string key1, .string x1] 34)) w.heap.size k1 key1 x1 := heap_alloc_new _ _
  have hb1 : Below w.heap.size w (w.alloc (.cells #[.int .i64 k1, .string key1, .string x1] 34)) := (Below.refl _ w).alloc (Nat.le_refl _) _
  have hb2 : Below w.heap.size w ((w.alloc (.cells #[.int .i64 k1, .string key1, .string x1] 34)).alloc (.cells #[.int .i64 k2, .string key2, .string x2] 34)) := hb1.alloc hb1.size _
  have hx2 : ChB ((w.alloc (.cells #[.int .i64 k1, .string key1, .string x1] 34)).alloc (.cells #[.int .i64 k2, .string key2, .string x2] 34)) (w.heap.size + 1) k2 key2 x2 := by
    have := heap_alloc_new (w.alloc (.cells #[.int .i64 k1, .string key1, .string x1] 34)) (.cells #[.int .i64 k2, .string key2, .string x2] 34)
    rw [show (w.alloc (.cells #[.int .i64 k1, .string key1, .string x1] 34)).heap.size = w.heap.size + 1 by simp] at this
    exact this
  have hx1' : ChB ((w.alloc (.cells #[.int .i64 k1, .string key1, .string x1] 34)).alloc (.cells #[.int .i64 k2, .string key2, .string x2] 34)) w.heap.size k1 key1 x1 := by
    have hb := (Below.refl (w.heap.size + 1) (w.alloc (.cells #[.int .i64 k1, .string key1, .string x1] 34))).alloc (by simp) (.cells #[.int .i64 k2, .string key2, .string x2] 34)
    exact (hb.block _ (by omega)).trans hx1
  obtain ⟨c0, c1, c2⟩ := hx1'.cells
  obtain ⟨d0, d1, d2⟩ := hx2.cells
  have HB := hid hb2
  clear hx1 hb1 hb2 hx2 hx1'
  go_enter Tryz.func240, Tryz.ntmps240
  go_wp2_with fail
  refine (compare_any key1 key2 _).mono ?_
  rintro r w2 ⟨rfl, rfl⟩
  go_wp2_with fail
  go_ret
  exact ⟨rfl, HB.out⟩
end Go.Proofs.YtolgpnaoaodepaaGreat
/- A scan: what is left of a key's changes, level by level. -/
namespace Go.Proofs.YtolgpnaoaodepaaGreat.Tr

def hasKey (k : Key) (c : Ch) : Bool := decide (c.2.1 = k)
/-- The changes of a key in the nodes that are so far below. -/
def lev : (h : Nat) → TreeT h → Nat → Key → List Ch
  | 0, l, 0, k => ((look l k).map fun v => ((1 : Int), k, v)).toList
  | 0, _, _ + 1, _ => []
  | _ + 1, (_, cs), 0, k => cs.filter (hasKey k)
  | h + 1, (ps, _), d + 1, k => (ps.map fun p => lev h p.2 d k).flatten
def down (f : Nat → List Ch) : Nat → List Ch
  | 0 => []
  | n + 1 => f n ++ down f n
theorem down_shift (f : Nat → List Ch) : ∀ n, down f (n + 1) = down (fun d => f (d + 1)) n ++ f 0
  | 0 => by simp [down]
  | n + 1 => by
    have := down_shift f n
    rw [down, this, down, List.append_assoc]
theorem down_congr {f g : Nat → List Ch} : ∀ {n : Nat}, (∀ d, d < n → f d = g d) → down f n = down g n
  | 0, _ => rfl
  | n + 1, h => by rw [down, down, h n (by omega), down_congr fun d hd => h d (by omega)]
theorem down_nil {f : Nat → List Ch} : ∀ {n : Nat}, (∀ d, d < n → f d = []) → down f n = []
  | 0, _ => rfl
  | n + 1, h => by rw [down, h n (by omega), down_nil fun d hd => h d (by omega)]; rfl
/-- One level has one more ahead, all below it have none. -/
theorem down_cons {f g : Nat → List Ch} {c : Ch} {L : Nat} : ∀ {n : Nat}, L < n → (∀ d, L < d → d < n → f d = []) → (∀ d, L < d → d < n → g d = []) → f L = c :: g L → (∀ d, d < L → f d = g d) → down f n = c :: down g n
  | 0, h, _, _, _, _ => by omega
  | n + 1, h, h1, h2, h3, h4 => by
    by_cases e : L = n
    · subst e
      rw [down, down, h3, down_congr h4]; rfl
    · rw [down, down, h1 n (by omega) (by omega), h2 n (by omega) (by omega)]
      exact down_cons (by omega) (fun d a b => h1 d a (by omega)) (fun d a b => h2 d a (by omega)) h3 h4
theorem chain_mem {h : Nat} {R : Key → Option Key → TreeT h → Prop} : ∀ {ps : List (Key × TreeT h)} {lo : Key} {hi : Option Key}, Chain R (some lo) hi ps → ∀ p ∈ ps, ∃ m, R p.1 m p.2 ∧ room p.1 m ∧ ¬ p.1 < lo ∧ ∀ b, hi = some b → ∃ a, m = some a ∧ ¬ b < a
  | [], _, _, _, _, hp => by cases hp
  | (f, t) :: r, lo, hi, ⟨e, m, h1, h2, h3⟩, p, hp => by
    obtain rfl : lo = f := Option.some.inj e
    rcases List.mem_cons.1 hp with rfl | hp
    · exact ⟨m, h2, h1, lt_ir _, fun b hb => chain_lo h3 b hb⟩
    · match r, h3, hp with
      | (f2, t2) :: r2, h3, hp =>
        have hm : m = some f2 := h3.1
        rw [hm] at h3
        obtain ⟨m', a1, a2, a3, a4⟩ := chain_mem h3 p hp
        have := h1 f2 hm
        exact ⟨m', a1, a2, fun q => a3 (lt_tr q this), a4⟩
theorem lt_of_not_le' {a b c : Key} (h : ¬ b < a) (h2 : b < c) : a < c := le_lt h h2
theorem lev_nil : ∀ (h : Nat) {lo : Key} {hi : Option Key} {t : TreeT h}, WF h lo hi t → ∀ {k : Key}, ¬ inR lo hi k → ∀ d, lev h t d k = []
  | 0, lo, hi, l, hw, k, hk, 0 => by
    have e : look l k = none := look_none (l := l) fun x hx e => hk (by rw [← e]; exact (hw.2 x hx).1)
    exact congrArg (fun o => (Option.map (fun v => ((1 : Int), k, v)) o).toList) e
  | 0, _, _, _, _, _, _, _ + 1 => rfl
  | h + 1, lo, hi, (ps, cs), hw, k, hk, 0 => by
    simp only [lev]
    refine List.filter_eq_nil_iff.2 fun c hc e => hk ?_
    rw [← of_decide_eq_true e]; exact (hw.2 c hc).1
  | h + 1, lo, hi, (ps, cs), hw, k, hk, d + 1 => by
    simp only [lev]
    refine List.flatten_eq_nil_iff.2 fun l hl => ?_
    obtain ⟨p, hp, rfl⟩ := List.mem_map.1 hl
    obtain ⟨m, a1, a2, a3, a4⟩ := chain_mem hw.1 p hp
    refine lev_nil h a1.1 (fun q => hk ⟨fun z => a3 (lt_of_not_le' q.1 z), fun b hb => ?_⟩) d
    obtain ⟨a, ea, hab⟩ := a4 b hb
    have := q.2 a ea
    exact lt_le this hab
/-- Where a key belongs, there its changes are. -/
theorem lev_parts {h : Nat} {lo : Key} {hi : Option Key} {A B : List (Key × TreeT h)} {f : Key} {t : TreeT h} {m : Option Key} {k : Key} (hA : Chain (fun f m t => WF h f m t ∧ Top h t) (some lo) (some f) A) (hB : Chain (fun f m t => WF h f m t ∧ Top h t) m hi B) (hk : inR f m k) (d : Nat) : ((A ++ (f, t) :: B).map fun p => lev h p.2 d k).flatten = lev h t d k := by
  have h1 : (A.map fun p => lev h p.2 d k).flatten = [] := by
    refine List.flatten_eq_nil_iff.2 fun l hl => ?_
    obtain ⟨p, hp, rfl⟩ := List.mem_map.1 hl
    obtain ⟨m', a1, a2, a3, a4⟩ := chain_mem hA p hp
    refine lev_nil h a1.1 (fun q => hk.1 ?_) d
    obtain ⟨a, ea, hab⟩ := a4 f rfl
    exact lt_le (q.2 a ea) hab
  have h2 : (B.map fun p => lev h p.2 d k).flatten = [] := by
    refine List.flatten_eq_nil_iff.2 fun l hl => ?_
    obtain ⟨p, hp, rfl⟩ := List.mem_map.1 hl
    cases hm : m with
    | none =>
      rw [hm] at hB
      cases B with
      | nil => cases hp
      | cons x r => exact absurd hB.1 (by simp)
    | some b =>
      rw [hm] at hB
      obtain ⟨m', a1, a2, a3, a4⟩ := chain_mem hB p hp
      exact lev_nil h a1.1 (fun q => q.1 (lt_le (hk.2 b hm) a3)) d
  rw [List.map_append, List.map_cons, List.flatten_append, List.flatten_cons, h1, h2]; simp
theorem val_lev : ∀ (h : Nat) {lo : Key} {hi : Option Key} {t : TreeT h}, WF h lo hi t → ∀ {k : Key}, inR lo hi k → val h t k = afterAll (down (fun d => lev h t d k) (h + 1)) k none
  | 0, lo, hi, l, hw, k, hk => by
    simp only [down, lev, val, List.append_nil]
    cases hl : look l k with
    | none => rfl
    | some v =>
      show some v = one k none (1, k, v)
      simp [one, after]
  | h + 1, lo, hi, (ps, cs), hw, k, hk => by
    rw [down_shift, afterAll_append]
    obtain ⟨A, f, t, B, m, e1, e2, e3, e4, e5, e6, e7⟩ := chain_find hw.1 hk
    have h0 : (fun d => lev (h + 1) (ps, cs) (d + 1) k) = fun d => lev h t d k := by
      funext d
      simp only [lev]
      rw [e1]
      exact lev_parts e6 e7 e5 d
    rw [h0, ← val_lev h e3.1 e5]
    show _ = afterAll (cs.filter (hasKey k)) k _
    rw [afterAll_filter (hasKey k) cs k _ (fun c _ e => decide_eq_true e)]
    subst e1
    exact val_at e2
end Go.Proofs.YtolgpnaoaodepaaGreat.Tr
/- A scan's places, and what a step does to them. -/
namespace Go.Proofs.YtolgpnaoaodepaaGreat.Tr

structure PlN where
 f:Key
 L:Nat
 h:Nat
 m:Option Key
 t:TreeT h
structure PlC where
 L:Nat
 f:Key
 m:Option Key
 c:Ch
 cs:List Ch
abbrev Plc:=PlN ⊕ PlC
abbrev Plc.nd (f:Key) (L h:Nat) (m:Option Key) (t:TreeT h):Plc:=.inl ⟨f,L,h,m,t⟩
abbrev Plc.ch (L:Nat) (f:Key) (m:Option Key) (c:Ch) (cs:List Ch):Plc:=.inr ⟨L,f,m,c,cs⟩
theorem Plc.twoP {P:Plc → Prop} (p:Plc) (nd:∀ f L h m t,P (.nd f L h m t)) (ch:∀ L f m c cs,P (.ch L f m c cs)):P p:=by
 rcases p with ⟨f,L,h,m,t⟩ | ⟨L,f,m,c,cs⟩
 ·exact nd f L h m t
 ·exact ch L f m c cs
def Plc.key : Plc → Key
  | .inl ⟨f,_,_,_,_⟩ => f
  | .inr ⟨_,_,_,c,_⟩ => c.2.1
def Plc.lv : Plc → Nat
  | .inl ⟨_,L,_,_,_⟩ => L
  | .inr ⟨L,_,_,_,_⟩ => L
def Plc.cont : Plc → Nat → Key → List Ch
  | .inl ⟨_,L,h,_,t⟩, l, k => if l < L then [] else lev h t (l - L) k
  | .inr ⟨L,_,_,c,cs⟩, l, k => if l = L then (c :: cs).filter (hasKey k) else []
def Plc.cov : Plc → Nat → Key → Prop
  | .inl ⟨f,L,_,m,_⟩, l, k => L ≤ l ∧ inR f m k
  | .inr ⟨L,f,m,_,_⟩, l, k => l = L ∧ inR f m k
def Rise (cs : List Ch) : Prop := cs.Pairwise fun a b => ¬ b.2.1 < a.2.1
def Plc.ok (fr : Key) (D : Nat) : Plc → Prop
  | .inl ⟨f,L,h,m,t⟩ => WF h f m t ∧ Top h t ∧ room f m ∧ L + h + 1 = D
  | .inr ⟨L,f,m,c,cs⟩ => L < D ∧ Rise (c :: cs) ∧ ∀ d ∈ c :: cs, ¬ d.2.1 < fr ∧ inR f m d.2.1 ∧ okCh d
def Apart (p q : Plc) : Prop := ∀ l k, p.cov l k → ¬ q.cov l k
theorem Apart.symm {p q : Plc} (h : Apart p q) : Apart q p := fun l k a b => h l k b a
def tot (P : List Plc) (l : Nat) (k : Key) : List Ch := (P.map fun p => p.cont l k).flatten
def left (D : Nat) (P : List Plc) (k : Key) : List Ch := down (fun l => tot P l k) D
structure SInv (fr : Key) (D : Nat) (P : List Plc) : Prop where
  ok : ∀ p ∈ P, p.ok fr D
  ap : P.Pairwise Apart
/-- This one may come ahead. -/
def Plc.less (p q : Plc) : Prop := p.key < q.key ∨ p.key = q.key ∧ q.lv < p.lv
theorem cont_cov {fr : Key} {D : Nat} {p : Plc} (hp : p.ok fr D) {l : Nat} {k : Key} (h : p.cont l k ≠ []) : p.cov l k := by
  cases p using Tr.Plc.twoP with
  | nd f L h' m t =>
    by_cases q : l < L
    · exact absurd (if_pos q) h
    · refine ⟨by omega, Classical.byContradiction fun z => h ?_⟩
      show (if l < L then [] else lev h' t (l - L) k) = []
      rw [if_neg q]; exact lev_nil h' hp.1 z _
  | ch L f m c cs =>
    by_cases q : l = L
    · refine ⟨q, ?_⟩
      have h2 : (c :: cs).filter (hasKey k) ≠ [] := by
        have : (Plc.ch L f m c cs).cont l k = (c :: cs).filter (hasKey k) := if_pos q
        rw [this] at h; exact h
      obtain ⟨d, hd⟩ := List.exists_mem_of_ne_nil _ h2
      obtain ⟨d1, d2⟩ := List.mem_filter.1 hd
      rw [← of_decide_eq_true d2]
      exact (hp.2.2 d d1).2.1
    · exact absurd (if_neg q) h
theorem cont_ge {fr : Key} {D : Nat} {p : Plc} (hp : p.ok fr D) {l : Nat} {k : Key} (h : p.cont l k ≠ []) : ¬ k < p.key := by
  cases p using Tr.Plc.twoP with
  | nd f L h' m t => exact (cont_cov hp h).2.1
  | ch L f m c cs =>
    by_cases q : l = L
    · have h2 : (c :: cs).filter (hasKey k) ≠ [] := by
        have : (Plc.ch L f m c cs).cont l k = (c :: cs).filter (hasKey k) := if_pos q
        rw [this] at h; exact h
      obtain ⟨d, hd⟩ := List.exists_mem_of_ne_nil _ h2
      obtain ⟨d1, d2⟩ := List.mem_filter.1 hd
      rw [← of_decide_eq_true d2]
      rcases List.mem_cons.1 d1 with e | e
      · rw [e]; exact lt_ir _
      · exact (List.pairwise_cons.1 hp.2.1).1 d e
    · exact absurd (if_neg q) h
theorem cov_key {fr : Key} {D : Nat} {p : Plc} (hp : p.ok fr D) : p.cov p.lv p.key := by
  cases p using Tr.Plc.twoP with
  | nd f L h' m t => exact ⟨Nat.le_refl _, lt_ir _, fun b hb => hp.2.2.1 b hb⟩
  | ch L f m c cs => exact ⟨rfl, (hp.2.2 c (List.mem_cons_self ..)).2.1⟩
theorem tot_nil {P : List Plc} {l : Nat} {k : Key} (h : ∀ p ∈ P, p.cont l k = []) : tot P l k = [] :=
  List.flatten_eq_nil_iff.2 fun x hx => by obtain ⟨p, hp, rfl⟩ := List.mem_map.1 hx; exact h p hp
theorem tot_append (P Q : List Plc) (l : Nat) (k : Key) : tot (P ++ Q) l k = tot P l k ++ tot Q l k := by simp [tot]
theorem tot_cons (p : Plc) (Q : List Plc) (l : Nat) (k : Key) : tot (p :: Q) l k = p.cont l k ++ tot Q l k := by simp [tot]
theorem SInv.perm {fr : Key} {D : Nat} {P Q : List Plc} (h : SInv fr D P) (hp : P.Perm Q) : SInv fr D Q :=
  ⟨fun p hq => h.ok p (hp.mem_iff.2 hq), (hp.pairwise_iff (fun q => Apart.symm q)).1 h.ap⟩
theorem tot_perm {fr : Key} {D : Nat} {P Q : List Plc} (hp : P.Perm Q) (h : SInv fr D P) (l : Nat) (k : Key) : tot P l k = tot Q l k := by
  induction hp with
  | nil => rfl
  | cons x _ ih => rw [tot_cons, tot_cons, ih ⟨fun p hp => h.ok p (List.mem_cons_of_mem _ hp), (List.pairwise_cons.1 h.ap).2⟩]
  | swap x y r =>
    rw [tot_cons, tot_cons, tot_cons, tot_cons, ← List.append_assoc, ← List.append_assoc]
    congr 1
    by_cases hx : x.cont l k = []
    · rw [hx]; simp
    · by_cases hy : y.cont l k = []
      · rw [hy]; simp
      · have := (List.pairwise_cons.1 h.ap).1 x (List.mem_cons_self ..)
        exact absurd (cont_cov (h.ok x (by simp)) hx) (this l k (cont_cov (h.ok y (by simp)) hy))
  | trans h1 _ ih1 ih2 => rw [ih1 h, ih2 (h.perm h1)]
theorem left_perm {fr : Key} {D : Nat} {P Q : List Plc} (hp : P.Perm Q) (h : SInv fr D P) (k : Key) : left D P k = left D Q k := down_congr fun l _ => tot_perm hp h l k
/-- What is left of changes, as a place. -/
def lay (L : Nat) (f : Key) (m : Option Key) : List Ch → List Plc
  | [] => []
  | c :: cs => [.ch L f m c cs]
theorem lay_tot (L : Nat) (f : Key) (m : Option Key) (cs : List Ch) (l : Nat) (k : Key) : tot (lay L f m cs) l k = if l = L then cs.filter (hasKey k) else [] := by
  cases cs with
  | nil => simp [lay, tot]
  | cons c r =>
    show (if l = L then (c :: r).filter (hasKey k) else []) ++ [] = _
    rw [List.append_nil]
theorem step_ch {fr : Key} {D L : Nat} {f : Key} {m : Option Key} {c : Ch} {cs : List Ch} {P : List Plc} (h : SInv fr D (.ch L f m c cs :: P)) (hmin : ∀ q ∈ P, ¬ q.less (.ch L f m c cs)) :
    SInv fr D (lay L f m cs ++ P) ∧ left D (.ch L f m c cs :: P) c.2.1 = c :: left D (lay L f m cs ++ P) c.2.1 ∧ (∀ k, k ≠ c.2.1 → left D (.ch L f m c cs :: P) k = left D (lay L f m cs ++ P) k) ∧ (∀ k, k < c.2.1 → left D (.ch L f m c cs :: P) k = []) := by
  have hok := h.ok _ (List.mem_cons_self ..)
  have hP : ∀ p ∈ P, p.ok fr D := fun p hp => h.ok p (List.mem_cons_of_mem _ hp)
  obtain ⟨hap1, hap2⟩ := List.pairwise_cons.1 h.ap
  have hinv : SInv fr D (lay L f m cs ++ P) := by
    cases cs with
    | nil => exact ⟨hP, hap2⟩
    | cons d r =>
      refine ⟨fun p hp => ?_, List.pairwise_cons.2 ⟨fun q hq => hap1 q hq, hap2⟩⟩
      rcases List.mem_cons.1 hp with rfl | hp
      · exact ⟨hok.1, (List.pairwise_cons.1 hok.2.1).2, fun e he => hok.2.2 e (List.mem_cons_of_mem _ he)⟩
      · exact hP p hp
  have hcont : ∀ l k, (Plc.ch L f m c cs).cont l k = if l = L then (c :: cs).filter (hasKey k) else [] := fun _ _ => rfl
  have hdeep : ∀ l, L < l → tot P l c.2.1 = [] := fun l hl => tot_nil fun q hq => Classical.byContradiction fun z => by
    have h1 := cont_ge (hP q hq) z
    have h2 := hmin q hq
    have h3 : ¬ q.key < c.2.1 := fun e => h2 (.inl e)
    have h4 : q.key = c.2.1 := tri _ _ h3 h1
    have h5 : ¬ L < q.lv := fun e => h2 (.inr ⟨h4, e⟩)
    have h6 := cont_cov (hP q hq) z
    have h7 : (Plc.ch L f m c cs).cov L c.2.1 := cov_key hok
    refine hap1 q hq L c.2.1 h7 ?_
    cases q using Tr.Plc.twoP with
    | nd f' L' h' m' t' => exact ⟨Nat.le_of_not_lt h5, h6.2⟩
    | ch L' f' m' c' cs' => exact absurd h6.1 (by have : ¬ L < L' := h5; omega)
  refine ⟨hinv, ?_, fun k hk => down_congr fun l _ => ?_, fun k hk => down_nil fun l _ => tot_nil fun q hq => Classical.byContradiction fun z => ?_⟩
  · refine down_cons (L := L) hok.1 (fun l hl _ => ?_) (fun l hl _ => ?_) ?_ (fun l hl => ?_)
    · rw [tot_cons, hcont, if_neg (by omega), hdeep l hl]; rfl
    · rw [tot_append, lay_tot, if_neg (by omega), hdeep l hl]; rfl
    · rw [tot_cons, hcont, if_pos rfl, tot_append, lay_tot, if_pos rfl, List.filter_cons_of_pos (p := hasKey c.2.1) (decide_eq_true rfl)]; rfl
    · rw [tot_cons, hcont, if_neg (by omega), tot_append, lay_tot, if_neg (by omega)]
  · rw [tot_cons, hcont, tot_append, lay_tot, List.filter_cons_of_neg (by simp [hasKey]; exact fun e => hk e.symm)]
  · rcases List.mem_cons.1 hq with rfl | hq
    · exact cont_ge hok z hk
    · have h1 := cont_ge (hP q hq) z
      exact hmin q hq (.inl (le_lt h1 hk))
/-- Nothing is left of keys ahead of the first. -/
theorem left_ahead {fr : Key} {D : Nat} {p : Plc} {P : List Plc} (h : SInv fr D (p :: P)) (hmin : ∀ q ∈ P, ¬ q.less p) {k : Key} (hk : k < p.key) : left D (p :: P) k = [] :=
  down_nil fun l _ => tot_nil fun q hq => Classical.byContradiction fun z => by
    have h1 := cont_ge (h.ok q hq) z
    rcases List.mem_cons.1 hq with rfl | hq
    · exact h1 hk
    · exact hmin q hq (.inl (le_lt h1 hk))
/-- The parts of a branch, as places. -/
def nodes (L : Nat) {h : Nat} : List (Key × TreeT h) → Option Key → List Plc
  | [], _ => []
  | (f, t) :: r, hi => .nd f L h (nxt r hi) t :: nodes L r hi
/-- The changes of a node, an item being one. -/
def nodeCh : (h : Nat) → TreeT h → List Ch
  | 0, l => (its l).map fun x => ((1 : Int), x.1, x.2)
  | _ + 1, (_, cs) => cs
theorem wgB : ∀ (l : List It), Rising l → ∀ k, (l.map fun x => ((1 : Int), x.1, x.2)).filter (hasKey k) = ((look l k).map fun v => ((1 : Int), k, v)).toList
  | [], _, _ => rfl
  | x :: r, hr, k => by
    obtain ⟨h1, h2⟩ := List.pairwise_cons.1 hr
    rw [List.map_cons, look]
    by_cases e : x.1 = k
    · rw [List.filter_cons_of_pos (p := hasKey k) (a := ((1 : Int), x.1, x.2)) (decide_eq_true e), if_pos e, wgB r h2 k, look_none fun y hy q => by
        have := h1 y hy; rw [q, e] at this; exact lt_ir _ this]
      subst e; rfl
    · rw [List.filter_cons_of_neg (by simp [hasKey, e]), if_neg e]
      exact wgB r h2 k
theorem nodeCh_lev : ∀ (h : Nat) {lo : Key} {hi : Option Key} {t : TreeT h}, WF h lo hi t → ∀ k, (nodeCh h t).filter (hasKey k) = lev h t 0 k
  | 0, _,_, l, hw, k => wgB l hw.1 k
  | _ + 1, _, _, (_, _), _, _ => rfl
/-- What a node's changes come to in a scan. -/
structure Scd (fr : Key) (l l' : List Ch) : Prop where
  rise : Rise l'
  sub : ∀ c ∈ l', c ∈ l ∧ ¬ c.2.1 < fr
  fil : ∀ k, ¬ k < fr → l'.filter (hasKey k) = l.filter (hasKey k)
  len : l'.length ≤ l.length
/-- The parts that a scan opens. -/
def kidsFrom (fr : Key) (L : Nat) (m : Option Key) : (h : Nat) → TreeT h → List Plc
  | 0, _ => []
  | _ + 1, (ps, _) => nodes (L + 1) (ps.drop (ix (ps.map (·.1)) fr)) m
theorem nodes_mem {L h : Nat} {hi : Option Key} {p : Plc} : ∀ {ps : List (Key × TreeT h)} {lo : Option Key}, Chain (fun f m t => WF h f m t ∧ Top h t) lo hi ps → p ∈ nodes L ps hi → ∃ f m t, p = .nd f L h m t ∧ WF h f m t ∧ Top h t ∧ room f m ∧ (∀ a, lo = some a → ¬ f < a) ∧ ∀ b, hi = some b → ∃ a, m = some a ∧ ¬ b < a
  | [], _, _, hp => by cases hp
  | (f, t) :: r, lo, ⟨e, m, h1, h2, h3⟩, hp => by
    have hm : m = nxt r hi := chain_nxt h3
    rcases List.mem_cons.1 hp with rfl | hp
    · rw [← hm]
      exact ⟨f, m, t, rfl, h2.1, h2.2, h1, fun a ha => by rw [e] at ha; rw [← Option.some.inj ha]; exact lt_ir _, fun b hb => chain_lo h3 b hb⟩
    · obtain ⟨f', m', t', a1, a2, a3, a4, a5, a6⟩ := nodes_mem h3 hp
      refine ⟨f', m', t', a1, a2, a3, a4, fun a ha => ?_, a6⟩
      rw [e] at ha
      rw [← Option.some.inj ha]
      cases hr : r with
      | nil => rw [hr] at hp; cases hp
      | cons x r' =>
        have hx : m = some x.1 := by rw [hm, hr]; rfl
        exact fun q => a5 x.1 hx (lt_tr q (h1 x.1 hx))
theorem nodes_apart {L h : Nat} {hi : Option Key} : ∀ {ps : List (Key × TreeT h)} {lo : Option Key}, Chain (fun f m t => WF h f m t ∧ Top h t) lo hi ps → (nodes L ps hi).Pairwise Apart
  | [], _, _ => List.Pairwise.nil
  | (f, t) :: r, lo, ⟨e, m, h1, h2, h3⟩ => by
    have hm : m = nxt r hi := chain_nxt h3
    refine List.pairwise_cons.2 ⟨fun q hq l k a b => ?_, nodes_apart h3⟩
    obtain ⟨f', m', t', rfl, _, _, _, a5, _⟩ := nodes_mem h3 hq
    rw [← hm] at a
    cases hr : r with
    | nil => rw [hr] at hq; cases hq
    | cons x r' =>
      have hx : m = some x.1 := by rw [hm, hr]; rfl
      exact a5 x.1 hx (le_lt b.2.1 (a.2.2 x.1 hx))
theorem nodes_tot {L h : Nat} {hi : Option Key} (l : Nat) (k : Key) : ∀ (ps : List (Key × TreeT h)), tot (nodes L ps hi) l k = if l < L then [] else (ps.map fun p => lev h p.2 (l - L) k).flatten
  | [] => by simp [nodes, tot]
  | (f, t) :: r => by
    rw [nodes, tot_cons, nodes_tot l k r]
    show (if l < L then [] else lev h t (l - L) k) ++ _ = _
    by_cases q : l < L
    · simp [q]
    · simp [q]
/-- The parts ahead of where a scan begins have nothing to say. -/
theorem drop_lev {h : Nat} {lo fr : Key} {hi : Option Key} {ps : List (Key × TreeT h)} (hc : Chain (fun f m t => WF h f m t ∧ Top h t) (some lo) hi ps) (d : Nat) {k : Key} (hk : ¬ k < fr) : ((ps.drop (ix (ps.map (·.1)) fr)).map fun p => lev h p.2 d k).flatten = (ps.map fun p => lev h p.2 d k).flatten := by
  by_cases hin : inR lo hi fr
  · obtain ⟨A, f, t, B, m, e1, e2, e3, e4, e5, e6, e7⟩ := chain_find hc hin
    rw [e2]
    subst e1
    rw [List.drop_left, List.map_append, List.flatten_append]
    have h1 : (A.map fun p => lev h p.2 d k).flatten = [] := by
      refine List.flatten_eq_nil_iff.2 fun l hl => ?_
      obtain ⟨p, hp, rfl⟩ := List.mem_map.1 hl
      obtain ⟨m', a1, a2, a3, a4⟩ := chain_mem e6 p hp
      refine lev_nil h a1.1 (fun q => hk ?_) d
      obtain ⟨a, ea, hab⟩ := a4 f rfl
      exact lt_le (lt_le (q.2 a ea) hab) e5.1
    rw [h1]; rfl
  · by_cases hlo : fr < lo
    · have : ix (ps.map (·.1)) fr = 0 := by
        match ps, hc with
        | [], _ => rfl
        | [_], _ => rfl
        | (f, t) :: (f2, t2) :: r, ⟨e, m, h1, h2, h3⟩ =>
          have hm : m = some f2 := h3.1
          have hf : lo = f := Option.some.inj e
          show ix (f :: f2 :: r.map (·.1)) fr = 0
          rw [ix, if_pos (lt_tr (by rw [← hf]; exact hlo) (h1 f2 hm))]
      rw [this]; rfl
    · -- beyond the end: nothing at all
      obtain ⟨b, hb, hbk⟩ : ∃ b, hi = some b ∧ ¬ fr < b := by
        cases hi with
        | none => exact absurd ⟨hlo, fun b hb => by cases hb⟩ hin
        | some b => exact ⟨b, rfl, fun q => hin ⟨hlo, fun c hc => by rw [← Option.some.inj hc]; exact q⟩⟩
      have hall : ∀ p ∈ ps, lev h p.2 d k = [] := fun p hp => by
        obtain ⟨m', a1, a2, a3, a4⟩ := chain_mem hc p hp
        refine lev_nil h a1.1 (fun q => hk ?_) d
        obtain ⟨a, ea, hab⟩ := a4 b hb
        exact lt_le (lt_le (q.2 a ea) hab) hbk
      rw [List.flatten_eq_nil_iff.2 (fun l hl => by obtain ⟨p, hp, rfl⟩ := List.mem_map.1 hl; exact hall p (List.mem_of_mem_drop hp)), List.flatten_eq_nil_iff.2 (fun l hl => by obtain ⟨p, hp, rfl⟩ := List.mem_map.1 hl; exact hall p hp)]
theorem drop_chain {h : Nat} {R : Key → Option Key → TreeT h → Prop} {hi : Option Key} : ∀ (ps : List (Key × TreeT h)) {lo : Option Key} (n : Nat), Chain R lo hi ps → ∃ lo', Chain R lo' hi (ps.drop n) ∧ ∀ a, lo = some a → n < ps.length → ∃ b, lo' = some b ∧ ¬ b < a
  | ps, lo, 0, hc => ⟨lo, hc, fun a ha _ => ⟨a, ha, lt_ir _⟩⟩
  | [], lo, n + 1, hc => ⟨lo, hc, fun a ha hn => by simp at hn⟩
  | (f, t) :: r, lo, n + 1, ⟨e, m, h1, h2, h3⟩ => by
    obtain ⟨lo', a1, a2⟩ := drop_chain r n h3
    refine ⟨lo', a1, fun a ha hn => ?_⟩
    rw [e] at ha
    obtain rfl := Option.some.inj ha
    have hn' : n < r.length := by simpa using hn
    cases r with
    | nil => simp at hn'
    | cons x r' =>
      obtain ⟨b, hb, hb2⟩ := a2 x.1 h3.1 hn'
      exact ⟨b, hb, fun q => hb2 (lt_tr q (h1 x.1 h3.1))⟩
def sz : (h : Nat) → TreeT h → Nat
  | 0, l => 1 + (its l).length
  | h + 1, (ps, cs) => 1 + cs.length + (ps.map fun p => sz h p.2).sum
def Plc.size : Plc → Nat
  | .inl ⟨_,_,h,_,t⟩ => sz h t
  | .inr ⟨_,_,_,_,cs⟩ => cs.length + 1
def size (P : List Plc) : Nat := (P.map Plc.size).sum
theorem size_cons (p : Plc) (P : List Plc) : size (p :: P) = p.size + size P := by simp [size]
theorem size_append (P Q : List Plc) : size (P ++ Q) = size P + size Q := by simp [size]
theorem size_lay (L : Nat) (f : Key) (m : Option Key) (cs : List Ch) : size (lay L f m cs) = cs.length := by cases cs <;> simp [lay, size, Plc.size]
theorem size_nodes {L h : Nat} {hi : Option Key} : ∀ (ps : List (Key × TreeT h)), size (nodes L ps hi) = (ps.map fun p => sz h p.2).sum
  | [] => rfl
  | (f, t) :: r => by rw [nodes, size_cons, size_nodes r]; rfl
theorem sum_drop (l : List Nat) (n : Nat) : (l.drop n).sum ≤ l.sum := by
  have := List.take_append_drop n l
  have h2 := congrArg List.sum this
  rw [List.sum_append] at h2
  omega
theorem step_nd {fr : Key} {D L h : Nat} {f : Key} {m : Option Key} {t : TreeT h} {P : List Plc} {cs : List Ch} (hi : SInv fr D (.nd f L h m t :: P)) (hs : Scd fr (nodeCh h t) cs) :
    SInv fr D (kidsFrom fr L m h t ++ (lay L f m cs ++ P)) ∧ (∀ k, ¬ k < fr → left D (.nd f L h m t :: P) k = left D (kidsFrom fr L m h t ++ (lay L f m cs ++ P)) k) ∧ size (kidsFrom fr L m h t ++ (lay L f m cs ++ P)) < size (.nd f L h m t :: P) := by
  have hok := hi.ok _ (List.mem_cons_self ..)
  obtain ⟨hwf, htop, hroom, hD⟩ := hok
  have hP : ∀ p ∈ P, p.ok fr D := fun p hp => hi.ok p (List.mem_cons_of_mem _ hp)
  obtain ⟨hap1, hap2⟩ := List.pairwise_cons.1 hi.ap
  have hin : ∀ c ∈ nodeCh h t, inR f m c.2.1 ∧ okCh c := by
    cases h with
    | zero =>
      intro c hc
      obtain ⟨x, hx, rfl⟩ := List.mem_map.1 hc
      have := hwf.2 x hx
      refine ⟨this.1, ?_⟩
      unfold okCh Pg.okChange Pg.isChange
      simp [this.2.1, this.2.2]
    | succ h => obtain ⟨ps, cs0⟩ := t; exact hwf.2
  have hlay : ∀ p ∈ lay L f m cs, p.ok fr D ∧ ∀ l k, p.cov l k → l = L ∧ inR f m k := by
    cases cs with
    | nil => intro p hp; cases hp
    | cons c r =>
      intro p hp
      rw [List.mem_singleton.1 hp]
      exact ⟨⟨by omega, hs.rise, fun d hd => ⟨(hs.sub d hd).2, (hin d (hs.sub d hd).1).1, (hin d (hs.sub d hd).1).2⟩⟩, fun _ _ q => q⟩
  have hkid : ∀ p ∈ kidsFrom fr L m h t, p.ok fr D ∧ ∀ l k, p.cov l k → L < l ∧ inR f m k := by
    cases h with
    | zero => intro p hp; cases hp
    | succ h =>
      obtain ⟨ps, cs0⟩ := t
      intro p hp
      obtain ⟨lo', c1, c2⟩ := drop_chain ps (ix (ps.map (·.1)) fr) hwf.1
      obtain ⟨f', m', t', rfl, a2, a3, a4, a5, a6⟩ := nodes_mem c1 hp
      refine ⟨⟨a2, a3, a4, by omega⟩, fun l k q => ⟨q.1, fun z => ?_, fun b hb => ?_⟩⟩
      · by_cases hn : ix (ps.map (·.1)) fr < ps.length
        · obtain ⟨b, hb, hb2⟩ := c2 f rfl hn
          exact q.2.1 (lt_le z (fun y => a5 b hb (lt_le y hb2)))
        · rw [kidsFrom, List.drop_of_length_le (by omega)] at hp; cases hp
      · obtain ⟨a, ea, hab⟩ := a6 b hb
        exact lt_le (q.2.2 a ea) hab
  have hkap : (kidsFrom fr L m h t).Pairwise Apart := by
    cases h with
    | zero => exact List.Pairwise.nil
    | succ h =>
      obtain ⟨ps, cs0⟩ := t
      obtain ⟨lo', c1, c2⟩ := drop_chain ps (ix (ps.map (·.1)) fr) hwf.1
      exact nodes_apart c1
  have hlap : (lay L f m cs).Pairwise Apart := by cases cs <;> simp [lay]
  refine ⟨⟨fun p hp => ?_, List.pairwise_append.2 ⟨hkap, List.pairwise_append.2 ⟨hlap, hap2, fun p hp q hq l k a b => ?_⟩, fun p hp q hq l k a b => ?_⟩⟩, fun k hk => down_congr fun l hl => ?_, ?_⟩
  · rcases List.mem_append.1 hp with hp | hp
    · exact (hkid p hp).1
    · rcases List.mem_append.1 hp with hp | hp
      · exact (hlay p hp).1
      · exact hP p hp
  · obtain ⟨e1, e2⟩ := (hlay p hp).2 l k a
    exact hap1 q hq l k ⟨by omega, e2⟩ b
  · obtain ⟨e1, e2⟩ := (hkid p hp).2 l k a
    rcases List.mem_append.1 hq with hq | hq
    · have := ((hlay q hq).2 l k b).1; omega
    · exact hap1 q hq l k ⟨by omega, e2⟩ b
  · rw [tot_cons, tot_append, tot_append, lay_tot, ← List.append_assoc]
    congr 1
    show (if l < L then [] else lev h t (l - L) k) = _
    cases h with
    | zero =>
      show _ = [] ++ _
      rw [List.nil_append]
      rcases Nat.lt_trichotomy l L with q | q | q
      · rw [if_pos q, if_neg (by omega)]
      · subst q; rw [if_neg (by omega), if_pos rfl, Nat.sub_self, hs.fil k hk, nodeCh_lev 0 hwf k]
      · rw [if_neg (by omega), if_neg (by omega)]
        obtain ⟨d, hd⟩ : ∃ d, l - L = d + 1 := ⟨l - L - 1, by omega⟩
        rw [hd]; rfl
    | succ h =>
      obtain ⟨ps, cs0⟩ := t
      rw [kidsFrom, nodes_tot, drop_lev hwf.1 _ hk]
      rcases Nat.lt_trichotomy l L with q | q | q
      · rw [if_pos q, if_pos (by omega), if_neg (by omega)]; rfl
      · subst q; rw [if_neg (by omega), if_pos (by omega), if_pos rfl, Nat.sub_self, hs.fil k hk, nodeCh_lev (h + 1) hwf k]; rfl
      · rw [if_neg (by omega), if_neg (by omega), if_neg (by omega), List.append_nil]
        obtain ⟨d, hd⟩ : ∃ d, l - L = d + 1 := ⟨l - L - 1, by omega⟩
        rw [hd, show l - (L + 1) = d by omega]; rfl
  · rw [size_cons, size_append, size_append, size_lay]
    have hl := hs.len
    show _ < sz h t + _
    cases h with
    | zero =>
      show 0 + _ < 1 + (its t).length + _
      have : (nodeCh 0 t).length = (its t).length := List.length_map ..
      omega
    | succ h =>
      obtain ⟨ps, cs0⟩ := t
      rw [kidsFrom, size_nodes]
      have h3 := sum_drop (ps.map fun p => sz h p.2) (ix (ps.map (·.1)) fr)
      rw [← List.map_drop] at h3
      have h4 : (nodeCh (h + 1) (ps, cs0)).length = cs0.length := rfl
      show _ < 1 + cs0.length + (ps.map fun p => sz h p.2).sum + _
      omega
end Go.Proofs.YtolgpnaoaodepaaGreat.Tr
/- A heap, as container/heap keeps it. -/
namespace Go.Proofs.YtolgpnaoaodepaaGreat.Hp

structure Ord {α : Type} (lt : α → α → Prop) : Prop where
  asy : ∀ {a b}, lt a b → ¬ lt b a
  tr : ∀ {a b c}, ¬ lt b a → ¬ lt c b → ¬ lt c a
def swp {α : Type} (g : Nat → α) (i j k : Nat) : α := if k = i then g j else if k = j then g i else g k
def Heap {α : Type} (lt : α → α → Prop) (g : Nat → α) (n : Nat) : Prop := ∀ k, 0 < k → k < n → ¬ lt (g k) (g ((k - 1) / 2))
structure UpI {α : Type} (lt : α → α → Prop) (g : Nat → α) (n j : Nat) : Prop where
  a : ∀ k, 0 < k → k < n → k ≠ j → ¬ lt (g k) (g ((k - 1) / 2))
  b : ∀ k, 0 < k → k < n → (k - 1) / 2 = j → 0 < j → ¬ lt (g k) (g ((j - 1) / 2))
structure DownI {α : Type} (lt : α → α → Prop) (g : Nat → α) (n i : Nat) : Prop where
  a : ∀ k, 0 < k → k < n → (k - 1) / 2 ≠ i → ¬ lt (g k) (g ((k - 1) / 2))
  b : ∀ k, 0 < k → k < n → (k - 1) / 2 = i → 0 < i → ¬ lt (g k) (g ((i - 1) / 2))
variable {α : Type} {lt : α → α → Prop}
theorem swp_i (g : Nat → α) (i j : Nat) : swp g i j i = g j := if_pos rfl
theorem swp_j (g : Nat → α) (i j : Nat) : swp g i j j = g i := by unfold swp; split; · rename_i e; rw [e]
                                                                  · rw [if_pos rfl]
theorem swp_o (g : Nat → α) {i j k : Nat} (h1 : k ≠ i) (h2 : k ≠ j) : swp g i j k = g k := by unfold swp; rw [if_neg h1, if_neg h2]
theorem UpI.step (O : Ord lt) {g : Nat → α} {n j i : Nat} (h : UpI lt g n j) (hij : i = (j - 1) / 2) (hj : j < n) (hne : i ≠ j) (hl : lt (g j) (g i)) : UpI lt (swp g i j) n i := by
  have hj0 : 0 < j := by omega
  have hlt : i < j := by omega
  refine ⟨fun k h0 hk hki => ?_, fun k h0 hk hp hi0 => ?_⟩
  · by_cases e : k = j
    · subst e; rw [swp_j, ← hij, swp_i]; exact O.asy hl
    · rw [swp_o g hki e]
      by_cases e1 : (k - 1) / 2 = j
      · rw [e1, swp_j]; have := h.b k h0 hk e1 hj0; rw [← hij] at this; exact this
      · by_cases e2 : (k - 1) / 2 = i
        · rw [e2, swp_i]; have := h.a k h0 hk e; rw [e2] at this; exact O.tr (O.asy hl) this
        · rw [swp_o g e2 e1]; exact h.a k h0 hk e
  · have hpi : ¬ lt (g i) (g ((i - 1) / 2)) := h.a i hi0 (by omega) hne
    rw [swp_o g (k := (i - 1) / 2) (by omega) (by omega)]
    by_cases e : k = j
    · subst e; rw [swp_j]; exact hpi
    · rw [swp_o g (by omega) e]
      have := h.a k h0 hk e
      rw [hp] at this
      exact O.tr hpi this
theorem UpI.done {g : Nat → α} {n j : Nat} (h : UpI lt g n j) (he : j = 0 ∨ ¬ lt (g j) (g ((j - 1) / 2))) : Heap lt g n := fun k h0 hk => by
  by_cases e : k = j
  · subst e
    rcases he with q | q
    · omega
    · exact q
  · exact h.a k h0 hk e
theorem UpI.start {g : Nat → α} {n : Nat} (h : Heap lt g n) : UpI lt g (n + 1) n := ⟨fun k h0 hk hne => h k h0 (by omega), fun k h0 hk hp _ => by omega⟩
theorem DownI.step (O : Ord lt) {g : Nat → α} {n i j : Nat} (h : DownI lt g n i) (hj : j < n) (h0 : 0 < j) (hp : (j - 1) / 2 = i) (hmin : ∀ k, 0 < k → k < n → (k - 1) / 2 = i → ¬ lt (g k) (g j)) (hl : lt (g j) (g i)) : DownI lt (swp g i j) n j := by
  have hlt : i < j := by omega
  refine ⟨fun k k0 hk hpk => ?_, fun k k0 hk hpk _ => ?_⟩
  · by_cases e : (k - 1) / 2 = i
    · rw [e, swp_i]
      by_cases e2 : k = j
      · subst e2; rw [swp_j]; exact O.asy hl
      · rw [swp_o g (by omega) e2]; exact hmin k k0 hk e
    · rw [swp_o g (k := (k - 1) / 2) e hpk]
      by_cases e3 : k = i
      · subst e3; rw [swp_i]; exact h.b j h0 hj hp k0
      · rw [swp_o g e3 (fun e4 => by subst e4; exact e hp)]; exact h.a k k0 hk e
  · have hki : k ≠ i := by omega
    have hkj : k ≠ j := by omega
    rw [hp, swp_i, swp_o g hki hkj]
    have := h.a k k0 hk (by omega)
    rw [hpk] at this; exact this
theorem DownI.done {g : Nat → α} {n i : Nat} (h : DownI lt g n i) (hc : ∀ k, 0 < k → k < n → (k - 1) / 2 = i → ¬ lt (g k) (g i)) : Heap lt g n := fun k h0 hk => by
  by_cases e : (k - 1) / 2 = i
  · rw [e]; exact hc k h0 hk e
  · exact h.a k h0 hk e
theorem DownI.start {g : Nat → α} {n : Nat} (h : Heap lt g (n + 1)) : DownI lt (swp g 0 n) n 0 := by
  refine ⟨fun k h0 hk hp => ?_, fun k h0 hk hp q => by omega⟩
  rw [swp_o g (by omega) (by omega), swp_o g hp (by omega)]
  exact h k h0 (by omega)
theorem Heap.root (O : Ord lt) {g : Nat → α} {n : Nat} (h : Heap lt g n) : ∀ k, k < n → ¬ lt (g k) (g 0) := by
  intro k
  induction k using Nat.strongRecOn with
  | ind k ih =>
    intro hk
    by_cases e : k = 0
    · subst e; exact fun q => O.asy q q
    · exact O.tr (ih ((k - 1) / 2) (by omega) (by omega)) (h k (by omega) hk)
theorem Heap.congr {g g' : Nat → α} {n : Nat} (h : Heap lt g n) (he : ∀ k, k < n → g' k = g k) : Heap lt g' n := fun k h0 hk => by
  rw [he k hk, he _ (by omega)]; exact h k h0 hk
/-- A list, by its numbers. -/
def nth (d : α) (l : List α) (i : Nat) : α := (l[i]?).getD d
def swL (d : α) (l : List α) (i j : Nat) : List α := (l.set i (nth d l j)).set j (nth d l i)
theorem nth_get (d : α) (l : List α) {i : Nat} (h : i < l.length) : nth d l i = l[i]'h := by unfold nth; rw [List.getElem?_eq_getElem h]; rfl
theorem swL_len (d : α) (l : List α) (i j : Nat) : (swL d l i j).length = l.length := by simp [swL]
theorem swL_nth (d : α) (l : List α) {i j : Nat} (hi : i < l.length) (hj : j < l.length) (k : Nat) : nth d (swL d l i j) k = swp (nth d l) i j k := by
  unfold swL swp
  show (((l.set i (nth d l j)).set j (nth d l i))[k]?).getD d = _
  rw [List.getElem?_set]
  by_cases e1 : j = k
  · subst e1
    rw [if_pos rfl, List.length_set, if_pos hj]
    by_cases e2 : j = i
    · subst e2; rw [if_pos rfl]; rfl
    · rw [if_neg e2, if_pos rfl]; rfl
  · rw [if_neg e1, List.getElem?_set]
    by_cases e2 : i = k
    · subst e2; rw [if_pos rfl, if_pos hi, if_pos rfl]; rfl
    · rw [if_neg e2, if_neg (fun q => e2 q.symm), if_neg (fun q => e1 q.symm)]; rfl
theorem swL_perm (d : α) (l : List α) {i j : Nat} (hi : i < l.length) (hj : j < l.length) : (swL d l i j).Perm l := by
  unfold swL
  rw [nth_get d l hi, nth_get d l hj]
  have := Array.swap_perm (xs := l.toArray) (i := i) (j := j) (by simpa using hi) (by simpa using hj)
  rw [Array.perm_iff_toList_perm] at this
  simpa [Array.swap] using this
end Go.Proofs.YtolgpnaoaodepaaGreat.Hp
