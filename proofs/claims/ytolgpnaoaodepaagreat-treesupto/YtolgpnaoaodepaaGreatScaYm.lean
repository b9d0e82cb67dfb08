/- The walk of a tree's Scan. -/
import Derived.Test.YtolgpnaoaodepaaGreatScaUm
import Derived.Test.YtolgpnaoaodepaaGreatWalkUm
import Derived.Test.YtolgpnaoaodepaaGreatScaMm
import Derived.Test.YtolgpnaoaodepaaGreatLawTBm
import Derived.Test.YtolgpnaoaodepaaGreatWalkQm
import Derived.Test.YtolgpnaoaodepaaGreatSilAm
import Derived.Test.YtolgpnaoaodepaaGreatScaLm
import Derived.Test.YtolgpnaoaodepaaGreatAidm
namespace Go.Proofs.YtolgpnaoaodepaaGreat
open Go.RowKit

theorem scan_start {V : Tr.Key → Option Tr.Key} {N h : Nat} {t : Tr.TreeT h} (hr : Tr.Root V N h t) (fr : Tr.Key) : Tr.SInv fr (h + 1) [.nd [] 0 h none t] ∧ (∀ k, V k = Tr.afterAll (Tr.left (h + 1) [.nd [] 0 h none t] k) k none) ∧ Tr.wtP [.nd [] 0 h none t] ≤ N := by
  refine ⟨⟨fun p hp => ?_, List.pairwise_singleton ..⟩, fun k => ?_, ?_⟩
  · rw [List.mem_singleton.1 hp]
    exact ⟨hr.wf, hr.top, Tr.room_all, by omega⟩
  · rw [← hr.val k, Tr.val_lev h hr.wf (Tr.inR_all k)]
    congr 1
    refine Tr.down_congr fun d _ => ?_
    show _ = (if d < 0 then [] else Tr.lev h t (d - 0) k) ++ []
    rw [if_neg (by omega), List.append_nil]; rfl
  · show Tr.wt h t + 0 ≤ N
    exact hr.wt
/-- A scan that has only just begun, in memory. -/
theorem sc_start {w W : World} {sb nb rb h p : Nat} {fr ub : ByteArray} {t : Tr.TreeT h} {F : List Nat} (hs : ScB W sb fr ub (.slice (some ⟨rb, 0, none⟩) 1 1)) (hr : W.heap[rb]? = some (.cells #[.pointer (some ⟨nb, 0, none⟩)] 137 (0, 0))) (hn : W.heap[nb]? = some (.cells #[.string ⟨#[]⟩, .int .i64 0, .pointer (some ⟨p, 0, none⟩), .slice none 0 0] 139 (0, 0))) (ht : Rep h w p t F) (hb : Below w.heap.size w W) (h1 : w.heap.size ≤ sb) (h2 : w.heap.size ≤ rb) : ScM w [] sb fr ub [.nd [] 0 h none t] W := by
  have hrow : OwnsPt 0 W (.slice (some ⟨rb, 0, none⟩) 1 1) [nb] := ⟨rfl, .inr ⟨rb, 1, #[.pointer (some ⟨nb, 0, none⟩)], rfl, Nat.zero_le _, hr, Nat.le_refl _, by unfold maxLen; omega, by simp, by simp [ptcells]⟩⟩
  have hpl : PlB W nb ⟨#[]⟩ 0 (some ⟨p, 0, none⟩) (.slice none 0 0) := hn
  refine ⟨.slice (some ⟨rb, 0, none⟩) 1 1, fun _ => (⟨#[]⟩, 0), [(nb, .nd [] 0 h none t)], ⟨hs, hrow, fun b hb' => by rw [List.mem_singleton.1 hb']; exact ⟨_, _, hpl⟩, fun k h0 hk => by simp at hk; omega⟩, List.Perm.refl _, fun x hx => by rw [List.mem_singleton.1 hx]; exact ⟨rfl, rfl, p, F, hpl, ht⟩, hb, h1, fun g hg => by have : rb = g := Option.some.inj hg; omega⟩

/-- Blocks of other kinds are written. -/
theorem ScM.keepT {A : List Nat} {w0 : World} {sb : Nat} {fr ub : ByteArray} {P : List Tr.Plc} {W W' : World} (h : ScM w0 A sb fr ub P W) (hk : ∀ (g : Nat) (cs : Array Value) (T : TypeId), W.heap[g]? = some (.cells cs T (0, 0)) → (T = 143 ∨ T = 139 ∨ T = 137 ∨ T = 34) → W'.heap[g]? = W.heap[g]?) (hb : Below w0.heap.size W W') : ScM w0 A sb fr ub P W' := by
  obtain ⟨v, K, L, hS⟩ := h
  have hrow : ∀ g, v.ownBlock = some g → W'.heap[g]? = W.heap[g]? := fun g hg => by
    rcases hS.hp.row.2 with ⟨rfl, _⟩ | ⟨g', cap, cur, rfl, _, hg', _⟩
    · simp [Value.ownBlock] at hg
    · have e : g' = g := Option.some.inj hg
      subst e
      exact hk _ _ _ hg' (.inr (.inr (.inl rfl)))
  refine ⟨v, K, L, ⟨(hk _ _ _ hS.hp.sc (.inl rfl)).trans hS.hp.sc, row_same hS.hp.row fun g hg _ => hrow g hg, fun b hb' => ?_, hS.hp.heap⟩, hS.pm, fun x hx => ?_, hS.bel.trans hb, hS.sbn, hS.vn⟩
  · obtain ⟨u, c, q⟩ := hS.hp.pl b hb'
    exact ⟨u, c, (hk _ _ _ q (.inr (.inl rfl))).trans q⟩
  · have := hS.pl x hx
    obtain ⟨b, p⟩ := x
    cases p using Tr.Plc.twoP with
    | nd f L h' m' t =>
      obtain ⟨h1, h2, p, F, h3, h4⟩ := this
      exact ⟨h1, h2, p, F, (hk _ _ _ h3 (.inr (.inl rfl))).trans h3, h4⟩
    | ch L f m' c cs =>
      obtain ⟨h1, h2, g, o, cap, ml, cur', h3, h4, h5, h6, h7⟩ := this
      have hkg := hk _ _ _ h5 (.inr (.inr (.inr rfl)))
      exact ⟨h1, h2, g, o, cap, ml, cur', (hk _ _ _ h3 (.inr (.inl rfl))).trans h3, h4, hkg.trans h5, fun j u hj => (World.cell?_of_block (w := W) (a := ⟨g, o + j, none⟩) hkg).trans (h6 j u hj), h7⟩
theorem ScM.mod {A : List Nat} {w0 : World} {sb : Nat} {fr ub : ByteArray} {P : List Tr.Plc} {W W' : World} (h : ScM w0 A sb fr ub P W) {G : Nat → Prop} (m : Mod G W W') (hT : ∀ (g : Nat) (cs : Array Value) (T : TypeId), W.heap[g]? = some (.cells cs T (0, 0)) → G g → T = 136 ∨ T = 51) (hw : ∀ g, G g → w0.heap.size ≤ g) : ScM w0 A sb fr ub P W' := by
  refine h.keepT (fun g cs T hg ht => m.block g (Array.getElem?_eq_some_iff.1 hg).1 fun q => ?_) (m.below h.bel.size hw)
  rcases hT g cs T hg q with e | e <;> subst e <;> revert ht <;> decide
/-- The rest of a scan's memory: its items, its state. -/
structure ScR (w : World) (v : Value) (il : List (ByteArray × ByteArray)) (s : Option (List UInt8)) (W : World) : Prop where
  row : OwnsI w.heap.size W v il
  st : StB W w.heap.size (stV s) (stB s)
  bel : Below w.heap.size w W
theorem ScR.frm {w : World} {sb : Nat} {v : Value} {il : List (ByteArray × ByteArray)} {s : Option (List UInt8)} {W W' : World} (h : ScR w v il s W) (hf : Frm sb W W') (hb : Below w.heap.size w W') (hs : ∀ cs : Array Value, W.heap[sb]? ≠ some (.cells cs 51 (0, 0))) (hs2 : sb ≠ w.heap.size) : ScR w v il s W' := by
  refine ⟨row_same h.row fun g hg hgl => ?_, hf.2 _ _ _ h.st (by decide) (fun e => hs2 e.symm), hb⟩
  rcases h.row.2 with ⟨rfl, _⟩ | ⟨g', cap, cur, rfl, _, hg', _⟩
  · simp [Value.ownBlock] at hg
  · have e : g' = g := Option.some.inj hg
    subst e
    exact (hf.2 _ _ _ hg' (by decide) (fun e => hs cur (by rw [← e]; exact hg'))).trans hg'.symm
theorem ScR.below {w : World} {v : Value} {il : List (ByteArray × ByteArray)} {s : Option (List UInt8)} {W W' : World} (h : ScR w v il s W) (hb : Below W.heap.size W W') : ScR w v il s W' := ⟨row_below h.row hb (Nat.le_refl _), (hb.block _ h.st.lt).trans h.st, h.bel.trans (hb.mono h.bel.size)⟩

/-- A scan's memory about the loop's body. -/
structure ScB' (w : World) (sb : Nat) (fr ub : ByteArray) (P : List Tr.Plc) (cb : Nat) (k : Int) (key x : ByteArray) (v : Value) (il : List (ByteArray × ByteArray)) (s : Option (List UInt8)) (W : World) : Prop where
  r : ScR w v il s W
  c : ChB W cb k key x
  m : ScM w [cb] sb fr ub P W
theorem ScB'.below {w : World} {sb : Nat} {fr ub : ByteArray} {P : List Tr.Plc} {cb : Nat} {k : Int} {key x : ByteArray} {v : Value} {il : List (ByteArray × ByteArray)} {s : Option (List UInt8)} {W W' : World} (h : ScB' w sb fr ub P cb k key x v il s W) (hb : Below W.heap.size W W') : ScB' w sb fr ub P cb k key x v il s W' := ⟨h.r.below hb, (hb.block _ h.c.lt).trans h.c, h.m.below hb⟩
theorem ScB'.put {w : World} {sb : Nat} {fr ub : ByteArray} {P : List Tr.Plc} {cb : Nat} {k : Int} {key x : ByteArray} {v : Value} {il : List (ByteArray × ByteArray)} {s : Option (List UInt8)} {W : World} (h : ScB' w sb fr ub P cb k key x v il s W) (s' : Option (List UInt8)) : ScB' w sb fr ub P cb k key x v il s' ((W.setCell ⟨w.heap.size, 0, none⟩ (.string (stV s'))).setCell ⟨w.heap.size, 1, none⟩ (.bool (stB s'))) := by
  have m1 := Mod.setCell W w.heap.size 0 (.string (stV s'))
  have m2 := Mod.setCell (W.setCell ⟨w.heap.size, 0, none⟩ (.string (stV s'))) w.heap.size 1 (.bool (stB s'))
  have m : Mod (fun g => g = w.heap.size) W ((W.setCell ⟨w.heap.size, 0, none⟩ (.string (stV s'))).setCell ⟨w.heap.size, 1, none⟩ (.bool (stB s'))) := m1.trans m2 (fun _ _ q => q) (fun _ _ q => q)
  have hst := h.r.st
  refine ⟨⟨m.row h.r.row (fun g hg e => blk_type hst h.r.row (by decide) (by rw [← e]; exact hg)), hst.put _ _, h.r.bel.trans (m.below h.r.bel.size fun k e => by omega)⟩, (m.block cb h.c.lt (fun e => ?_)).trans h.c, h.m.mod m (fun g cs T hg e => ?_) (fun g e => by omega)⟩
  · have := h.c
    unfold ChB at this
    unfold StB at hst
    rw [e, hst] at this
    simp at this
  · unfold StB at hst
    rw [e, hst] at hg
    simp at hg
    exact .inl hg.2.symm
theorem ScB'.app {w : World} {sb : Nat} {fr ub : ByteArray} {P : List Tr.Plc} {cb : Nat} {k : Int} {key x : ByteArray} {v v' : Value} {il il' : List (ByteArray × ByteArray)} {s : Option (List UInt8)} {W W' : World} (h : ScB' w sb fr ub P cb k key x v il s W) (ho : OwnsI w.heap.size W' v' il') (hb : Below w.heap.size W W') (hg : W.grownBy W' v.ownBlock) : ScB' w sb fr ub P cb k key x v' il' s W' := by
  have m := Mod.of_grown hg
  refine ⟨⟨ho, (m.block _ h.r.st.lt (blk_type h.r.st h.r.row (by decide))).trans h.r.st, h.r.bel.trans hb⟩, (m.block cb h.c.lt (blk_type h.c h.r.row (by decide))).trans h.c, h.m.mod m (fun g cs T hg' e => ?_) (fun g e => (World.ownsRow.lt h.r.row g e).1)⟩
  by_cases q : T = 51
  · exact .inr q
  · exact absurd e (blk_type hg' h.r.row (fun z => q z.symm))
/-- A scan under way: what it has told, its state, the next change. -/
def SlI (w : World) (V : Tr.Key → Option Tr.Key) (fr ub : ByteArray) (D N sb C : Nat) (a : Value × Value × Value × Value × World) (P : List Tr.Plc) : Prop :=
  ∃ kb il s cb q k key x, a.2.1 = .string kb ∧ a.2.2.1 = .pointer (some ⟨cb, 0, none⟩) ∧ a.2.2.2.1 = .bool q ∧ ScR w a.1 il s a.2.2.2.2 ∧ ChB a.2.2.2.2 cb k key x ∧ w.heap.size < cb ∧ Tr.ScI V fr.data.toList ub.data.toList D (plain il) kb.data.toList s P ∧ il.length + Tr.cnt P ≤ C ∧
    (q = true → ∃ P', Tr.NextS fr.data.toList ub.data.toList D P (chP k key x) P' ∧ ScM w [cb] sb fr ub P' a.2.2.2.2 ∧ Tr.wtP P' ≤ N) ∧ (q = false → Tr.NextN fr.data.toList ub.data.toList D P)
theorem plain_addIt (il : List (ByteArray × ByteArray)) (key : ByteArray) (s : Option (List UInt8)) : plain (addB il key s) = Tr.addIt (plain il) key.data.toList s := plain_addB il key s
theorem addB_len (il : List (ByteArray × ByteArray)) (key : ByteArray) (s : Option (List UInt8)) : (addB il key s).length ≤ il.length + 1 := by cases s <;> simp [addB]
theorem NxQ.uni {A : List Nat} {w0 : World} {sb : Nat} {fr ub : ByteArray} {D : Nat} {P : List Tr.Plc} {W : World} {r : Ending} {W' : World} (h : NxQ w0 A sb fr ub D P W r W') : ∃ k key x q, r = .returned (.tuple #[.agg #[.int .i64 k, .string key, .string x], .bool q]) ∧ (q = true → ∃ P', Tr.NextS fr.data.toList ub.data.toList D P (chP k key x) P' ∧ ScM w0 A sb fr ub P' W' ∧ Tr.wtP P' ≤ Tr.wtP P) ∧ (q = false → Tr.NextN fr.data.toList ub.data.toList D P) ∧ Below w0.heap.size w0 W' ∧ Frm sb W W' := by
  rcases h with ⟨k, key, x, P', h1, h2, h3, h4, h5⟩ | ⟨k, key, x, h1, h2, h3, h4⟩
  · exact ⟨k, key, x, true, h1, fun _ => ⟨P', h2, h4, h3⟩, fun e => absurd e (by simp), h4.bel, h5⟩
  · exact ⟨k, key, x, false, h1, fun e => absurd e (by simp), fun _ => h2, h3, h4⟩
theorem ScM.noItem {A : List Nat} {w0 : World} {sb : Nat} {fr ub : ByteArray} {P : List Tr.Plc} {W : World} (h : ScM w0 A sb fr ub P W) : ∀ cs : Array Value, W.heap[sb]? ≠ some (.cells cs 51 (0, 0)) := fun cs e => by
  obtain ⟨v, hv⟩ := h.sc
  unfold ScB at hv
  rw [hv] at e
  simp at e
/-- What is there when the first change is asked for. -/
theorem scan_first {w : World} {h p : Nat} {t : Tr.TreeT h} {F : List Nat} (fr ub : ByteArray) (ht : Rep h w p t F) :
    ScM w [] (w.heap.size + 1 + 1 + 1) fr ub [.nd [] 0 h none t] ((((w.alloc (.cells #[.string ⟨#[]⟩, .bool false] 136)).alloc (.cells #[.string ⟨#[]⟩, .int .i64 0, .pointer (some ⟨p, 0, none⟩), .slice none 0 0] 139)).alloc (.cells #[.pointer (some ⟨w.heap.size + 1, 0, none⟩)] 137)).alloc (.cells #[.string fr, .string ub, .slice (some ⟨w.heap.size + 1 + 1, 0, none⟩) 1 1] 143)) ∧ ScR w (.slice none 0 0) [] none ((((w.alloc (.cells #[.string ⟨#[]⟩, .bool false] 136)).alloc (.cells #[.string ⟨#[]⟩, .int .i64 0, .pointer (some ⟨p, 0, none⟩), .slice none 0 0] 139)).alloc (.cells #[.pointer (some ⟨w.heap.size + 1, 0, none⟩)] 137)).alloc (.cells #[.string fr, .string ub, .slice (some ⟨w.heap.size + 1 + 1, 0, none⟩) 1 1] 143)) := by
  have h1 := heap_alloc_new w (.cells #[.string ⟨#[]⟩, .bool false] 136)
  have b1 : Below w.heap.size w (w.alloc (.cells #[.string ⟨#[]⟩, .bool false] 136)) := (Below.refl _ w).alloc (Nat.le_refl _) _
  have z1 : (w.alloc (.cells #[.string ⟨#[]⟩, .bool false] 136)).heap.size = w.heap.size + 1 := by simp
  generalize w.alloc (.cells #[.string ⟨#[]⟩, .bool false] 136) = w1 at *
  have h2 := heap_alloc_new w1 (.cells #[.string ⟨#[]⟩, .int .i64 0, .pointer (some ⟨p, 0, none⟩), .slice none 0 0] 139)
  have b2 : Below w1.heap.size w1 (w1.alloc (.cells #[.string ⟨#[]⟩, .int .i64 0, .pointer (some ⟨p, 0, none⟩), .slice none 0 0] 139)) := (Below.refl _ w1).alloc (Nat.le_refl _) _
  have z2 : (w1.alloc (.cells #[.string ⟨#[]⟩, .int .i64 0, .pointer (some ⟨p, 0, none⟩), .slice none 0 0] 139)).heap.size = w1.heap.size + 1 := by simp
  generalize w1.alloc (.cells #[.string ⟨#[]⟩, .int .i64 0, .pointer (some ⟨p, 0, none⟩), .slice none 0 0] 139) = w2 at *
  have h3 := heap_alloc_new w2 (.cells #[.pointer (some ⟨w.heap.size + 1, 0, none⟩)] 137)
  have b3 : Below w2.heap.size w2 (w2.alloc (.cells #[.pointer (some ⟨w.heap.size + 1, 0, none⟩)] 137)) := (Below.refl _ w2).alloc (Nat.le_refl _) _
  have z3 : (w2.alloc (.cells #[.pointer (some ⟨w.heap.size + 1, 0, none⟩)] 137)).heap.size = w2.heap.size + 1 := by simp
  generalize w2.alloc (.cells #[.pointer (some ⟨w.heap.size + 1, 0, none⟩)] 137) = w3 at *
  have h4 := heap_alloc_new w3 (.cells #[.string fr, .string ub, .slice (some ⟨w.heap.size + 1 + 1, 0, none⟩) 1 1] 143)
  have b4 : Below w3.heap.size w3 (w3.alloc (.cells #[.string fr, .string ub, .slice (some ⟨w.heap.size + 1 + 1, 0, none⟩) 1 1] 143)) := (Below.refl _ w3).alloc (Nat.le_refl _) _
  generalize w3.alloc (.cells #[.string fr, .string ub, .slice (some ⟨w.heap.size + 1 + 1, 0, none⟩) 1 1] 143) = w4 at *
  have bel : Below w.heap.size w w4 := ((b1.trans (b2.mono (by omega))).trans (b3.mono (by omega))).trans (b4.mono (by omega))
  rw [z3, z2, z1] at h4
  rw [z2, z1] at h3
  rw [z1] at h2
  refine ⟨sc_start h4 ((b4.block _ (by omega)).trans h3) ((b4.block _ (by omega)).trans ((b3.block _ (by omega)).trans h2)) ht bel (by omega) (by omega), World.ownsRow_nil _ _ _ _, (b4.block _ (by omega)).trans ((b3.block _ (by omega)).trans ((b2.block _ (by omega)).trans h1)), bel⟩

set_option maxHeartbeats 2000000 in
set_option maxRecDepth 4000 in
theorem tScan_any (V : Tr.Key → Option Tr.Key) (N b : Nat) (F : List Nat) (fr ub : ByteArray) (w : World) (ht : TreM V N b F w) (hN : N ≤ 90000) :
    Calls Tryz.prog 39 #[.pointer (some ⟨b, 0, none⟩), .string fr, .string ub] w fun r w' => ∃ v il, r = .returned v ∧ OwnsI w.heap.size w' v il ∧ Below w.heap.size w w' ∧ Tr.Rising (plain il) ∧ ∀ k, (¬ k < fr.data.toList ∧ Tr.inTo ub.data.toList k → Tr.look (plain il) k = V k) ∧ (¬ (¬ k < fr.data.toList ∧ Tr.inTo ub.data.toList k) → Tr.look (plain il) k = none) := by
  obtain ⟨h, p, t, hh, hq⟩ := ht
  obtain ⟨t0, t1⟩ := hq.tb.cells
  have hbl := hq.tb.lt
  obtain ⟨hinv, hval, hwt⟩ := scan_start hq.root fr.data.toList
  obtain ⟨hS0, hR0⟩ := scan_first fr ub hq.rep
  have hC0 : Tr.cnt [.nd [] 0 h none t] ≤ 1440000 := by
    have h1 := Tr.cntT_le h hq.root.wf hq.root.top
    have h2 := hq.root.wt
    show Tr.cntT h t + 0 ≤ _
    omega
  have HI0 := hid (Tr.ScI.start (ub := ub.data.toList) hinv fun k _ => hval k)
  have HNX := hid (sNext_any hS0 hinv (by omega) (by omega) (fun a ha => by cases ha))
  have HR0 := hid hR0
  have HS0 := hid hS0
  clear hinv hval hS0 hR0 hq
  generalize hP0 : [Tr.Plc.nd [] 0 h none t] = P0 at *
  obtain ⟨μ, hμ1, hμ2⟩ := min_fun (SlI w V fr ub (h + 1) N (w.heap.size + 1 + 1 + 1) 1440000) Tr.size
  have HM1 := hid hμ1
  have HM2 := hid hμ2
  clear hμ1 hμ2
  go_enter Tryz.func39, Tryz.ntmps39
  go_wp2_with fail
  refine HNX.out.mono ?_
  rintro r w1 hnx
  obtain ⟨k, key, x, q, rfl, hq1, hq2, hb1, hf1⟩ := hnx.uni
  have hr1 := HR0.out.frm hf1 hb1 HS0.out.noItem (by omega)
  have hba : Below w1.heap.size w1 (w1.alloc (.cells #[.int .i64 k, .string key, .string x] 34)) := (Below.refl _ w1).alloc (Nat.le_refl _) _
  have HST : Hid (SlI w V fr ub (h + 1) N (w.heap.size + 1 + 1 + 1) 1440000 (.slice none 0 0, .string ⟨#[]⟩, .pointer (some ⟨w1.heap.size, 0, none⟩), .bool q, w1.alloc (.cells #[.int .i64 k, .string key, .string x] 34)) P0) :=
    ⟨⟨#[]⟩, [], none, w1.heap.size, q, k, key, x, rfl, rfl, rfl, hr1.below hba, heap_alloc_new _ _, hr1.st.lt, HI0.out, by simpa using hC0, fun e => by
      obtain ⟨P', h1, h2, h3⟩ := hq1 e
      exact ⟨P', h1, (h2.more (Nat.le_refl _)).below hba, Nat.le_trans h3 hwt⟩, hq2⟩
  clear hq1 hq2 hb1 hf1 hr1 hba hnx HNX
  go_wp2_with fail
  go_loopw [7, 8, 11, 12] (fun v7 v8 v11 v12 wr => ∃ P, SlI w V fr ub (h + 1) N (w.heap.size + 1 + 1 + 1) 1440000 (v7, v8, v11, v12, wr) P) (fun v7 v8 v11 v12 wr => μ (v7, v8, v11, v12, wr))
  case atStart => exact ⟨P0, HST.out⟩
  case round =>
    obtain ⟨P1, hI, hsz⟩ := HM2.out _ hrel
    clear hrel
    obtain ⟨kb, il, s, cb, q1, k1, key1, x1, e8, e11, e12, hR, hC, hcb, hSI, hcn, hT, hFl⟩ := hI
    have e8 : u8 = .string kb := e8
    have e11 : u11 = .pointer (some ⟨cb, 0, none⟩) := e11
    have e12 : u12 = .bool q1 := e12
    subst e8 e11 e12
    have HR := hid hR
    have HC := hid hC
    have HSI := hid hSI
    have HT := hid hT
    have HFL := hid hFl
    have HSZ := hid hsz
    obtain ⟨c0, c1, c2⟩ := HC.out.cells
    obtain ⟨s0, s1, s2, s3⟩ := HR.out.st.cells
    clear hR hC hSI hT hFl hsz
    cases q1 with
    | false =>
      have HAP := hid (appendItem_any s w.heap.size u7 il kb wr HR.out.row HR.out.bel.size (by omega))
      go_wp2_with fail
      refine HAP.out.mono ?_
      rintro r w5 ⟨v5, rfl, ho5, hb5, -, -⟩
      have hnn := HFL.out (by first | rfl | trivial)
      obtain ⟨hrise, hlook⟩ := HSI.out.told hnn
      have HF : Hid (OwnsI w.heap.size w5 v5 (addB il kb s) ∧ Below w.heap.size w w5 ∧ Tr.Rising (plain (addB il kb s)) ∧ ∀ k, (¬ k < fr.data.toList ∧ Tr.inTo ub.data.toList k → Tr.look (plain (addB il kb s)) k = V k) ∧ (¬ (¬ k < fr.data.toList ∧ Tr.inTo ub.data.toList k) → Tr.look (plain (addB il kb s)) k = none)) := by
        rw [plain_addIt]
        exact ⟨ho5, HR.out.bel.trans hb5, hrise, hlook⟩
      clear ho5 hb5 hnn hrise hlook
      go_wp2_with fail
      go_ret
      exact ⟨_, _, rfl, HF.out⟩
    | true =>
      obtain ⟨P', hnx, hSM, hwp⟩ := HT.out rfl
      have HNX := hid hnx
      have HWP := hid hwp
      have HB := hid (ScB'.mk HR.out HC.out hSM)
      have HSZ' := hid hnx.size
      have hcn' : il.length + 1 + Tr.cnt P' ≤ 1440000 := by have := hnx.cn; omega
      have hsl : ∀ s' : Option (List UInt8), (∀ v, s' = some v → v.length ≤ 16) → (s'.getD []).length ≤ 1000000 := fun s' h => by
        cases s' with
        | none => simp
        | some v => have := h v rfl; show v.length ≤ _; omega
      have hx16 : x1.size ≤ 1000000 := by
        have := (Tr.okCh_key hnx.okc).2
        have h2 : x1.data.toList.length ≤ 16 := this
        have h3 : x1.size ≤ 16 := by simpa using h2
        omega
      clear hnx hSM hwp
      by_cases he : key1.data.toList = kb.data.toList
      case pos =>
        have r1 : (key1.toList == kb.toList) = true := by rw [toList_is, toList_is]; simpa using he
        have HAF := hid (after_any s k1 key1 x1 wr (hsl s HSI.out.len) hx16)
        go_wp2_with fail
        refine HAF.out.mono ?_
        rintro r w7 ⟨rfl, hb7⟩
        have hB7 := HB.out.below hb7
        obtain ⟨f0, f1, f2, f3⟩ := hB7.r.st.cells
        have HB8 := hid (hB7.put (Tr.after s (chP k1 key1 x1)))
        have HSI8 : Hid (Tr.ScI V fr.data.toList ub.data.toList (h + 1) (plain il) kb.data.toList (Tr.after s (chP k1 key1 x1)) P') := HSI.out.stay HNX.out he
        have HCN8 : Hid (il.length + Tr.cnt P' ≤ 1440000) := by show _ ≤ _; omega
        generalize Tr.after s (chP k1 key1 x1) = s8 at *
        obtain ⟨w8, hw8⟩ : ∃ w8, (w7.setCell ⟨w.heap.size, 0, none⟩ (.string (stV s8))).setCell ⟨w.heap.size, 1, none⟩ (.bool (stB s8)) = w8 := ⟨_, rfl⟩
        rw [hw8] at HB8
        obtain ⟨j0, j1, j2⟩ := HB8.out.c.cells
        clear hb7 hB7 HAF c0 c1 c2 s0 s1 s2 s3
        go_upto_region 11 with fail
        clear hw8 f0 f1 f2 f3
        have hba : Below w8.heap.size w8 (w8.alloc (.cells #[.int .i64 k1, .string key1, .string x1] 34)) := (Below.refl _ w8).alloc (Nat.le_refl _) _
        have hM9 : ScM w [w8.heap.size] (w.heap.size + 1 + 1 + 1) fr ub P' (w8.alloc (.cells #[.int .i64 k1, .string key1, .string x1] 34)) := (HB8.out.m.less.more (Nat.le_refl _)).below hba
        have hR9 := HB8.out.r.below hba
        have hC9 : ChB (w8.alloc (.cells #[.int .i64 k1, .string key1, .string x1] 34)) w8.heap.size k1 key1 x1 := heap_alloc_new _ _
        have HN9 := hid (sNext_any hM9 HSI8.out.inv (Nat.le_trans HWP.out hN) (by omega) (fun a ha => by rw [List.mem_singleton.1 ha]; simp))
        have HM9 := hid hM9
        have HR9 := hid hR9
        have HC9 := hid hC9
        have hst8 := HB8.out.r.st.lt
        clear hba hM9 hR9 hC9
        go_wp2_with fail
        refine HN9.out.mono ?_
        rintro r w10 hnx10
        obtain ⟨k2, key2, x2, q2, rfl, hq1, hq2, hb10, hf10⟩ := hnx10.uni
        have hR10 := HR9.out.frm hf10 hb10 HM9.out.noItem (by omega)
        have hC10 : ChB w10 w8.heap.size k1 key1 x1 := hf10.2 _ _ _ HC9.out (by decide) (by obtain ⟨vq, hvq⟩ := HB8.out.m.sc; have := hvq.lt; omega)
        have hm := Mod.set3 w10 w8.heap.size 0 (.int .i64 k2) (.string key2) (.string x2)
        have hC11 := hC10.put k2 key2 x2
        have hR11 : ScR w u7 il s8 (((w10.setCell ⟨w8.heap.size, 0, none⟩ (.int .i64 k2)).setCell ⟨w8.heap.size, 1, none⟩ (.string key2)).setCell ⟨w8.heap.size, 2, none⟩ (.string x2)) := ⟨hm.row hR10.row (fun g hg e => blk_type hC10 hR10.row (by decide) (by rw [← e]; exact hg)), (hm.block _ hR10.st.lt (by omega)).trans hR10.st, hR10.bel.trans (hm.below hR10.bel.size fun k e => by omega)⟩
        have HS11 : Hid (SlI w V fr ub (h + 1) N (w.heap.size + 1 + 1 + 1) 1440000 (u7, .string kb, .pointer (some ⟨w8.heap.size, 0, none⟩), .bool q2, ((w10.setCell ⟨w8.heap.size, 0, none⟩ (.int .i64 k2)).setCell ⟨w8.heap.size, 1, none⟩ (.string key2)).setCell ⟨w8.heap.size, 2, none⟩ (.string x2)) P') :=
          ⟨kb, il, s8, w8.heap.size, q2, k2, key2, x2, rfl, rfl, rfl, hR11, hC11, hst8, HSI8.out, HCN8.out, fun e => by
            obtain ⟨P2, z1, z2, z3⟩ := hq1 e
            exact ⟨P2, z1, z2.set hC10 (List.mem_singleton.2 rfl) (by omega) hm, Nat.le_trans z3 HWP.out⟩, hq2⟩
        have HMU := hid (Nat.lt_of_le_of_lt (HM1.out _ _ HS11.out) HSZ'.out)
        obtain ⟨i0, i1, i2⟩ := hC10.cells
        have hfz : ∀ o, w10.frozen? ⟨w8.heap.size, o, none⟩ = false := fun o => by
          unfold ChB at hC10
          simp [World.frozen?, hC10]
        clear hq1 hq2 hb10 hf10 hR10 hC10 hm hC11 hR11 hnx10 HN9 HM9 HR9 HC9
        go_wp2_with fail
        exact ⟨⟨P', HS11.out⟩, by rw [← HSZ.out]; exact HMU.out⟩
      case neg =>
        have r1 : (key1.toList == kb.toList) = false := by rw [toList_is, toList_is]; simpa using he
        have HAP := hid (appendItem_any s w.heap.size u7 il kb wr HR.out.row HR.out.bel.size (by omega))
        go_wp2_with fail
        refine HAP.out.mono ?_
        rintro r w5 ⟨v5, rfl, ho5, hb5, hg5, -⟩
        have hB5 := HB.out.app ho5 hb5 hg5
        obtain ⟨f0, f1, f2, f3⟩ := hB5.r.st.cells
        obtain ⟨m0, m1, m2⟩ := hB5.c.cells
        have hB6 := hB5.put none
        have HB6 := hid hB6
        obtain ⟨o0, o1, o2, o3⟩ := hB6.r.st.cells
        obtain ⟨l0, l1, l2⟩ := hB6.c.cells
        have HAF := hid (after_any none k1 key1 x1 ((w5.setCell ⟨w.heap.size, 0, none⟩ (.string (stV none))).setCell ⟨w.heap.size, 1, none⟩ (.bool (stB none))) (by simp) hx16)
        have HSI8 : Hid (Tr.ScI V fr.data.toList ub.data.toList (h + 1) (plain (addB il kb s)) key1.data.toList (Tr.after none (chP k1 key1 x1)) P') := by
          show Tr.ScI _ _ _ _ _ _ _ _
          rw [plain_addIt]
          exact HSI.out.turn HNX.out he
        have HCN8 : Hid ((addB il kb s).length + Tr.cnt P' ≤ 1440000) := by
          show _ ≤ _
          have := addB_len il kb s
          omega
        clear ho5 hb5 hg5 hB5 hB6 HAP
        go_wp2_with fail
        refine HAF.out.mono ?_
        rintro r w7 ⟨rfl, hb7⟩
        have hB7 := HB6.out.below hb7
        obtain ⟨f4, f5, f6, f7⟩ := hB7.r.st.cells
        have HB8 := hid (hB7.put (Tr.after none (chP k1 key1 x1)))
        generalize Tr.after none (chP k1 key1 x1) = s8 at *
        obtain ⟨w8, hw8⟩ : ∃ w8, (w7.setCell ⟨w.heap.size, 0, none⟩ (.string (stV s8))).setCell ⟨w.heap.size, 1, none⟩ (.bool (stB s8)) = w8 := ⟨_, rfl⟩
        rw [hw8] at HB8
        obtain ⟨j0, j1, j2⟩ := HB8.out.c.cells
        clear hb7 hB7 HAF HB6 c0 c1 c2 s0 s1 s2 s3 f0 f1 f2 f3 m0 m1 m2 o0 o1 o2 o3 l0 l1 l2
        go_upto_region 11 with fail
        clear hw8 f4 f5 f6 f7
        have hba : Below w8.heap.size w8 (w8.alloc (.cells #[.int .i64 k1, .string key1, .string x1] 34)) := (Below.refl _ w8).alloc (Nat.le_refl _) _
        have hM9 : ScM w [w8.heap.size] (w.heap.size + 1 + 1 + 1) fr ub P' (w8.alloc (.cells #[.int .i64 k1, .string key1, .string x1] 34)) := (HB8.out.m.less.more (Nat.le_refl _)).below hba
        have hR9 := HB8.out.r.below hba
        have hC9 : ChB (w8.alloc (.cells #[.int .i64 k1, .string key1, .string x1] 34)) w8.heap.size k1 key1 x1 := heap_alloc_new _ _
        have HN9 := hid (sNext_any hM9 HSI8.out.inv (Nat.le_trans HWP.out hN) (by omega) (fun a ha => by rw [List.mem_singleton.1 ha]; simp))
        have HM9 := hid hM9
        have HR9 := hid hR9
        have HC9 := hid hC9
        have hst8 := HB8.out.r.st.lt
        clear hba hM9 hR9 hC9
        go_wp2_with fail
        refine HN9.out.mono ?_
        rintro r w10 hnx10
        obtain ⟨k2, key2, x2, q2, rfl, hq1, hq2, hb10, hf10⟩ := hnx10.uni
        have hR10 := HR9.out.frm hf10 hb10 HM9.out.noItem (by omega)
        have hC10 : ChB w10 w8.heap.size k1 key1 x1 := hf10.2 _ _ _ HC9.out (by decide) (by obtain ⟨vq, hvq⟩ := HB8.out.m.sc; have := hvq.lt; omega)
        have hm := Mod.set3 w10 w8.heap.size 0 (.int .i64 k2) (.string key2) (.string x2)
        have hC11 := hC10.put k2 key2 x2
        have hR11 : ScR w v5 (addB il kb s) s8 (((w10.setCell ⟨w8.heap.size, 0, none⟩ (.int .i64 k2)).setCell ⟨w8.heap.size, 1, none⟩ (.string key2)).setCell ⟨w8.heap.size, 2, none⟩ (.string x2)) := ⟨hm.row hR10.row (fun g hg e => blk_type hC10 hR10.row (by decide) (by rw [← e]; exact hg)), (hm.block _ hR10.st.lt (by omega)).trans hR10.st, hR10.bel.trans (hm.below hR10.bel.size fun k e => by omega)⟩
        have HS11 : Hid (SlI w V fr ub (h + 1) N (w.heap.size + 1 + 1 + 1) 1440000 (v5, .string key1, .pointer (some ⟨w8.heap.size, 0, none⟩), .bool q2, ((w10.setCell ⟨w8.heap.size, 0, none⟩ (.int .i64 k2)).setCell ⟨w8.heap.size, 1, none⟩ (.string key2)).setCell ⟨w8.heap.size, 2, none⟩ (.string x2)) P') :=
          ⟨key1, (addB il kb s), s8, w8.heap.size, q2, k2, key2, x2, rfl, rfl, rfl, hR11, hC11, hst8, HSI8.out, HCN8.out, fun e => by
            obtain ⟨P2, z1, z2, z3⟩ := hq1 e
            exact ⟨P2, z1, z2.set hC10 (List.mem_singleton.2 rfl) (by omega) hm, Nat.le_trans z3 HWP.out⟩, hq2⟩
        have HMU := hid (Nat.lt_of_le_of_lt (HM1.out _ _ HS11.out) HSZ'.out)
        obtain ⟨i0, i1, i2⟩ := hC10.cells
        have hfz : ∀ o, w10.frozen? ⟨w8.heap.size, o, none⟩ = false := fun o => by
          unfold ChB at hC10
          simp [World.frozen?, hC10]
        clear hq1 hq2 hb10 hf10 hR10 hC10 hm hC11 hR11 hnx10 HN9 HM9 HR9 HC9
        go_wp2_with fail
        exact ⟨⟨P', HS11.out⟩, by rw [← HSZ.out]; exact HMU.out⟩
end Go.Proofs.YtolgpnaoaodepaaGreat
/- The walks of silt's Tree: New, Make, Scan. -/
namespace Go.Proofs.YtolgpnaoaodepaaGreat
open Go.RowKit Go.MuLone

theorem ST.below {w w' : World} {x b : Nat} (h : ST w x b) (hb : Below w.heap.size w w') : ST w' x b := (hb.block x h.lt).trans h
theorem Gone.of_mod {F F' : List Nat} {w w0 w1 : World} (hb : Below w.heap.size w w0) (hm : Mod (fun g => g ∈ F) w0 w1) (hs : ∀ g ∈ F', g ∈ F ∨ w0.heap.size ≤ g) : Gone F F' w w1 :=
  ⟨(Mod.of_below (F := fun g => g ∈ F) hb).trans hm (fun _ _ q => q) (fun _ _ q => q), fun g hg => (hs g hg).imp id (Nat.le_trans hb.size)⟩

set_option maxHeartbeats 400000 in
theorem sNew_any (w : World) :
    Calls Tryz.prog 12 #[] w fun r w' => ∃ x b F, r = .returned (.pointer (some ⟨x, 0, none⟩)) ∧ ST w' x b ∧ TreM (fun _ => none) 1 b F w' ∧ (∀ g ∈ x :: b :: F, w.heap.size ≤ g) ∧ x ∉ b :: F ∧ Below w.heap.size w w' := by
  go_enter Tryz.func12, Tryz.ntmps12
  go_wp2_with fail
  refine (tNew_any w).mono ?_
  rintro r w1 ⟨b, F, rfl, ht, hF, hb1⟩
  have hs1 := hb1.size
  have hb2 : Below w1.heap.size w1 (w1.alloc (.cells #[.int .i32 0, .int .u32 0, .pointer (some ⟨b, 0, none⟩)] 95)) := (Below.refl _ w1).alloc (Nat.le_refl _) _
  have H : Hid (∃ b' F', ST (w1.alloc (.cells #[.int .i32 0, .int .u32 0, .pointer (some ⟨b, 0, none⟩)] 95)) w1.heap.size b' ∧ TreM (fun _ => none) 1 b' F' (w1.alloc (.cells #[.int .i32 0, .int .u32 0, .pointer (some ⟨b, 0, none⟩)] 95)) ∧ (∀ g ∈ w1.heap.size :: b' :: F', w.heap.size ≤ g) ∧ w1.heap.size ∉ b' :: F' ∧ Below w.heap.size w (w1.alloc (.cells #[.int .i32 0, .int .u32 0, .pointer (some ⟨b, 0, none⟩)] 95))) :=
    ⟨b, F, heap_alloc_new _ _, ht.keep fun g hg => hb2.block g (ht.lt g hg), fun g hg => (List.mem_cons.1 hg).elim (fun e => by omega) (hF g), fun q => by have := ht.lt _ q; omega, hb1.trans (hb2.mono hs1)⟩
  clear ht hF hb1 hs1 hb2
  go_wp2_with fail
  go_ret
  obtain ⟨b', F', h1, h2, h3, h4, h5⟩ := H.out
  exact ⟨_, b', F', rfl, h1, h2, h3, h4, h5⟩

def SmQ (V : Tr.Key → Option Tr.Key) (N x b : Nat) (F : List Nat) (k : Int) (key v : ByteArray) (w : World) (r : Ending) (w' : World) : Prop :=
  r = .returned (.int .i64 (if Pg.isChange k key.size v.size then 0 else 1)) ∧ ST w' x b ∧ ∃ F', TreM (if Pg.isChange k key.size v.size then fun k' => Tr.one k' (V k') (chP k key v) else V) (N + 1) b F' w' ∧ Gone (b :: F) (b :: F') w w'
theorem TreM.up {V : Tr.Key → Option Tr.Key} {N b : Nat} {F : List Nat} {w : World} (h : TreM V N b F w) : TreM V (N + 1) b F w := by
  obtain ⟨h, p, t, hh, hq⟩ := h
  exact ⟨h, p, t, Nat.le_trans hh (Nat.mul_le_mul_right _ (Nat.le_succ N)), hq.tb, hq.rep, hq.nd, hq.nb, hq.root.wf, hq.root.top, hq.root.val, Nat.le_trans hq.root.wt (Nat.le_succ _)⟩

theorem sm_end {V' : Tr.Key → Option Tr.Key} {N x b : Nat} {F F' : List Nat} {w w0 w3 : World} (hb0 : Below w.heap.size w w0) (hs0 : ST w0 x b) (hm : Mod (fun g => g ∈ b :: F) (w0.setCell ⟨x, 0, none⟩ (.int .i32 1)) w3) (hx : x ∉ b :: F) (ht : TreM V' N b F' w3) (hF : ∀ g ∈ b :: F', g ∈ b :: F ∨ w0.heap.size ≤ g) : ST (w3.setCell ⟨x, 0, none⟩ (.int .i32 0)) x b ∧ TreM V' N b F' (w3.setCell ⟨x, 0, none⟩ (.int .i32 0)) ∧ Gone (b :: F) (b :: F') w (w3.setCell ⟨x, 0, none⟩ (.int .i32 0)) := by
  obtain ⟨m, hs⟩ := lock_mod hs0 hm hx
  refine ⟨hs, ht.keep fun g hg => (Mod.setCell w3 x 0 (.int .i32 0)).block g (ht.lt g hg) fun e => ?_, Gone.of_mod hb0 m hF⟩
  rcases hF g hg with q | q
  · exact hx (by rw [← e]; exact q)
  · have := hs0.lt; omega

set_option maxHeartbeats 1000000 in
set_option maxRecDepth 20000 in
theorem sMake_any (V : Tr.Key → Option Tr.Key) (N x b : Nat) (F : List Nat) (k : Int) (key v : ByteArray) (w : World) (hs : ST w x b) (ht : TreM V N b F w) (hx : x ∉ b :: F) (hN : N + 1 ≤ 90000) :
    Calls Tryz.prog 14 #[.pointer (some ⟨x, 0, none⟩), .agg #[.int .i64 k, .string key, .string v]] w (SmQ V N x b F k key v w) := by
  have hb0 : Below w.heap.size w (w.alloc (.cells #[.int .i64 k, .string key, .string v] 34)) := (Below.refl _ w).alloc (Nat.le_refl _) _
  have HB0 := hid hb0
  have HXW := hid hs.lt
  have HX := hid hx
  have hs0 := hs.below hb0
  have ht0 : TreM V N b F (w.alloc (.cells #[.int .i64 k, .string key, .string v] 34)) := ht.keep fun g hg => hb0.block g (ht.lt g hg)
  have hc0 : ChB (w.alloc (.cells #[.int .i64 k, .string key, .string v] 34)) w.heap.size k key v := heap_alloc_new _ _
  clear hs ht hx hb0
  generalize hw0 : w.alloc (.cells #[.int .i64 k, .string key, .string v] 34) = w0 at *
  have HW0 := hid hw0
  clear hw0
  have HS0 := hid hs0
  have HM1 := hid (Mod.setCell w0 x 0 (.int .i32 1))
  have HL1 := hid hs0.lock
  have HT1 : Hid (TreM V N b F (w0.setCell ⟨x, 0, none⟩ (.int .i32 1))) := ht0.keep fun g hg => HM1.out.block g (ht0.lt g hg) fun e => HX.out (by rw [← e]; exact hg)
  have HC1 : Hid (ChB (w0.setCell ⟨x, 0, none⟩ (.int .i32 1)) w.heap.size k key v) := (HM1.out.block _ hc0.lt (by have := HXW.out; omega)).trans hc0
  obtain ⟨s0, s2, sf⟩ := hs0.cells
  have sf0 := sf 0
  obtain ⟨d0, d1, d2⟩ := HC1.out.cells
  clear hs0 ht0 hc0 sf
  go_enter_defers Tryz.func14, Tryz.ntmps14
  go_wp2_with (go_at_call 34; rw [HW0.out]; refine (lock_free muLib ⟨x, 0, none⟩ w0 s0 sf0).mono ?_; rintro e w' ⟨rfl, rfl⟩)
  have HSZ : Hid ((w0.setCell ⟨x, 0, none⟩ (.int .i32 1)).heap.size = w0.heap.size) := by show _ = _; simp [World.setCell]
  refine (isChange_any k key v _).mono ?_
  rintro r w2 ⟨rfl, hb2⟩
  have HB2 := hid hb2
  have HL2 : Hid (SL w2 x b) := (hb2.block x HL1.out.lt).trans HL1.out
  have HC2 : Hid (ChB w2 w.heap.size k key v) := (hb2.block _ HC1.out.lt).trans HC1.out
  have HT2 : Hid (TreM V N b F w2) := HT1.out.keep fun g hg => hb2.block g (HT1.out.lt g hg)
  clear hb2 d0 d1 d2 s0 s2 sf0
  obtain ⟨d0, d1, d2⟩ := HC2.out.cells
  obtain ⟨l0, l2, lf⟩ := HL2.out.cells
  have lf0 := lf 0
  clear lf
  cases hch : Pg.isChange k key.size v.size with
  | false =>
    have HE := hid (sm_end (V' := V) (N := N + 1) (F' := F) HB0.out HS0.out (Mod.of_below HB2.out) HX.out HT2.out.up (fun g hg => .inl hg))
    have HCH := hid hch
    clear hch
    go_wp2_with fail
    refine leaves_cons (f := 35) (args := #[.pointer (some ⟨x, 0, none⟩)]) (by simp) (by simp [go_sem]) ?_
    refine (unlock_deferred muLib ⟨x, 0, none⟩ .returning _ l0 lf0).mono ?_
    rintro e u' w'' ⟨rfl, rfl, rfl⟩
    refine ⟨_, results_tmp rfl _ _ _, ?_⟩
    unfold SmQ
    rw [HCH.out]
    exact ⟨rfl, HE.out.1, F, HE.out.2⟩
  | true =>
    have HMK := hid (tMake_any V N b F k key v w2.drew (HT2.out.keep fun _ _ => rfl) hN (show Tr.okCh (chP k key v) by
      show Pg.isChange k key.data.toList.length v.data.toList.length = true
      rw [len_size, len_size]; exact hch))
    have HCH := hid hch
    clear hch
    go_upto_region 5 with fail
    first | go_region_law (go_simp; go_at_call 37; refine HMK.out.mono ?_; rintro r w3 ⟨rfl, F', ht3, hg3⟩; have HE := hid (sm_end (V' := fun k' => Tr.one k' (V k') (chP k key v)) (N := N + 1) (F' := F') HB0.out HS0.out (((Mod.of_below (F := fun g => g ∈ b :: F) HB2.out).trans (show Mod (fun g => g ∈ b :: F) w2 w3 from ⟨hg3.1.os, hg3.1.tape, hg3.1.output, hg3.1.size, hg3.1.block⟩) (fun _ _ q => q) (fun _ _ q => q))) HX.out ht3 (fun g hg => (hg3.2 g hg).imp id (fun q => by have h1 : w2.heap.size ≤ g := q; have h2 := HB2.out.size; rw [HSZ.out] at h2; omega))); have HL3 : Hid (SL w3 x b) := (hg3.1.block x HL2.out.lt HX.out).trans HL2.out; clear ht3 hg3; obtain ⟨z0, z2, zf⟩ := HL3.out.cells; have zf0 := zf 0; clear zf) | fail
    all_goals
      go_wp2_with fail
      refine leaves_cons (f := 35) (args := #[.pointer (some ⟨x, 0, none⟩)]) (by simp) (by simp [go_sem]) ?_
      refine (unlock_deferred muLib ⟨x, 0, none⟩ .returning _ z0 zf0).mono ?_
      rintro e u' w'' ⟨rfl, rfl, rfl⟩
      refine ⟨_, results_tmp rfl _ _ _, ?_⟩
      unfold SmQ
      rw [HCH.out]
      exact ⟨rfl, HE.out.1, F', HE.out.2⟩

set_option maxHeartbeats 1000000 in
set_option maxRecDepth 20000 in
theorem sScan_any (V : Tr.Key → Option Tr.Key) (N x b : Nat) (F : List Nat) (fr ub : ByteArray) (w : World) (hs : ST w x b) (ht : TreM V N b F w) (hx : x ∉ b :: F) (hN : N ≤ 90000) :
    Calls Tryz.prog 19 #[.pointer (some ⟨x, 0, none⟩), .string fr, .string ub] w fun r w' => ∃ v il, r = .returned (.tuple #[v, .int .i64 0]) ∧ OwnsI w.heap.size w' v il ∧ Below w.heap.size w w' ∧ Tr.Rising (plain il) ∧ ∀ k, (¬ k < fr.data.toList ∧ Tr.inTo ub.data.toList k → Tr.look (plain il) k = V k) ∧ (¬ (¬ k < fr.data.toList ∧ Tr.inTo ub.data.toList k) → Tr.look (plain il) k = none) := by
  have HS0 := hid hs
  have HX := hid hx
  have HM1 := hid (Mod.setCell w x 0 (.int .i32 1))
  have HL1 := hid hs.lock
  have HT1 : Hid (TreM V N b F (w.setCell ⟨x, 0, none⟩ (.int .i32 1))) := ht.keep fun g hg => HM1.out.block g (ht.lt g hg) fun e => HX.out (by rw [← e]; exact hg)
  have HSZ : Hid ((w.setCell ⟨x, 0, none⟩ (.int .i32 1)).heap.size = w.heap.size) := by show _ = _; simp [World.setCell]
  have HXL := hid hs.lt
  obtain ⟨s0, -, sf⟩ := hs.cells
  have sf0 := sf 0
  obtain ⟨l0, l2, -⟩ := HL1.out.cells
  have HSC := hid (tScan_any V N b F fr ub _ HT1.out hN)
  clear hs ht hx sf
  go_enter_defers Tryz.func19, Tryz.ntmps19
  go_wp2_with (go_at_call 34; refine (lock_free muLib ⟨x, 0, none⟩ w s0 sf0).mono ?_; rintro e w' ⟨rfl, rfl⟩)
  refine HSC.out.mono ?_
  rintro r w2 ⟨v, il, rfl, ho2, hb2, hr2, hv2⟩
  have HV := hid (And.intro hr2 hv2)
  have HL2 : Hid (SL w2 x b) := (hb2.block x HL1.out.lt).trans HL1.out
  have HO2 := hid ho2
  have HE := hid (lock_below HS0.out hb2)
  clear hb2 l0 l2 s0 sf0 hr2 hv2
  obtain ⟨l0, l2, lf⟩ := HL2.out.cells
  have lf0 := lf 0
  obtain ⟨a, n, c, rfl⟩ := shape3 ho2
  clear ho2 lf
  go_wp2_with fail
  refine leaves_cons (f := 35) (args := #[.pointer (some ⟨x, 0, none⟩)]) (by simp) (by simp [go_sem]) ?_
  refine (unlock_deferred muLib ⟨x, 0, none⟩ .returning _ l0 lf0).mono ?_
  rintro e u' w'' ⟨rfl, rfl, rfl⟩
  refine ⟨_, results_tmp2 rfl _ _ _, ?_⟩
  have ho : OwnsI w.heap.size w2 (.slice a n c) il := by have := HO2.out; rw [HSZ.out] at this; exact this
  refine ⟨_, il, rfl, ?_, HE.out, HV.out⟩
  exact (Mod.setCell w2 x 0 (.int .i32 0)).row ho fun g hg e => by have h1 := (World.ownsRow.lt ho g hg).1; have h2 := HXL.out; omega
end Go.Proofs.YtolgpnaoaodepaaGreat
/- The reference's tree: Scan. -/
namespace Go.Proofs.YtolgpnaoaodepaaGreat
open Go.RowKit

def inB (fr ub : ByteArray) (x : ByteArray × ByteArray) : Bool := !decide (x.1.data.toList < fr.data.toList) && (decide (ub.data.toList = []) || decide (x.1.data.toList < ub.data.toList))
theorem take_filt {α : Type} (l : List α) (P : α → Bool) (j : Nat) (hj : j < l.length) : (l.take (j + 1)).filter P = (l.take j).filter P ++ (if P (l[j]'hj) then [l[j]'hj] else []) := by
  rw [List.take_add_one, List.getElem?_eq_getElem hj, List.filter_append]
  congr 1
  simp [List.filter_cons]

set_option maxHeartbeats 1000000 in
set_option maxRecDepth 4000 in
theorem rScan_any (b : Nat) (v : Value) (il : List (ByteArray × ByteArray)) (fr ub : ByteArray) (w : World) (hb : RT w b v) (h : OwnsI 0 w v il) (hl : il.length ≤ 100000000) :
    Calls Tryz.prog 56 #[.pointer (some ⟨b, 0, none⟩), .string fr, .string ub] w fun r w' => ∃ v', r = .returned v' ∧ OwnsI w.heap.size w' v' (il.filter (inB fr ub)) ∧ Below w.heap.size w w' := by
  obtain ⟨a, c, rfl⟩ := rowShape h
  have H := hid h
  have HB := hid hb
  clear h hb
  go_enter Tryz.func56, Tryz.ntmps56
  go_wp2_with fail
  go_loopw [7, 8] (fun v7 vi wr => ∃ j : Nat, vi = .int .i64 (j : Nat) ∧ j ≤ il.length ∧ OwnsI w.heap.size wr v7 ((il.take j).filter (inB fr ub)) ∧ Below w.heap.size w wr) (fun _ vi _ => il.length - (intOf vi).toNat)
  case atStart => exact ⟨0, rfl, Nat.zero_le _, World.ownsRow_nil _ _ _ _, Below.refl _ _⟩
  case round =>
    obtain ⟨j, rfl, hj, hO, hbel⟩ := hrel
    have HO := hid hO
    have HBE := hid hbel
    have hbs := hbel.size
    have hRT : RT wr b (.slice a il.length c) := (hbel.block b HB.out.lt).trans HB.out
    obtain ⟨b0, b1⟩ := hRT.cells
    have H1 : Hid (OwnsI 0 wr (.slice a il.length c) il) := row_below H.out hbel (Nat.le_refl _)
    clear hO hbel hRT
    by_cases hjl : j < il.length
    · obtain ⟨g, cap, e, hcp, -, hg, d0, d1⟩ := H1.out.at j hjl
      simp only [Value.slice.injEq] at e
      obtain ⟨rfl, -, rfl⟩ := e
      have HTK := hid (take_filt il (inB fr ub) j hjl)
      have hlf : ((il.take j).filter (inB fr ub)).length ≤ 100000000 := by
        have := List.length_filter_le (inB fr ub) (il.take j)
        rw [List.length_take] at this
        omega
      generalize il[j]'hjl = x at *
      obtain ⟨xk, xv⟩ := x
      have HCASE : Hid (xk.data.toList < fr.data.toList ∨ (¬ xk.data.toList < fr.data.toList ∧ ub.data.toList = []) ∨ (¬ xk.data.toList < fr.data.toList ∧ ub.data.toList ≠ [] ∧ xk.data.toList < ub.data.toList) ∨ (¬ xk.data.toList < fr.data.toList ∧ ub.data.toList ≠ [] ∧ ¬ xk.data.toList < ub.data.toList)) := by
        by_cases q1 : xk.data.toList < fr.data.toList
        · exact .inl q1
        · by_cases q2 : ub.data.toList = []
          · exact .inr (.inl ⟨q1, q2⟩)
          · by_cases q3 : xk.data.toList < ub.data.toList
            · exact .inr (.inr (.inl ⟨q1, q2, q3⟩))
            · exact .inr (.inr (.inr ⟨q1, q2, q3⟩))
      rcases HCASE.out with q1 | ⟨q1, q2⟩ | ⟨q1, q2, q3⟩ | ⟨q1, q2, q3⟩
      · have r1 : Op.bytesLess xk.toList fr.toList = true := by rw [toList_is, toList_is, less_is]; exact decide_eq_true q1
        have hin : inB fr ub (xk, xv) = false := by unfold inB; simp only [decide_eq_true q1]; rfl
        rw [hin] at HTK
        have HO2 : Hid (OwnsI w.heap.size wr u7 ((il.take (j + 1)).filter (inB fr ub))) := by
          show OwnsI _ _ _ _
          rw [HTK.out]; simpa using HO.out
        go_wp2_with fail
        exact ⟨⟨j + 1, by go_num, by omega, HO2.out, HBE.out⟩, by simp [intOf]; omega⟩
      case' inr.inl =>
        have r1 : Op.bytesLess xk.toList fr.toList = false := by rw [toList_is, toList_is, less_is]; exact decide_eq_false q1
        have r2 : (ub.toList == []) = true := by rw [toList_is]; simpa using q2
        have hin : inB fr ub (xk, xv) = true := by unfold inB; simp only [decide_eq_false q1, decide_eq_true q2]; rfl
      case' inr.inr.inl =>
        have r1 : Op.bytesLess xk.toList fr.toList = false := by rw [toList_is, toList_is, less_is]; exact decide_eq_false q1
        have r2 : (ub.toList == []) = false := by rw [toList_is]; simpa using q2
        have r3 : Op.bytesLess xk.toList ub.toList = true := by rw [toList_is, toList_is, less_is]; exact decide_eq_true q3
        have hin : inB fr ub (xk, xv) = true := by unfold inB; simp only [decide_eq_false q1, decide_eq_true q3]; simp
      case inr.inr.inr =>
        have r1 : Op.bytesLess xk.toList fr.toList = false := by rw [toList_is, toList_is, less_is]; exact decide_eq_false q1
        have r2 : (ub.toList == []) = false := by rw [toList_is]; simpa using q2
        have r3 : Op.bytesLess xk.toList ub.toList = false := by rw [toList_is, toList_is, less_is]; exact decide_eq_false q3
        have hin : inB fr ub (xk, xv) = false := by unfold inB; simp only [decide_eq_false q1, decide_eq_false q2, decide_eq_false q3]; rfl
        rw [hin] at HTK
        have HO2 : Hid (OwnsI w.heap.size wr u7 ((il.take (j + 1)).filter (inB fr ub))) := by
          show OwnsI _ _ _ _
          rw [HTK.out]; simpa using HO.out
        go_wp2_with fail
        exact ⟨⟨j + 1, by go_num, by omega, HO2.out, HBE.out⟩, by simp [intOf]; omega⟩
      all_goals
        rw [hin] at HTK
        clear hin
        go_wp2_with (at_builtin; refine wpApG wr rfl (.tmp 44) (.tmp 52) 30 51 Tryz.underlying30 _ 2 32 info_item rfl (by decide) (by decide) rfl w.heap.size u7 _ _ rfl HO.out [.string xk, .string xv] rfl (by intro u hu; simp at hu; rcases hu with rfl | rfl <;> rfl) rfl (by omega) hbs ?_; intro v2 w2 ho2 hg2 hb2)
        have HO2 : Hid (OwnsI w.heap.size w2 v2 ((il.take (j + 1)).filter (inB fr ub))) := by
          show OwnsI _ _ _ _
          rw [HTK.out, if_pos rfl]
          unfold OwnsI
          rw [List.length_append, icells_snoc]
          exact ho2
        have HB2 : Hid (Below w.heap.size w w2) := HBE.out.grown hg2 hbs (fun k hk => (World.ownsRow.lt HO.out k hk).1)
        clear ho2 hg2 hb2
        go_wp2_with fail
        exact ⟨⟨j + 1, by go_num, by omega, HO2.out, HB2.out⟩, by simp [intOf]; omega⟩
    · have hje : j = il.length := by omega
      subst hje
      rw [List.take_length] at HO
      go_wp2_with fail
      go_ret
      exact ⟨_, rfl, HO.out, HBE.out⟩
end Go.Proofs.YtolgpnaoaodepaaGreat
/- What a scan tells is what the reference's scan tells. -/
namespace Go.Proofs.YtolgpnaoaodepaaGreat
open Go.RowKit

def inK (fr ub k : Tr.Key) : Bool := !decide (k < fr) && (decide (ub = []) || decide (k < ub))
theorem inK_iff (fr ub k : Tr.Key) : inK fr ub k = true ↔ ¬ k < fr ∧ Tr.inTo ub k := by
  unfold inK Tr.inTo; simp
theorem look_filter (p : Tr.Key → Bool) (k : Tr.Key) : ∀ l : List Tr.It, Tr.look (l.filter fun x => p x.1) k = if p k then Tr.look l k else none
  | [] => by simp [Tr.look]
  | x :: r => by
    have ih := look_filter p k r
    by_cases hp : p x.1 = true
    · rw [List.filter_cons_of_pos (p := fun x : Tr.It => p x.1) hp, Tr.look, Tr.look, ih]
      by_cases e : x.1 = k
      · rw [if_pos e, if_pos e, ← e, hp]; rfl
      · rw [if_neg e, if_neg e]
    · rw [List.filter_cons_of_neg (p := fun x : Tr.It => p x.1) hp, ih, Tr.look]
      by_cases e : x.1 = k
      · have : p k = false := by rw [← e]; exact Bool.eq_false_iff.2 hp
        rw [this]; rfl
      · rw [if_neg e]
theorem plain_filter (fr ub : ByteArray) (il : List (ByteArray × ByteArray)) : plain (il.filter (inB fr ub)) = (plain il).filter fun x => inK fr.data.toList ub.data.toList x.1 := by
  unfold plain; rw [List.filter_map]; rfl
theorem scan_same {il1 il : List (ByteArray × ByteArray)} {V : Tr.Key → Option Tr.Key} {fr ub : ByteArray} (h1 : Tr.Rising (plain il1)) (h2 : ∀ k, (¬ k < fr.data.toList ∧ Tr.inTo ub.data.toList k → Tr.look (plain il1) k = V k) ∧ (¬ (¬ k < fr.data.toList ∧ Tr.inTo ub.data.toList k) → Tr.look (plain il1) k = none)) (hr : Tr.Rising (plain il)) (hv : ∀ k, Tr.look (plain il) k = V k) : il1 = il.filter (inB fr ub) := by
  refine plainZ_inj (Tr.look_ext h1 ?_ fun k => ?_)
  · rw [plain_filter]; exact hr.filter _
  · rw [plain_filter, look_filter fun k => inK fr.data.toList ub.data.toList k]
    by_cases hk : inK fr.data.toList ub.data.toList k = true
    · rw [hk, (h2 k).1 ((inK_iff _ _ _).1 hk), hv]; rfl
    · rw [(h2 k).2 (fun q => hk ((inK_iff _ _ _).2 q)), Bool.eq_false_iff.2 hk]; rfl
end Go.Proofs.YtolgpnaoaodepaaGreat
