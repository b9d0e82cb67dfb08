/- Changes that are handed to a part: what the branch says stays. -/
import Derived.Test.YtolgpnaoaodepaaGreatTreZMm
import Derived.BigQuiet
import Derived.Deep.DeepCutAuto
import Derived.Test.YtolgpnaoaodepaaGreatSilAm
namespace Go.Proofs.YtolgpnaoaodepaaGreat.Tr

theorem ix_iff {h : Nat} {R : Key → Option Key → TreeT h → Prop} {lo f : Key} {m hi : Option Key} {t : TreeT h} {A B : List (Key × TreeT h)} (hA : Chain R (some lo) (some f) A) (hr : room f m) (ht : R f m t) (hB : Chain R m hi B) {k : Key} (hk : inR lo hi k) : ix ((A ++ (f, t) :: B).map (·.1)) k = A.length ↔ inR f m k := by
  have hall : Chain R (some lo) hi (A ++ (f, t) :: B) := chain_append.2 ⟨some f, hA, rfl, m, hr, ht, hB⟩
  have hm : m = nxt B hi := chain_nxt hB
  constructor
  · intro e
    obtain ⟨A', f', t', B', m', e1, e2, e3, e4, e5, e6, e7⟩ := chain_find hall hk
    rw [e] at e2
    have hAA := List.append_inj e1 e2
    have hBB := List.cons.inj hAA.2
    have hm' : m' = nxt B' hi := chain_nxt e7
    rw [← hBB.2, ← hm] at hm'
    rw [← hm', (Prod.mk.inj hBB.1).1]
    exact e5
  · intro q
    exact ix_at (R := R) (hi := hi) (by rw [← hm]; exact q) A (some lo) hall
theorem hand_val {h : Nat} {lo f : Key} {m hi : Option Key} {t t' : TreeT h} {A B : List (Key × TreeT h)} {cs : List Ch} (hA : Chain (fun f m t => WF h f m t ∧ Small h t) (some lo) (some f) A) (hr : room f m) (ht : WF h f m t ∧ Small h t) (ht' : WF h f m t' ∧ Small h t') (hB : Chain (fun f m t => WF h f m t ∧ Small h t) m hi B)
    (hv : ∀ k, inR f m k → val h t' k = afterAll (cs.filter fun c => decide (ix ((A ++ (f, t) :: B).map (·.1)) c.2.1 = A.length)) k (val h t k)) {k : Key} (hk : inR lo hi k) : val (h + 1) (brT (A ++ (f, t') :: B) (cs.filter fun c => !decide (ix ((A ++ (f, t) :: B).map (·.1)) c.2.1 = A.length))) k = val (h + 1) (brT (A ++ (f, t) :: B) cs) k := by
  have hiff := ix_iff hA hr ht hB hk
  have e1 : ∀ (u : TreeT h), A ++ (f, u) :: B = A ++ [(f, u)] ++ B := fun u => by simp
  have cX : Chain (fun f m t => WF h f m t ∧ Small h t) (some f) m [(f, t)] := ⟨rfl, m, hr, ht, rfl⟩
  have cY : Chain (fun f m t => WF h f m t ∧ Small h t) (some f) m [(f, t')] := ⟨rfl, m, hr, ht', rfl⟩
  by_cases q : inR f m k
  · have hix := hiff.2 q
    generalize hks : (A ++ (f, t) :: B).map (·.1) = ks at *
    show val (h + 1) (A ++ (f, t') :: B, _) k = val (h + 1) (A ++ (f, t) :: B, cs) k
    rw [e1 t', e1 t, val_mid hA cX hB cs q, val_mid hA cY hB _ q, val_one, val_one, hv k q, afterAll_filter (fun c => decide (ix ks c.2.1 = A.length)) cs k _ (fun c _ e => by rw [e]; exact decide_eq_true hix)]
    exact afterAll_none _ k _ fun c hc e => by
      have := (List.mem_filter.1 hc).2
      rw [e, hix] at this
      simp at this
  · have hix : ¬ ix ((A ++ (f, t) :: B).map (·.1)) k = A.length := fun z => q (hiff.1 z)
    generalize hks : (A ++ (f, t) :: B).map (·.1) = ks at *
    have hfl : ∀ s, afterAll (cs.filter fun c => !decide (ix ks c.2.1 = A.length)) k s = afterAll cs k s := fun s => afterAll_filter _ cs k s fun c _ e => by rw [e]; simp [hix]
    have hsame : val (h + 1) (brT (A ++ (f, t') :: B) (cs.filter fun c => !decide (ix ks c.2.1 = A.length))) k = val (h + 1) (brT (A ++ (f, t') :: B) cs) k := hfl _
    rw [hsame]
    show val (h + 1) (A ++ (f, t') :: B, cs) k = val (h + 1) (A ++ (f, t) :: B, cs) k
    rw [e1 t', e1 t]
    rcases tri3 (f := f) (m := m) hk with z | z | ⟨b, rfl, z⟩
    · have h1 := val_mid (A := []) (X := A) (B := [(f, t)] ++ B) (f := lo) rfl hA (chain_append.2 ⟨m, cX, hB⟩) cs z
      have h2 := val_mid (A := []) (X := A) (B := [(f, t')] ++ B) (f := lo) rfl hA (chain_append.2 ⟨m, cY, hB⟩) cs z
      simp only [List.nil_append] at h1 h2
      rw [List.append_assoc, List.append_assoc, h1, h2]
    · exact absurd z q
    · have h1 := val_mid (A := A ++ [(f, t)]) (X := B) (B := []) (f := b) (chain_append.2 ⟨_, hA, cX⟩) hB rfl cs z
      have h2 := val_mid (A := A ++ [(f, t')]) (X := B) (B := []) (f := b) (chain_append.2 ⟨_, hA, cY⟩) hB rfl cs z
      simp only [List.append_nil] at h1 h2
      rw [h1, h2]
theorem split_at {α : Type} (l : List α) (n : Nat) (h : n < l.length) : ∃ A x B, l = A ++ x :: B ∧ A.length = n := ⟨l.take n, l[n], l.drop (n + 1), by rw [List.getElem_cons_drop, List.take_append_drop], by rw [List.length_take]; omega⟩
theorem filter_two {α : Type} (P : α → Bool) (l : List α) : (l.filter P).length + (l.filter fun c => !P c).length = l.length := by
  induction l with
  | nil => rfl
  | cons c r ih => cases hP : P c <;> simp [hP] <;> omega
theorem filter_pos {α : Type} {P : α → Bool} {l : List α} {c : α} (hc : c ∈ l) (hp : P c = true) : 0 < (l.filter P).length := List.length_pos_iff.2 (List.ne_nil_of_mem (List.mem_filter.2 ⟨hc, hp⟩))
end Go.Proofs.YtolgpnaoaodepaaGreat.Tr
namespace Go.Proofs.YtolgpnaoaodepaaGreat
open Go.RowKit
/-- The parts of a branch about one of them. -/
theorem kids_one {h : Nat} {w : World} {pl : List (ByteArray × Nat)} {A B : List (Tr.Key × Tr.TreeT h)} {f : Tr.Key} {t : Tr.TreeT h} {G : List Nat} (hk : Kids (Rep h w) pl (A ++ (f, t) :: B) G) : ∃ plA x plB GA G1 GB, pl = plA ++ x :: plB ∧ plA.length = A.length ∧ Kids (Rep h w) plA A GA ∧ x.1.data.toList = f ∧ Rep h w x.2 t G1 ∧ Kids (Rep h w) plB B GB ∧ G = GA ++ (G1 ++ GB) := by
  obtain ⟨plA, R, GA, GR, rfl, hl, hA, hR, rfl⟩ := hk.split
  match R, hR with
  | x :: plB, ⟨e1, G1, GB, r1, hB, hG⟩ => exact ⟨plA, x, plB, GA, G1, GB, rfl, hl, hA, e1, r1, hB, by rw [hG]⟩
/-- What comes of handing changes to a part. -/
theorem hand_take {h : Nat} (HT : TakeP h) {lo : Tr.Key} {hi : Option Tr.Key} {p : Nat} {w0 w : World} {A B : List (Tr.Key × Tr.TreeT h)} {f : Tr.Key} {m : Option Tr.Key} {t : Tr.TreeT h} {ml : List (Int × ByteArray × ByteArray)} {vp vc : Value} {plA plB : List (ByteArray × Nat)} {x : ByteArray × Nat} {GA G1 GB : List Nat}
    (hnd : (p :: (blk vp ++ (blk vc ++ (GA ++ (G1 ++ GB))))).Nodup) (hlt : ∀ g ∈ p :: (blk vp ++ (blk vc ++ (GA ++ (G1 ++ GB)))), g < w.heap.size) (hop : OwnsP 0 w vp (plA ++ x :: plB)) (kA : Kids (Rep h w) plA A GA) (ex : x.1.data.toList = f) (r1 : Rep h w x.2 t G1) (kB : Kids (Rep h w) plB B GB)
    (cA : Tr.Chain (fun f m t => Tr.WF h f m t ∧ Tr.Top h t) (some lo) (some f) A) (rm : Tr.room f m) (ht : Tr.WF h f m t ∧ Tr.Top h t) (cB : Tr.Chain (fun f m t => Tr.WF h f m t ∧ Tr.Top h t) m hi B) (hcc : ∀ c ∈ plainCh ml, Tr.inR lo hi c.2.1 ∧ Tr.okCh c) (hwt : ml.length + (Tr.wts A + (Tr.wt h t + Tr.wts B)) ≤ 90000)
    (vo vk : Value) (w2 : World) (hn2 : NodT w2 p (.slice none 0 0) vp vk) (htw : Two w.heap.size w2 vo vk (ml.filter (atP (plA ++ x :: plB) A.length)) (ml.filter fun c => !atP (plA ++ x :: plB) A.length c)) (hm2 : Mod (fun g => g = p) w w2) (h0 : w0.heap = w.heap) (h01 : w0.os = w.os) (h02 : w0.tape = w.tape) (h03 : w0.output = w.output) :
    Calls Tryz.prog 63 #[.pointer (some ⟨x.2, 0, none⟩), vo] w2 fun r w3 => r = .returned (.tuple #[]) ∧ ∃ t' cs' F', Foc h lo hi p w3 A f m t' B cs' F' ∧ cs'.length = (ml.filter fun c => !atP (plA ++ x :: plB) A.length c).length ∧ Gone (p :: (blk vp ++ (blk vc ++ (GA ++ (G1 ++ GB))))) F' w0 w3 ∧ cs'.length + (Tr.wts A + (Tr.wt h t' + Tr.wts B)) ≤ ml.length + (Tr.wts A + (Tr.wt h t + Tr.wts B)) ∧ ∀ k, Tr.inR lo hi k → Tr.val (h + 1) (Tr.brT (A ++ (f, t') :: B) cs') k = Tr.val (h + 1) (Tr.brT (A ++ (f, t) :: B) (plainCh ml)) k := by
  have hkA := kA.keys
  have hkB := kB.keys
  have hkeys : pkeys (plA ++ x :: plB) = (A ++ (f, t) :: B).map (·.1) := by
    rw [List.map_append, List.map_cons, ← hkA, ← hkB]
    show List.map _ _ = _
    rw [List.map_append, List.map_cons, ex]; rfl
  have hPA : (atP (plA ++ x :: plB) A.length) = fun c => (fun c : Tr.Ch => decide (Tr.ix ((A ++ (f, t) :: B).map (·.1)) c.2.1 = A.length)) (c.1, c.2.1.data.toList, c.2.2.data.toList) := by
    funext c; unfold atP; rw [hkeys]
  have ho : plainCh (ml.filter (atP (plA ++ x :: plB) A.length)) = (plainCh ml).filter fun c => decide (Tr.ix ((A ++ (f, t) :: B).map (·.1)) c.2.1 = A.length) := by rw [hPA]; exact plainCh_filter ml (fun c => decide (Tr.ix ((A ++ (f, t) :: B).map (·.1)) c.2.1 = A.length))
  have hkp : plainCh (ml.filter fun c => !atP (plA ++ x :: plB) A.length c) = (plainCh ml).filter fun c => !decide (Tr.ix ((A ++ (f, t) :: B).map (·.1)) c.2.1 = A.length) := by rw [hPA]; exact plainCh_filter ml (fun c => !decide (Tr.ix ((A ++ (f, t) :: B).map (·.1)) c.2.1 = A.length))
  have hft := Tr.filter_two (atP (plA ++ x :: plB) A.length) ml
  have hnd' : ((p :: (blk vp ++ (blk vc ++ GA))) ++ (G1 ++ GB)).Nodup := by simpa using hnd
  have hdis := (List.nodup_append.1 hnd').2.2
  have hin := (List.nodup_append.1 (List.nodup_append.1 hnd').2.1).2.2
  have hnp : ∀ g ∈ blk vp ++ (blk vc ++ (GA ++ (G1 ++ GB))), g ≠ p := fun g hg q => (List.nodup_cons.1 hnd).1 (by rw [← q]; exact hg)
  have hkeep2 : ∀ g ∈ blk vp ++ (blk vc ++ (GA ++ (G1 ++ GB))), w2.heap[g]? = w.heap[g]? := fun g hg => hm2.block g (hlt g (List.mem_cons_of_mem _ hg)) (hnp g hg)
  have hs2 := hm2.size
  have hlo : ∀ g, vo.ownBlock = some g → w.heap.size ≤ g := fun g hg => (World.ownsRow.lt htw.o g hg).1
  have hlk : ∀ g, vk.ownBlock = some g → w.heap.size ≤ g := fun g hg => (World.ownsRow.lt htw.k g hg).1
  refine (HT x.2 t G1 w2 vo _ f m (r1.keep fun g hg => hkeep2 g (by simp [hg])) (List.nodup_append.1 (List.nodup_append.1 hnd').2.1).1 ht.1 ht.2 rm (row_zero htw.o) (fun g hg q => ?_) ?_ ?_).mono ?_
  · have := hlo g hg; have := hlt g (by simp [q]); omega
  · intro c hc
    rw [ho] at hc
    obtain ⟨hc1, hc2⟩ := List.mem_filter.1 hc
    exact ⟨(Tr.ix_iff (small_chain cA) rm ⟨ht.1, ht.2.small⟩ (small_chain cB) (hcc c hc1).1).1 (of_decide_eq_true hc2), (hcc c hc1).2⟩
  · omega
  · rintro r w3 ⟨rfl, t', F1, hnew, hwt', hval⟩
    rw [ho] at hval
    have hF1 : ∀ g ∈ F1, g ∈ G1 ∨ w.heap.size ≤ g := fun g hg => (hnew.sub g hg).imp id (Nat.le_trans hs2)
    have hkeep3 : ∀ g, g < w2.heap.size → g ∉ G1 → w3.heap[g]? = w2.heap[g]? := fun g hg q => hnew.mod.block g hg q
    have hX : ∀ g ∈ p :: (blk vp ++ (blk vk ++ GA)), g ∉ G1 := fun g hg q => by
      rcases List.mem_cons.1 hg with z | z
      · exact hdis p (by simp) g (by simp [q]) z.symm
      · rcases List.mem_append.1 z with z | z
        · exact hdis g (by simp [z]) g (by simp [q]) rfl
        · rcases List.mem_append.1 z with z | z
          · have := hlk g (mem_blk.1 z); have := hlt g (by simp [q]); omega
          · exact hdis g (by simp [z]) g (by simp [q]) rfl
    have hnd3 : ((p :: (blk vp ++ (blk vk ++ GA))) ++ (G1 ++ GB)).Nodup := by
      have hb : ((p :: blk vp) ++ (blk vc ++ (GA ++ (G1 ++ GB)))).Nodup := by simpa using hnd
      have := nodup_swap (N := w.heap.size) (M' := blk vk) hb (blk_nodup vk) (fun g hg => .inr (hlk g (mem_blk.1 hg))) (fun g hg => hlt g (by simp at hg ⊢; rcases hg with q | q <;> simp [q])) (fun g hg => hlt g (by simp at hg ⊢; rcases hg with q | q | q <;> simp [q]))
      simpa using this
    have hndF : ((p :: (blk vp ++ (blk vk ++ GA))) ++ (F1 ++ GB)).Nodup := by
      obtain ⟨n1, n2, n3⟩ := List.nodup_append.1 hnd3
      obtain ⟨n4, n5, n6⟩ := List.nodup_append.1 n2
      refine List.nodup_append.2 ⟨n1, List.nodup_append.2 ⟨hnew.nd, n5, fun a ha b hb e => ?_⟩, fun a ha b hb e => ?_⟩
      · subst e
        rcases hF1 a ha with q | q
        · exact n6 a q a hb rfl
        · have := hlt a (by simp [hb]); omega
      · subst e
        rcases List.mem_append.1 hb with hb | hb
        · rcases hnew.sub a hb with q | q
          · exact hX a ha q
          · have : a < w2.heap.size := by
              rcases List.mem_cons.1 ha with z | z
              · rw [z]; exact hn2.lt
              · rcases List.mem_append.1 z with z | z
                · have := hlt a (by simp [z]); omega
                · rcases List.mem_append.1 z with z | z
                  · exact (World.ownsRow.lt htw.k a (mem_blk.1 z)).2
                  · have := hlt a (by simp [z]); omega
            omega
        · exact n3 a ha a (List.mem_append_right _ hb) rfl
    have hvp3 : OwnsP 0 w3 vp (plA ++ x :: plB) := row_same hop fun g hg hgl => (hkeep3 g (by omega) (hX g (by simp [mem_blk.2 hg]))).trans (hkeep2 g (by simp [mem_blk.2 hg]))
    have hvk3 : OwnsC 0 w3 vk (ml.filter fun c => !atP (plA ++ x :: plB) A.length c) := row_same (row_zero htw.k) fun g hg hgl => hkeep3 g hgl (hX g (by simp [mem_blk.2 hg]))
    have kA3 : Kids (Rep h w3) plA A GA := kA.keep fun g hg => (hkeep3 g (by have := hlt g (by simp [hg]); omega) (hX g (by simp [hg]))).trans (hkeep2 g (by simp [hg]))
    have kB3 : Kids (Rep h w3) plB B GB := kB.keep fun g hg => (hkeep3 g (by have := hlt g (by simp [hg]); omega) (fun q => hin g q g hg rfl)).trans (hkeep2 g (by simp [hg]))
    have kM : Kids (Rep h w3) (x :: plB) ((f, t') :: B) (F1 ++ GB) := ⟨ex, F1, GB, hnew.rep, kB3, rfl⟩
    have hrep : Rep (h + 1) w3 p (Tr.brT (A ++ (f, t') :: B) (plainCh (ml.filter fun c => !atP (plA ++ x :: plB) A.length c))) (p :: (blk vp ++ (blk vk ++ (GA ++ (F1 ++ GB))))) :=
      ⟨vp, vk, plA ++ x :: plB, _, _, (hkeep3 p hn2.lt (hX p (by simp))).trans hn2, hvp3, hvk3, rfl, kM.append kA3, rfl⟩
    refine ⟨rfl, t', _, _, ⟨hrep, by simpa using hndF, cA, rm, hnew.wf, hnew.small, cB, fun c hc => ?_, ?_⟩, plainCh_len _, ⟨⟨?_, ?_, ?_, ?_, ?_⟩, ?_⟩, ?_, fun k hk => ?_⟩
    · rw [hkp] at hc; exact hcc c (List.mem_filter.1 hc).1
    · rw [plainCh_len]; omega
    · rw [h01]; exact hnew.mod.os.trans hm2.os
    · rw [h02]; exact hnew.mod.tape.trans hm2.tape
    · rw [h03]; exact hnew.mod.output.trans hm2.output
    · rw [h0]; exact Nat.le_trans hs2 hnew.mod.size
    · intro k hk hnk
      rw [h0] at hk ⊢
      refine (hkeep3 k (by omega) (fun q => hnk (by simp [q]))).trans (hm2.block k hk (fun q => hnk (by simp [q])))
    · rw [h0]
      intro g hg
      rcases List.mem_cons.1 hg with z | z
      · exact .inl (by simp [z])
      · rcases List.mem_append.1 z with z | z
        · exact .inl (by simp [z])
        · rcases List.mem_append.1 z with z | z
          · exact .inr (hlk g (mem_blk.1 z))
          · rcases List.mem_append.1 z with z | z
            · exact .inl (by simp [z])
            · rcases List.mem_append.1 z with z | z
              · exact (hF1 g z).imp (fun q => by simp [q]) id
              · exact .inl (by simp [z])
    · rw [plainCh_len]; omega
    · rw [hkp]
      exact Tr.hand_val (small_chain cA) rm ⟨ht.1, ht.2.small⟩ ⟨hnew.wf, hnew.small⟩ (small_chain cB) hval hk
end Go.Proofs.YtolgpnaoaodepaaGreat
/- The end of sink: a part is cut, and what comes of it is put in its place. -/
namespace Go.Proofs.YtolgpnaoaodepaaGreat
open Go.RowKit

/-- A branch that has become another, that says the same. -/
structure SameB (h : Nat) (lo : Tr.Key) (hi : Option Tr.Key) (p : Nat) (F : List Nat) (w : World) (ps : List (Tr.Key × Tr.TreeT h)) (cs : List Tr.Ch) (w' : World) (ps' : List (Tr.Key × Tr.TreeT h)) (cs' : List Tr.Ch) (F' : List Nat) : Prop where
  rep : Rep (h + 1) w' p (Tr.brT ps' cs') F'
  nd : F'.Nodup
  wf : Tr.WF (h + 1) lo hi (Tr.brT ps' cs')
  wt : Tr.wt (h + 1) (Tr.brT ps' cs') ≤ Tr.wt (h + 1) (Tr.brT ps cs)
  gone : Gone F F' w w'
  val : ∀ k, Tr.inR lo hi k → Tr.val (h + 1) (Tr.brT ps' cs') k = Tr.val (h + 1) (Tr.brT ps cs) k
theorem Foc.cut {h : Nat} {lo : Tr.Key} {hi : Option Tr.Key} {p : Nat} {w : World} {A B : List (Tr.Key × Tr.TreeT h)} {f : Tr.Key} {m : Option Tr.Key} {t : Tr.TreeT h} {cs : List Tr.Ch} {F : List Nat} (hf : Foc h lo hi p w A f m t B cs F) :
    Tr.WF (h + 1) lo hi (Tr.brT (A ++ (Tr.cutT h f t ++ B)) cs) ∧ Tr.wt (h + 1) (Tr.brT (A ++ (Tr.cutT h f t ++ B)) cs) ≤ Tr.wt (h + 1) (Tr.brT (A ++ (f, t) :: B) cs) ∧ ∀ k, Tr.inR lo hi k → Tr.val (h + 1) (Tr.brT (A ++ (Tr.cutT h f t ++ B)) cs) k = Tr.val (h + 1) (Tr.brT (A ++ (f, t) :: B) cs) k := by
  have hc := Tr.cutT_chain h hf.rm hf.wf hf.small
  refine ⟨⟨Tr.chain_append.2 ⟨_, hf.cA, Tr.chain_append.2 ⟨_, hc, hf.cB⟩⟩, hf.cc⟩, ?_, fun k hk => ?_⟩
  · have := Tr.cutT_wt h f t
    rw [Tr.wt_br, Tr.wt_br, Tr.wts_append, Tr.wts_append, Tr.wts_append, Tr.wts_cons]
    show _ ≤ _ + (_ + (Tr.wt h t + _))
    omega
  · have := Tr.splice_val (X := [(f, t)]) (Y := Tr.cutT h f t) (small_chain hf.cA) (chain_one hf.rm ⟨hf.wf, hf.small⟩) (small_chain hf.cB) (small_chain hf.cA) (small_chain hc) (small_chain hf.cB) cs (fun k hk' => by rw [Tr.val_one]; exact Tr.cutT_val h hf.rm hf.wf hf.small k hk') hk
    simpa [Tr.brT] using this
theorem chain_some {h : Nat} {lo : Tr.Key} {hi : Option Tr.Key} {R : Tr.Key → Option Tr.Key → Tr.TreeT h → Prop} {ps : List (Tr.Key × Tr.TreeT h)} (hr : Tr.room lo hi) (hc : Tr.Chain R (some lo) hi ps) : 0 < ps.length := by
  cases ps with
  | nil => exact absurd (hr lo (show some lo = hi from hc).symm) (Tr.lt_ir lo)
  | cons x r => simp
/-- What is known ahead of the cut. -/
structure Tail (h : Nat) (p : Nat) (w : World) (A : List (Tr.Key × Tr.TreeT h)) (f : Tr.Key) (t : Tr.TreeT h) (B : List (Tr.Key × Tr.TreeT h)) (cs : List Tr.Ch) (F : List Nat) (vp vc : Value) (pl : List (ByteArray × Nat)) (x : ByteArray × Nat) (hx : A.length < pl.length) : Prop where
  nod : NodT w p (.slice none 0 0) vp vc
  row : OwnsP 0 w vp pl
  at' : pl[A.length]'hx = x
  len : pl.length ≤ 1000000
  go : Calls Tryz.prog 64 #[.agg #[.string x.1, .pointer (some ⟨x.2, 0, none⟩)]] w fun r w6 => ∃ v pl6, r = .returned v ∧ 0 < pl6.length ∧ pl6.length ≤ 1000000 ∧ OwnsP 0 w6 v pl6 ∧ (∀ g, vp.ownBlock = some g → v.ownBlock ≠ some g) ∧ NodT w6 p (.slice none 0 0) vp vc ∧ OwnsP 0 w6 vp pl ∧
    ∀ v' w7, RepQ vp (repP pl A.length pl6) w6 v' w7 → NodT w7 p (.slice none 0 0) vp vc ∧ ∃ F', Rep (h + 1) (w7.setCell ⟨p, 1, none⟩ v') p (Tr.brT (A ++ (Tr.cutT h f t ++ B)) cs) F' ∧ F'.Nodup ∧ Gone F F' w (w7.setCell ⟨p, 1, none⟩ v')
theorem Foc.tail {h : Nat} {lo : Tr.Key} {hi : Option Tr.Key} {p : Nat} {w : World} {A B : List (Tr.Key × Tr.TreeT h)} {f : Tr.Key} {m : Option Tr.Key} {t : Tr.TreeT h} {cs : List Tr.Ch} {F : List Nat} (hf : Foc h lo hi p w A f m t B cs F) : ∃ vp vc pl x hx, Tail h p w A f t B cs F vp vc pl x hx := by
  have hlen := hf.len
  have hwt := hf.wt
  have hlt := hf.rep.lt
  have hnd := hf.nd
  obtain ⟨vp, vc, pl, ml, G, hn, hop, hoc, rfl, hk, rfl⟩ := hf.rep
  obtain ⟨plA, x, plB, GA, G1, GB, rfl, hl, kA, e1, r1, kB, rfl⟩ := kids_one hk
  have hlb := kB.len
  have hx : A.length < (plA ++ x :: plB).length := by simp; omega
  refine ⟨vp, vc, plA ++ x :: plB, x, hx, hn, hop, ?_, by simp; omega, ?_⟩
  · simp [← hl]
  have hnd' : ((p :: (blk vp ++ (blk vc ++ GA))) ++ (G1 ++ GB)).Nodup := by simpa using hnd
  have hnG1 := (List.nodup_append.1 (List.nodup_append.1 hnd').2.1).1
  refine (cut_any h x.1 x.2 t G1 w r1 hnG1 f m hf.wf (by omega)).mono ?_
  rintro r w6 ⟨v, pl6, G, rfl, hq, hG, hb⟩
  rw [e1] at hq
  have hcl : 0 < pl6.length := by
    rw [hq.kids.len]
    exact chain_some hf.rm (Tr.cutT_chain h hf.rm hf.wf hf.small)
  have hcw : pl6.length ≤ 90000 := by
    rw [hq.kids.len]
    have a1 : (Tr.cutT h f t).length ≤ Tr.wts (Tr.cutT h f t) := Tr.wt_parts (Tr.cutT_chain h hf.rm hf.wf hf.small)
    have a2 := Tr.cutT_wt h f t
    omega
  have hvn : ∀ g ∈ blk v, w.heap.size ≤ g := blk_new hq.row
  have hn6 : NodT w6 p (.slice none 0 0) vp vc := (hb.block p hn.lt).trans hn
  have ho6 : OwnsP 0 w6 vp (plA ++ x :: plB) := row_below hop hb (Nat.le_refl _)
  refine ⟨v, pl6, rfl, hcl, by omega, row_zero hq.row, fun g hg q => ?_, hn6, ho6, ?_⟩
  · have h1 := hvn g (mem_blk.2 q)
    have h2 := hlt g (by simp [mem_blk.2 hg])
    omega
  intro v' w7 hr7
  have hpv : vp.ownBlock ≠ some p := nod_row hn hop (by decide)
  have m7 : Mod (fun k => vp.ownBlock = some k) w6 w7 := Mod.of_grown hr7.g
  have hn7 : NodT w7 p (.slice none 0 0) vp vc := m7.nod hn6 hpv
  have m8 := Mod.setCell w7 p 1 v'
  have hs6 := hb.size
  have hs7 := m7.size
  have hpv' : v'.ownBlock ≠ some p := by
    rcases hr7.b with q | ⟨k, hk', q⟩
    · rw [q]; exact hpv
    · rw [q]; intro e
      have := Option.some.inj e
      have := hn6.lt
      omega
  have hrow : repP (plA ++ x :: plB) A.length pl6 = plA ++ (pl6 ++ plB) := by
    unfold repP
    rw [← hl, List.take_left, List.append_assoc]
    congr 1
    congr 1
    rw [show plA ++ x :: plB = (plA ++ [x]) ++ plB by simp, List.drop_left' (by simp)]
  have ho7 : OwnsP 0 w7 v' (plA ++ (pl6 ++ plB)) := by have := hr7.o; rw [hrow] at this; exact this
  -- the blocks that stay
  have hkeep : ∀ g, g < w6.heap.size → vp.ownBlock ≠ some g → g ≠ p → (w7.setCell ⟨p, 1, none⟩ v').heap[g]? = w6.heap[g]? := fun g h1 h2 h3 =>
    (m8.block g (by omega) h3).trans (m7.block g h1 h2)
  have hold : ∀ g ∈ blk vc ++ (GA ++ (G1 ++ GB)), vp.ownBlock ≠ some g ∧ g ≠ p := fun g hg => by
    have h2 := List.nodup_cons.1 hnd
    have h3 := (List.nodup_append.1 h2.2).2.2
    exact ⟨fun q => h3 g (mem_blk.2 q) g hg rfl, fun q => h2.1 (by rw [← q]; exact List.mem_append_right _ hg)⟩
  have hkold : ∀ g ∈ blk vc ++ (GA ++ (G1 ++ GB)), (w7.setCell ⟨p, 1, none⟩ v').heap[g]? = w.heap[g]? := fun g hg => by
    have hgl := hlt g (by rw [List.mem_cons]; exact .inr (List.mem_append_right _ hg))
    exact (hkeep g (by omega) (hold g hg).1 (hold g hg).2).trans (hb.block g hgl)
  have hGlt : ∀ g ∈ G, g < w6.heap.size := hq.kids.lt
  have hGno : ∀ g ∈ G, vp.ownBlock ≠ some g ∧ g ≠ p := fun g hg => by
    rcases hG g hg with q | q
    · exact hold g (by simp [q])
    · exact ⟨fun e => by have := hlt g (by simp [mem_blk.2 e]); omega, fun e => by have := hn.lt; omega⟩
  have kA8 : Kids (Rep h (w7.setCell ⟨p, 1, none⟩ v')) plA A GA := kA.keep fun g hg => hkold g (by simp [hg])
  have kB8 : Kids (Rep h (w7.setCell ⟨p, 1, none⟩ v')) plB B GB := kB.keep fun g hg => hkold g (by simp [hg])
  have kC8 : Kids (Rep h (w7.setCell ⟨p, 1, none⟩ v')) pl6 (Tr.cutT h f t) G := hq.kids.keep fun g hg => hkeep g (hGlt g hg) (hGno g hg).1 (hGno g hg).2
  refine ⟨hn7, p :: (blk v' ++ (blk vc ++ (GA ++ (G ++ GB)))), ⟨v', vc, plA ++ (pl6 ++ plB), ml, GA ++ (G ++ GB), hn7.setp v', m8.row ho7 (fun g hg q => hpv' (by rw [← q]; exact hg)), row_same hoc (fun g hg _ => hkold g (by simp [mem_blk.2 hg])), rfl, (kB8.append kC8).append kA8, rfl⟩, ?_, ⟨⟨?_, ?_, ?_, ?_, ?_⟩, ?_⟩⟩
  · have hb1 : ((p :: (blk vp ++ (blk vc ++ GA))) ++ (G ++ GB)).Nodup := nodup_swap (N := w.heap.size) hnd' (List.nodup_append.1 hq.nd).2.1 hG (fun g hg => hlt g (by simp at hg ⊢; rcases hg with q | q | q | q <;> simp [q])) (fun g hg => hlt g (by simp [hg]))
    have hb2 : ([p] ++ (blk vp ++ (blk vc ++ (GA ++ (G ++ GB))))).Nodup := by simpa using hb1
    have hl6 : ∀ g ∈ blk vc ++ (GA ++ (G ++ GB)), g < w6.heap.size := fun g hg => by
      rcases List.mem_append.1 hg with q | q
      · have := hlt g (by simp [q]); omega
      · rcases List.mem_append.1 q with q | q
        · have := hlt g (by simp [q]); omega
        · rcases List.mem_append.1 q with q | q
          · exact hGlt g q
          · have := hlt g (by simp [q]); omega
    have := nodup_swap (N := w6.heap.size) (M' := blk v') hb2 (blk_nodup v') (fun g hg => by
      rcases hr7.b with q | ⟨k, hk', q⟩
      · exact .inl (by rw [blk_eq q] at hg; exact hg)
      · exact .inr (by have := mem_blk.1 hg; rw [q] at this; rw [← Option.some.inj this]; exact hk')) (fun g hg => by
        rw [List.mem_singleton.1 hg]; exact hn6.lt) hl6
    simpa using this
  · exact m8.os.trans (m7.os.trans hb.os)
  · exact m8.tape.trans (m7.tape.trans hb.tape)
  · exact m8.output.trans (m7.output.trans hb.output)
  · have := m8.size; omega
  · intro g hg hgn
    have h1 : vp.ownBlock ≠ some g := fun q => hgn (by simp [mem_blk.2 q])
    have h2 : g ≠ p := fun q => hgn (by simp [q])
    exact (hkeep g (by omega) h1 h2).trans (hb.block g hg)
  · intro g hg
    rcases List.mem_cons.1 hg with q | q
    · exact .inl (by simp [q])
    · rcases List.mem_append.1 q with q | q
      · rcases hr7.b with z | ⟨k, hk', z⟩
        · rw [blk_eq z] at q; exact .inl (by simp [q])
        · have := mem_blk.1 q; rw [z] at this; exact .inr (by have := Option.some.inj this; omega)
      · rcases List.mem_append.1 q with q | q
        · exact .inl (by simp [q])
        · rcases List.mem_append.1 q with q | q
          · exact .inl (by simp [q])
          · rcases List.mem_append.1 q with q | q
            · exact (hG g q).imp (fun q => by simp [q]) id
            · exact .inl (by simp [q])
end Go.Proofs.YtolgpnaoaodepaaGreat
/- The walk of sink, by what take does below. -/
namespace Go.Proofs.YtolgpnaoaodepaaGreat
open Go.RowKit

theorem Mod.cell {F : Nat → Prop} {w w' : World} (h : Mod F w w') {p : Addr} (hg : p.block < w.heap.size) (hn : ¬ F p.block) : w'.cell? p = w.cell? p := by
  exact World.cell?_of_block (w := w) (h.block p.block hg hn)
/-- A branch within sink, about one of its parts. -/
structure SkM (h : Nat) (lo : Tr.Key) (hi : Option Tr.Key) (p : Nat) (F : List Nat) (w : World) (ps : List (Tr.Key × Tr.TreeT h)) (cs : List Tr.Ch) (W : World) (A : List (Tr.Key × Tr.TreeT h)) (f : Tr.Key) (m : Option Tr.Key) (t : Tr.TreeT h) (B : List (Tr.Key × Tr.TreeT h)) (cs' : List Tr.Ch) (F' : List Nat) : Prop where
  foc : Foc h lo hi p W A f m t B cs' F'
  gone : Gone F F' w W
  few : cs'.length < cs.length
  wt : cs'.length + (Tr.wts A + (Tr.wt h t + Tr.wts B)) ≤ Tr.wt (h + 1) (Tr.brT ps cs)
  val : ∀ k, Tr.inR lo hi k → Tr.val (h + 1) (Tr.brT (A ++ (f, t) :: B) cs') k = Tr.val (h + 1) (Tr.brT ps cs) k
theorem SkM.fin {h : Nat} {lo : Tr.Key} {hi : Option Tr.Key} {p : Nat} {F : List Nat} {w : World} {ps : List (Tr.Key × Tr.TreeT h)} {cs : List Tr.Ch} {W W' : World} {A : List (Tr.Key × Tr.TreeT h)} {f : Tr.Key} {m : Option Tr.Key} {t : Tr.TreeT h} {B : List (Tr.Key × Tr.TreeT h)} {cs' : List Tr.Ch} {F' F'' : List Nat} (hs : SkM h lo hi p F w ps cs W A f m t B cs' F') (hr : Rep (h + 1) W' p (Tr.brT (A ++ (Tr.cutT h f t ++ B)) cs') F'') (hnd : F''.Nodup) (hg : Gone F' F'' W W') : SameB h lo hi p F w ps cs W' (A ++ (Tr.cutT h f t ++ B)) cs' F'' := by
  obtain ⟨h1, h2, h3⟩ := hs.foc.cut
  refine ⟨hr, hnd, h1, Nat.le_trans h2 ?_, hs.gone.trans hg, fun k hk => (h3 k hk).trans (hs.val k hk)⟩
  rw [Tr.wt_br, Tr.wts_append, Tr.wts_cons]
  exact hs.wt
theorem SkM.below {h : Nat} {lo : Tr.Key} {hi : Option Tr.Key} {p : Nat} {F : List Nat} {w : World} {ps : List (Tr.Key × Tr.TreeT h)} {cs : List Tr.Ch} {W W' : World} {A : List (Tr.Key × Tr.TreeT h)} {f : Tr.Key} {m : Option Tr.Key} {t : Tr.TreeT h} {B : List (Tr.Key × Tr.TreeT h)} {cs' : List Tr.Ch} {F' : List Nat} (hs : SkM h lo hi p F w ps cs W A f m t B cs' F') (hb : Below W.heap.size W W') : SkM h lo hi p F w ps cs W' A f m t B cs' F' :=
  ⟨hs.foc.below hb, hs.gone.trans (Gone.below hb), hs.few, hs.wt, hs.val⟩

set_option maxHeartbeats 1000000 in
set_option maxRecDepth 20000 in
theorem sink_any {h : Nat} (HT : TakeP h) (p : Nat) (ps : List (Tr.Key × Tr.TreeT h)) (cs : List Tr.Ch) (F : List Nat) (w : World) (lo : Tr.Key) (hi : Option Tr.Key) (hr : Rep (h + 1) w p (Tr.brT ps cs) F) (hnd : F.Nodup) (hwf : Tr.WF (h + 1) lo hi (Tr.brT ps cs)) (hroom : Tr.room lo hi) (hcs : 0 < cs.length) (hwt : Tr.wt (h + 1) (Tr.brT ps cs) ≤ 90000) :
    Calls Tryz.prog 126 #[.pointer (some ⟨p, 0, none⟩)] w fun r w' => r = .returned (.tuple #[]) ∧ ∃ ps' cs' F', SameB h lo hi p F w ps cs w' ps' cs' F' ∧ cs'.length < cs.length := by
  have hlt := hr.lt
  obtain ⟨vp, vc, pl, ml, G, hn, hop, hoc, rfl, hk, rfl⟩ := hr
  have hpos : 0 < ps.length := chain_some hroom hwf.1
  have hpw : ps.length ≤ Tr.wts ps := Tr.wt_parts hwf.1
  have hwt1 := hwt
  rw [Tr.wt_br, plainCh_len] at hwt1
  rw [plainCh_len] at hcs
  have hpl := hk.len
  have HBZ := hid (busiest_any p _ vp vc pl ml w hn hop hoc (by omega) (by omega) (by omega) hcs)
  have HN := hid hn
  have HP := hid hop
  have HC := hid hoc
  have HK := hid hk
  have HND := hid hnd
  have HLT := hid hlt
  have HWF := hid hwf
  have HTT := hid HT
  clear hn hop hoc hk hnd hlt hwf HT
  go_enter Tryz.func126, Tryz.ntmps126
  go_wp2_with fail
  refine HBZ.out.mono ?_
  rintro r w1 ⟨⟨n, rfl, hnl, c, hc, hix⟩, hb1⟩
  obtain ⟨A, ⟨f, t⟩, B, rfl, hA⟩ := Tr.split_at ps n (by omega)
  subst hA
  obtain ⟨m0, cA, e0, m, rm, ht, cB⟩ := Tr.chain_append.1 HWF.out.1
  subst e0
  obtain ⟨plA, x, plB, GA, G1, GB, rfl, hl, kA, ex, r1, kB, rfl⟩ := kids_one HK.out
  have HB1 := hid hb1
  have hn1 : NodT w1.drew p (.slice none 0 0) vp vc := (hb1.block p HN.out.lt).trans HN.out
  have HP1 : Hid (OwnsP 0 w1.drew vp (plA ++ x :: plB)) := row_below HP.out hb1.drew (Nat.le_refl _)
  have HC1 : Hid (OwnsC 0 w1.drew vc ml) := row_below HC.out hb1.drew (Nat.le_refl _)
  have hwt2 : ml.length + (Tr.wts A + (Tr.wt h t + Tr.wts B)) ≤ 90000 := by
    rw [Tr.wts_append, Tr.wts_cons] at hwt1
    exact hwt1
  have hkeep1 : ∀ g ∈ p :: (blk vp ++ (blk vc ++ (GA ++ (G1 ++ GB)))), w1.heap[g]? = w.heap[g]? := fun g hg => hb1.block g (HLT.out g hg)
  have HH := hid (fun vo vk w2 hn2 htw hm2 => hand_take HTT.out (w0 := w1) (w := w1.drew) (vp := vp) (vc := vc) HND.out (fun g hg => Nat.lt_of_lt_of_le (HLT.out g hg) hb1.size) HP1.out (kA.keep fun g hg => hkeep1 g (by simp [hg])) ex (r1.keep fun g hg => hkeep1 g (by simp [hg])) (kB.keep fun g hg => hkeep1 g (by simp [hg])) cA rm ht cB HWF.out.2 hwt2 vo vk w2 hn2 htw hm2 rfl rfl rfl rfl)
  have HO := hid (handOut_any p _ vp vc (plA ++ x :: plB) ml A.length w1.drew hn1 HP1.out HC1.out (by omega) (by omega))
  have hfew : (ml.filter fun c => !atP (plA ++ x :: plB) A.length c).length < ml.length := by
    have h1 := Tr.filter_two (atP (plA ++ x :: plB) A.length) ml
    have h2 := Tr.filter_pos (P := atP (plA ++ x :: plB) A.length) hc (decide_eq_true hix)
    omega
  have hxl : A.length < (plA ++ x :: plB).length := hnl
  have hgx : (plA ++ x :: plB)[A.length]'hxl = x := by simp [← hl]
  obtain ⟨g, cap, rfl, hcap, -, hg, x0, x1⟩ := HP1.out.at A.length hxl
  rw [hgx] at x0 x1
  obtain ⟨n0, n1, n2, -⟩ := hn1.cells
  have hgp : g ≠ p := fun q => nod_row hn1 HP1.out (by decide) (by rw [← q]; rfl)
  have HGP := hid hgp
  have HSK : Hid (∀ w3 t' cs' F', Foc h lo hi p w3 A f m t' B cs' F' → cs'.length = (ml.filter fun c => !atP (plA ++ x :: plB) A.length c).length → Gone (p :: (blk (.slice (some ⟨g, 0, none⟩) (plA ++ x :: plB).length cap) ++ (blk vc ++ (GA ++ (G1 ++ GB))))) F' w1 w3 → cs'.length + (Tr.wts A + (Tr.wt h t' + Tr.wts B)) ≤ ml.length + (Tr.wts A + (Tr.wt h t + Tr.wts B)) → (∀ k, Tr.inR lo hi k → Tr.val (h + 1) (Tr.brT (A ++ (f, t') :: B) cs') k = Tr.val (h + 1) (Tr.brT (A ++ (f, t) :: B) (plainCh ml)) k) → SkM h lo hi p (p :: (blk (.slice (some ⟨g, 0, none⟩) (plA ++ x :: plB).length cap) ++ (blk vc ++ (GA ++ (G1 ++ GB))))) w (A ++ (f, t) :: B) (plainCh ml) w3 A f m t' B cs' F') := by
    intro w3 t' cs' F' h1 h2 h3 h4 h5
    refine ⟨h1, (Gone.below HB1.out).trans h3, by rw [h2, plainCh_len]; exact hfew, ?_, h5⟩
    rw [Tr.wt_br, plainCh_len, Tr.wts_append, Tr.wts_cons]
    exact h4
  generalize hFF : p :: (blk (.slice (some ⟨g, 0, none⟩) (plA ++ x :: plB).length cap) ++ (blk vc ++ (GA ++ (G1 ++ GB)))) = FF at *
  generalize hPL : plA ++ x :: plB = pl at *
  generalize hPS : A ++ (f, t) :: B = ps at *
  have HFF := hid hFF
  have HPL := hid hPL
  have HPS := hid hPS
  have HWR : Hid (IntKind.i64.wrap ((A.length : Int) - 1) = (A.length : Int) - 1) := by
    show _ = _
    rw [IntKind.wrap_i64]; omega
  have hwr := HWR.out
  clear HBZ HN HP HC HK HND HLT HWF kA kB r1 ex cA cB ht rm hkeep1 hc hix hfew hgx hb1 hn1 hFF hPL hPS hgp hpl hpos hpw hnl hwt1 hl
  go_upto_region 1 with fail
  go_cut [16] (fun _ wx => ∃ t3 cs3 F3, SkM h lo hi p FF w ps (plainCh ml) wx A f m t3 B cs3 F3)
  case first =>
    go_region_law (first
      | (go_simp; go_at_call 173; refine HO.out.mono ?_; rintro r w2 ⟨vo, vk, rfl, hn2, htw, hm2⟩; have HTK := hid (HH.out vo vk w2 hn2 htw hm2); have y1 := (hm2.cell (p := ⟨g, A.length * 2 + 1, none⟩) hg HGP.out).trans x1; obtain ⟨r0, r1, r2, -⟩ := hn2.cells; clear hn2 htw hm2)
      | (go_simp; go_at_call 63; refine HTK.out.mono ?_; rintro r w3 ⟨rfl, t3, cs3, F3, hf3, k1, k2, k3, k4⟩; have HS3 := hid (HSK.out w3 t3 cs3 F3 hf3 k1 k2 k3 k4); clear hf3 k1 k2 k3 k4))
    all_goals
      go_wp2_with fail
      go_meet
      exact ⟨_, _, _, HS3.out⟩
  case rest =>
    obtain ⟨t3, cs3, F3, hs3⟩ := hcut
    have HS3 := hid hs3
    clear hs3
    go_wp2_with fail
    refine (join_foc HTT.out HS3.out.foc).mono ?_
    rintro r w4 ⟨b, m4, t4, B4, F4, rfl, hf4, hg4, hw4, hv4⟩
    have HS4 : Hid (SkM h lo hi p FF w ps (plainCh ml) w4 A f m4 t4 B4 cs3 F4) := ⟨hf4, HS3.out.gone.trans hg4, HS3.out.few, by have := HS3.out.wt; omega, fun k hk => (hv4 k hk).trans (HS3.out.val k hk)⟩
    clear hf4 hg4 hw4 hv4
    go_wp2_with fail
    refine (join_foc2 HTT.out HS4.out.foc).mono ?_
    rintro r w5 (⟨rfl, hf5, hg5⟩ | ⟨A5, f5, t5, F5, rfl, hA5, hf5, hg5, hw5, hv5⟩)
    case' inl =>
      have HX : Hid (∃ (A5 : List (Tr.Key × Tr.TreeT h)) (f5 : Tr.Key) (m5 : Option Tr.Key) (t5 : Tr.TreeT h) (B5 : List (Tr.Key × Tr.TreeT h)) (F5 : List Nat), A.length = A5.length ∧ SkM h lo hi p FF w ps (plainCh ml) w5 A5 f5 m5 t5 B5 cs3 F5) := ⟨A, f, m4, t4, B4, F4, rfl, hf5, HS4.out.gone.trans hg5, HS4.out.few, HS4.out.wt, HS4.out.val⟩
      clear hf5 hg5
      go_upto_region 5 with fail
      clear x0 x1 n0 n1 n2 hwr HWR
      try clear y1
      generalize A.length = ia at *
    case' inr =>
      have HX : Hid (∃ (A6 : List (Tr.Key × Tr.TreeT h)) (f5 : Tr.Key) (m5 : Option Tr.Key) (t5 : Tr.TreeT h) (B5 : List (Tr.Key × Tr.TreeT h)) (F5 : List Nat), A5.length = A6.length ∧ SkM h lo hi p FF w ps (plainCh ml) w5 A6 f5 m5 t5 B5 cs3 F5) := ⟨A5, f5, m4, t5, B4, F5, rfl, hf5, HS4.out.gone.trans hg5, HS4.out.few, by have := HS4.out.wt; omega, fun k hk => (hv5 k hk).trans (HS4.out.val k hk)⟩
      have eA : (A.length : Int) - 1 = (A5.length : Int) := by omega
      have EA := hid eA
      have hl5 := hf5.len
      have xw5 : wrap64 (A5.length : Int) = (A5.length : Int) := IntWalk.wrap64_in _ ⟨by omega, by omega⟩
      clear hf5 hg5 hw5 hv5 eA
      go_upto_region 5 with fail
      try rw [EA.out]
      rw [xw5]
      clear x0 x1 n0 n1 n2 hwr HWR
      try clear y1
      clear xw5 hl5 EA hA5
      generalize A5.length = ia at *
    all_goals
      obtain ⟨A6, f6, m6, t6, B6, F6, rfl, hs6⟩ := HX.out
      have HS6 := hid (hs6.below (Below.refl _ w5).drew)
      obtain ⟨vp6, vc6, pl6, x6, hx6, T6⟩ := HS6.out.foc.tail
      obtain ⟨g6, cap6, rfl, hcap6, -, hg6, z0, z1⟩ := T6.row.at A6.length hx6
      rw [T6.at'] at z0 z1
      have HT6 := hid T6
      obtain ⟨r0, r1, r2, -⟩ := T6.nod.cells
      have hl6 := T6.len
      have xw : IntKind.i64.wrap ((A6.length : Int) + 1) = (A6.length : Int) + 1 := by rw [IntKind.wrap_i64]; omega
      clear hs6 HX T6
      go_region_law (first
        | (go_simp; go_at_call 64; refine HT6.out.go.mono ?_; rintro r w6 ⟨v7, pl7, rfl, k1, k2, ho7, hne7, hn7, hop7, hfin⟩; have HRP := hid (replaceP_any _ v7 pl6 pl7 A6.length w6 hx6 hop7 ho7 k1 hl6 k2 hne7); have HFIN := hid hfin; obtain ⟨u0, u1, u2, -⟩ := hn7.cells; clear ho7 hne7 hn7 hop7 hfin)
        | (go_simp; go_at_call 175; refine HRP.out.mono ?_; rintro r w7 ⟨v8, rfl, hq8⟩; have HF8 := hid (HFIN.out v8 w7 hq8); obtain ⟨a8, n8, c8, e8⟩ := shape3 hq8.o; subst e8; obtain ⟨s0, s1, s2, s3, s4, s5⟩ := HF8.out.1.cells; clear hq8))
      all_goals
        go_wp2_with fail
        go_end0
        obtain ⟨-, F8, hr8, hnd8, hg8⟩ := HF8.out
        have hend := HS6.out.fin hr8 hnd8 hg8
        have hfew := HS6.out.few
        rw [← HFF.out, ← HPL.out, ← HPS.out] at hend
        exact ⟨rfl, _, _, _, hend, hfew⟩
end Go.Proofs.YtolgpnaoaodepaaGreat
/- take, of a leaf. -/
namespace Go.Proofs.YtolgpnaoaodepaaGreat
open Go.RowKit

/-- A leaf that takes changes, so far. -/
structure TkL (p : Nat) (vi : Value) (w : World) (l : List Tr.It) (vi' : Value) (il' : List (ByteArray × ByteArray)) (W : World) : Prop where
  nod : NodT W p vi' (.slice none 0 0) (.slice none 0 0)
  its : OwnsI 0 W vi' il'
  pl : plain il' = l
  mod : Mod (fun g => g ∈ p :: blk vi) w W
  new : ∀ g, vi'.ownBlock = some g → vi.ownBlock = some g ∨ w.heap.size ≤ g
theorem TkL.next {p : Nat} {vi : Value} {w : World} {l l' : List Tr.It} {vi' vi'' : Value} {il' il'' : List (ByteArray × ByteArray)} {W W' : World} (h : TkL p vi w l vi' il' W) (o : Obj) (hq : ChgQ p vi' (.slice none 0 0) (.slice none 0 0) (W.alloc o) l' vi'' il'' W') : TkL p vi w l' vi'' il'' W' := by
  have hb : Below W.heap.size W (W.alloc o) := (Below.refl _ W).alloc (Nat.le_refl _) o
  have m1 : Mod (fun _ => False) W (W.alloc o) := Mod.of_below hb
  refine ⟨hq.nod, hq.its, hq.pl, (h.mod.trans m1 (H := fun g => g ∈ p :: blk vi) (fun _ _ q => q) (fun _ _ q => q.elim)).trans hq.mod (fun _ _ q => q) (fun g hg q => ?_), fun g hg => ?_⟩
  · rcases q with q | q
    · simp [q]
    · rcases h.new g q with z | z
      · simp [mem_blk.2 z]
      · omega
  · rcases hq.blk g hg with q | q
    · exact h.new g q
    · exact .inr (by have := h.mod.size; have := hb.size; omega)
theorem plain_mem16 {lo : Tr.Key} {hi : Option Tr.Key} {il : List (ByteArray × ByteArray)} (h : Tr.WF 0 lo hi (plain il)) : ∀ y ∈ il, y.2.size ≤ 16 := fun y hy => by
  have := (h.2 (y.1.data.toList, y.2.data.toList) (List.mem_map.2 ⟨y, hy, rfl⟩)).2.2
  simpa using this

set_option maxHeartbeats 1000000 in
set_option maxRecDepth 20000 in
theorem take_leaf : TakeP 0 := by
  intro p t F w vc ml lo hi hr hnd hwf htop hroom hoc hne hcc hwt
  have hlt := hr.lt
  obtain ⟨vi, il, hn, ho, rfl, rfl⟩ := hr
  have hwl : 1 + (il.length - 16) + ml.length ≤ 90000 := by rw [← plain_len il]; exact hwt
  have hil : il.length ≤ 16 := by rw [← plain_len il]; exact htop
  obtain ⟨n0, n1, n2, -⟩ := hn.cells
  obtain ⟨ca, cc, rfl⟩ := rowShape hoc
  have HIL := hid (tIsLeaf_any p _ _ _ _ _ w hn)
  have H0 : Hid (TkL p vi w (Tr.leafAll (plain il) (plainCh (ml.take 0))) vi il w) := ⟨hn, ho, rfl, Mod.of_below (Below.refl _ w), fun g hg => .inl hg⟩
  have HC := hid hoc
  have HNE := hid hne
  have HCC := hid hcc
  have HWF := hid hwf
  have HND := hid hnd
  have HLT := hid hlt
  have HWA : Hid (∀ j, Tr.WF 0 lo hi (Tr.leafAll (plain il) (plainCh (ml.take j)))) := fun j => Tr.leafAll_wf _ hwf fun c hc => hcc c (by
    obtain ⟨x, hx, rfl⟩ := List.mem_map.1 hc
    exact List.mem_map.2 ⟨x, List.mem_of_mem_take hx, rfl⟩)
  have HLA : Hid (∀ j, (Tr.leafAll (plain il) (plainCh (ml.take j))).length ≤ 90100) := fun j => by
    have := Tr.leafAll_len (plainCh (ml.take j)) (plain il)
    rw [plainCh_len, plain_len, List.length_take] at this
    omega
  clear hn ho hoc hne hcc hwf hnd hlt htop hwt
  go_enter Tryz.func63, Tryz.ntmps63
  go_wp2_with fail
  refine HIL.out.mono ?_
  rintro r w ⟨rfl, rfl⟩
  rw [show decide True = true from rfl]
  go_wp2_with fail
  go_loopw [10] (fun i wr => ∃ j : Nat, j ≤ ml.length ∧ i = .int .i64 (j : Nat) ∧ ∃ vi' il', TkL p vi w (Tr.leafAll (plain il) (plainCh (ml.take j))) vi' il' wr) (fun i _ => ml.length - (intOf i).toNat)
  case atStart => exact ⟨0, Nat.zero_le _, rfl, _, _, H0.out⟩
  case round =>
    obtain ⟨j, hj, rfl, vi', il', hT⟩ := hrel
    have HT := hid hT
    clear hT
    by_cases hjl : j < ml.length
    · obtain ⟨g, cap, e, hc1, -, hg, d0, d1, d2⟩ := HC.out.at j hjl
      simp only [Value.slice.injEq] at e
      obtain ⟨rfl, -, rfl⟩ := e
      have hgF : g ∉ p :: blk vi := HNE.out g rfl
      have hs1 := fun o => HT.out.mod.cell (p := ⟨g, o, none⟩) hg hgF
      have d0' := (hs1 _).trans d0
      have d1' := (hs1 _).trans d1
      have d2' := (hs1 _).trans d2
      have HTS : Hid (plainCh (ml.take (j + 1)) = plainCh (ml.take j) ++ plainCh [ml[j]'hjl]) := by
        show _ = _
        rw [List.take_add_one, List.getElem?_eq_getElem hjl]
        unfold plainCh; rw [List.map_append]; rfl
      have HOK := hid (HCC.out _ (List.mem_map.2 ⟨ml[j]'hjl, List.getElem_mem hjl, rfl⟩))
      clear hs1 d0 d1 d2 hgF
      generalize ml[j]'hjl = c at *
      obtain ⟨ck, ckey, cx⟩ := c
      have hwfj := HWA.out j
      have hlj := HLA.out j
      rw [← HT.out.pl] at hwfj hlj
      rw [plain_len] at hlj
      have hb1 : Below wr.heap.size wr (wr.alloc (.cells #[.int .i64 ck, .string ckey, .string cx] 34)) := (Below.refl wr.heap.size wr).alloc (Nat.le_refl _) _
      have HCH := hid (tChange_any p vi' _ _ il' ck ckey cx (wr.alloc (.cells #[.int .i64 ck, .string ckey, .string cx] 34)) ((hb1.block p HT.out.nod.lt).trans HT.out.nod) (row_below HT.out.its hb1 (Nat.le_refl _)) (by omega) hwfj.1 (plain_mem16 hwfj) (by have := (Tr.okCh_key HOK.out.2).2; simpa using this))
      clear hb1 hwfj hlj
      go_wp2_with fail
      refine HCH.out.mono ?_
      rintro r w2 ⟨rfl, vi'', il'', hq⟩
      have HT2 : Hid (TkL p vi w (Tr.leafAll (plain il) (plainCh (ml.take (j + 1)))) vi'' il'' w2) := by
        have := HT.out.next _ hq
        rw [HT.out.pl] at this
        rw [HTS.out]
        show TkL p vi w (Tr.leafAll _ (_ ++ [_])) vi'' il'' w2
        rw [Tr.leafAll_snoc]
        exact this
      clear hq HCH HT d0' d1' d2'
      go_wp2_with fail
      exact ⟨⟨j + 1, by omega, by go_num, _, _, HT2.out⟩, by simp [intOf]; omega⟩
    · have hjl : j = ml.length := by omega
      subst hjl
      rw [List.take_length] at HT
      go_wp2_with fail
      refine bodyPost_ret (results_none rfl _ _ _) rfl ?_
      have hT := HT.out
      have hw1 := HWA.out ml.length
      rw [List.take_length] at hw1
      refine ⟨rfl, Tr.lf (Tr.leafAll (plain il) (plainCh ml)), p :: blk vi', ⟨⟨vi', il', hT.nod, hT.its, hT.pl, rfl⟩, ?_, hw1, trivial, hT.mod, fun g hg => ?_⟩, ?_, fun k _ => Tr.leafAll_look k _ HWF.out HCC.out⟩
      · exact List.nodup_cons.2 ⟨fun q => nod_row hT.nod hT.its (by decide) (mem_blk.1 q), blk_nodup _⟩
      · rcases List.mem_cons.1 hg with q | q
        · exact .inl (by simp [q])
        · exact (hT.new g (mem_blk.1 q)).imp (fun z => by simp [mem_blk.2 z]) id
      · have h1 := Tr.leafAll_len (plainCh ml) (plain il)
        rw [plainCh_len] at h1
        show 1 + ((Tr.leafAll (plain il) (plainCh ml)).length - 16) ≤ 1 + ((plain il).length - 16) + ml.length
        omega
end Go.Proofs.YtolgpnaoaodepaaGreat
