/- Two neighbours, joined: what comes of them. -/
import Derived.Test.YtolgpnaoaodepaaGreatTreZJm
namespace Go.Proofs.YtolgpnaoaodepaaGreat.Tr

theorem inR_left {f1 f2 k : Key} {m : Option Key} (hr : room f2 m) (h : inR f1 (some f2) k) : inR f1 m k := ⟨h.1, fun b hb => lt_tr (h.2 f2 rfl) (hr b hb)⟩
theorem inR_right {f1 f2 k : Key} {m : Option Key} (hr : room f1 (some f2)) (h : inR f2 m k) : inR f1 m k := ⟨fun q => h.1 (lt_tr q (hr f2 rfl)), h.2⟩
theorem val_two {h : Nat} (f1 f2 : Key) (t1 t2 : TreeT h) (k : Key) : val (h + 1) ([(f1, t1), (f2, t2)], []) k = if k < f2 then val h t1 k else val h t2 k := by
  by_cases q : k < f2
  · rw [if_pos q]
    have : ix ([(f1, t1), (f2, t2)].map (·.1)) k = 0 := by show ix [f1, f2] k = 0; rw [ix, if_pos q]
    rw [val, this]; rfl
  · rw [if_neg q]
    have : ix ([(f1, t1), (f2, t2)].map (·.1)) k = 1 := by show ix [f1, f2] k = 1; rw [ix, if_neg q]; rfl
    rw [val, this]; rfl
theorem join0_wf {f1 f2 : Key} {m : Option Key} {t1 t2 : TreeT 0} (hr1 : room f1 (some f2)) (hr2 : room f2 m) (h1 : WF 0 f1 (some f2) t1) (h2 : WF 0 f2 m t2) : WF 0 f1 m (its t1 ++ its t2) := by
  refine ⟨List.pairwise_append.2 ⟨h1.1, h2.1, fun x hx y hy => ?_⟩, fun x hx => ?_⟩
  · exact lt_le ((h1.2 x hx).1.2 f2 rfl) (h2.2 y hy).1.1
  · rcases List.mem_append.1 hx with hx | hx
    · exact ⟨inR_left hr2 (h1.2 x hx).1, (h1.2 x hx).2⟩
    · exact ⟨inR_right hr1 (h2.2 x hx).1, (h2.2 x hx).2⟩
theorem join0_val {f1 f2 : Key} {m : Option Key} {t1 t2 : TreeT 0} (h1 : WF 0 f1 (some f2) t1) (h2 : WF 0 f2 m t2) (k : Key) : val 0 (its t1 ++ its t2) k = val 1 ([(f1, t1), (f2, t2)], []) k := by
  rw [val_two]
  show look (its t1 ++ its t2) k = _
  rw [look_append]
  by_cases q : k < f2
  · rw [if_pos q, look_none (l := its t2), Option.or_none]; rfl
    intro x hx e
    have := (h2.2 x hx).1.1
    rw [e] at this; exact this q
  · rw [if_neg q, look_none (l := its t1), Option.none_or]; rfl
    intro x hx e
    have := (h1.2 x hx).1.2 f2 rfl
    rw [e] at this; exact q this
theorem joinS_wf {h : Nat} {f1 f2 : Key} {m : Option Key} {ps1 ps2 : List (Key × TreeT h)} {cs1 cs2 : List Ch} (hr2 : room f2 m) (h1 : WF (h + 1) f1 (some f2) (brT ps1 cs1)) (h2 : WF (h + 1) f2 m (brT ps2 cs2)) : WF (h + 1) f1 m (brT (ps1 ++ ps2) cs1) :=
  ⟨chain_append.2 ⟨some f2, h1.1, h2.1⟩, fun c hc => ⟨inR_left hr2 (h1.2 c hc).1, (h1.2 c hc).2⟩⟩
theorem joinS_val {h : Nat} {f1 f2 : Key} {m : Option Key} {ps1 ps2 : List (Key × TreeT h)} {cs1 cs2 : List Ch} (h1 : WF (h + 1) f1 (some f2) (brT ps1 cs1)) (h2 : WF (h + 1) f2 m (brT ps2 cs2)) {k : Key} (hk : inR f1 m k) : afterAll cs2 k (val (h + 1) (brT (ps1 ++ ps2) cs1) k) = val (h + 2) ([(f1, brT ps1 cs1), (f2, brT ps2 cs2)], []) k := by
  rw [val_two]
  have e1 : ∀ (ps : List (Key × TreeT h)) (cs : List Ch), val (h + 1) (brT ps cs) k = afterAll cs k (val (h + 1) (brT ps []) k) := fun _ _ => rfl
  by_cases q : k < f2
  · have hm := val_mid (R := fun f m t => WF h f m t ∧ Top h t) (lo := some f1) (A := []) (X := ps1) (B := ps2) (f := f1) rfl h1.1 h2.1 cs1 (k := k) ⟨hk.1, fun b hb => by rw [← Option.some.inj hb]; exact q⟩
    rw [if_pos q, e1 ps1 cs1, afterAll_none cs2]
    · exact hm
    · intro c hc e
      have := (h2.2 c hc).1.1
      rw [e] at this; exact this q
  · have hm := val_mid (R := fun f m t => WF h f m t ∧ Top h t) (lo := some f1) (A := ps1) (X := ps2) (B := []) (f := f2) h1.1 h2.1 rfl cs1 (k := k) ⟨q, hk.2⟩
    rw [List.append_nil] at hm
    have hn : ∀ s, afterAll cs1 k s = s := fun s => afterAll_none cs1 k s fun c hc e => by
      have := (h1.2 c hc).1.2 f2 rfl
      rw [e] at this; exact q this
    rw [hn] at hm
    rw [if_neg q, e1 ps2 cs2]
    exact congrArg (afterAll cs2 k) hm
end Go.Proofs.YtolgpnaoaodepaaGreat.Tr
/- join, of trees. -/
namespace Go.Proofs.YtolgpnaoaodepaaGreat
open Go.RowKit

def Tr.lf (l : List Tr.It) : Tr.TreeT 0 := l
/-- A tree that has become another. -/
structure NewT (h : Nat) (lo : Tr.Key) (hi : Option Tr.Key) (p : Nat) (F : List Nat) (w w' : World) (t' : Tr.TreeT h) (F' : List Nat) : Prop where
  rep : Rep h w' p t' F'
  nd : F'.Nodup
  wf : Tr.WF h lo hi t'
  small : Tr.Small h t'
  mod : Mod (fun g => g ∈ F) w w'
  sub : ∀ g ∈ F', g ∈ F ∨ w.heap.size ≤ g
/-- What take does, at this height. -/
def TakeP (h : Nat) : Prop := ∀ (p : Nat) (t : Tr.TreeT h) (F : List Nat) (w : World) (vc : Value) (ml : List (Int × ByteArray × ByteArray)) (lo : Tr.Key) (hi : Option Tr.Key), Rep h w p t F → F.Nodup → Tr.WF h lo hi t → Tr.Top h t → Tr.room lo hi → OwnsC 0 w vc ml → (∀ g, vc.ownBlock = some g → g ∉ F) → (∀ c ∈ plainCh ml, Tr.inR lo hi c.2.1 ∧ Tr.okCh c) → Tr.wt h t + ml.length ≤ 90000 →
  Calls Tryz.prog 63 #[.pointer (some ⟨p, 0, none⟩), vc] w fun r w' => r = .returned (.tuple #[]) ∧ ∃ t' F', NewT h lo hi p F w w' t' F' ∧ Tr.wt h t' ≤ Tr.wt h t + ml.length ∧ ∀ k, Tr.inR lo hi k → Tr.val h t' k = Tr.afterAll (plainCh ml) k (Tr.val h t k)
theorem nodup_swap {X Y M M' : List Nat} {N : Nat} (h : (X ++ (M ++ Y)).Nodup) (hM' : M'.Nodup) (hsub : ∀ g ∈ M', g ∈ M ∨ N ≤ g) (hX : ∀ g ∈ X, g < N) (hY : ∀ g ∈ Y, g < N) : (X ++ (M' ++ Y)).Nodup := by
  obtain ⟨h1, h2, h3⟩ := List.nodup_append.1 h
  obtain ⟨h4, h5, h6⟩ := List.nodup_append.1 h2
  refine List.nodup_append.2 ⟨h1, List.nodup_append.2 ⟨hM', h5, fun a ha b hb e => ?_⟩, fun a ha b hb e => ?_⟩
  · subst e
    rcases hsub a ha with q | q
    · exact h6 a q a hb rfl
    · have := hY a hb; omega
  · subst e
    rcases List.mem_append.1 hb with hb | hb
    · rcases hsub a hb with q | q
      · exact h3 a ha a (List.mem_append_left _ q) rfl
      · have := hX a ha; omega
    · exact h3 a ha a (List.mem_append_right _ hb) rfl
theorem Kids.keep {h : Nat} {w w' : World} {pl : List (ByteArray × Nat)} {ps : List (Tr.Key × Tr.TreeT h)} {G : List Nat} (hk : Kids (Rep h w) pl ps G) (hs : ∀ g ∈ G, w'.heap[g]? = w.heap[g]?) : Kids (Rep h w') pl ps G :=
  hk.imp fun _ _ _ hF hr => hr.keep fun g hg => hs g (hF g hg)
theorem Kids.lt {h : Nat} {w : World} {pl : List (ByteArray × Nat)} {ps : List (Tr.Key × Tr.TreeT h)} {G : List Nat} (hk : Kids (Rep h w) pl ps G) : ∀ g ∈ G, g < w.heap.size := fun g hg => wgA (fun q=>Rep.lt q) pl ps G hk g hg
theorem blk_eq {u v : Value} (h : u.ownBlock = v.ownBlock) : blk u = blk v := by unfold blk; rw [h]
/-- Two neighbours have become one. -/
structure JoinQ (h : Nat) (f1 : Tr.Key) (m : Option Tr.Key) (A B : List (Tr.Key × Tr.TreeT h)) (cs : List Tr.Ch) (t1 : Tr.TreeT h) (f2 : Tr.Key) (t2 : Tr.TreeT h) (p : Nat) (F : List Nat) (w w' : World) (t' : Tr.TreeT h) (F' : List Nat) : Prop where
  rep : Rep (h + 1) w' p (Tr.brT (A ++ (f1, t') :: B) cs) F'
  nd : F'.Nodup
  wf : Tr.WF h f1 m t'
  small : Tr.Small h t'
  wt : Tr.wt h t' ≤ Tr.wt h t1 + Tr.wt h t2
  val : ∀ k, Tr.inR f1 m k → Tr.val h t' k = Tr.val (h + 1) ([(f1, t1), (f2, t2)], []) k
  mod : Mod (fun g => g ∈ F) w w'
  sub : ∀ g ∈ F', g ∈ F ∨ w.heap.size ≤ g
/-- The parts of a branch about two neighbours. -/
theorem kids_two {h : Nat} {w : World} {pl : List (ByteArray × Nat)} {A B : List (Tr.Key × Tr.TreeT h)} {f1 f2 : Tr.Key} {t1 t2 : Tr.TreeT h} {G : List Nat} (hk : Kids (Rep h w) pl (A ++ (f1, t1) :: (f2, t2) :: B) G) : ∃ plA x1 x2 plB GA G1 G2 GB, pl = plA ++ x1 :: x2 :: plB ∧ plA.length = A.length ∧ Kids (Rep h w) plA A GA ∧ x1.1.data.toList = f1 ∧ Rep h w x1.2 t1 G1 ∧ Rep h w x2.2 t2 G2 ∧ Kids (Rep h w) plB B GB ∧ G = GA ++ ((G1 ++ G2) ++ GB) := by
  obtain ⟨plA, R, GA, GR, rfl, hl, hA, hR, rfl⟩ := hk.split
  match R, hR with
  | x1 :: x2 :: plB, ⟨e1, G1, GC, r1, ⟨e2, G2, GB, r2, hB, hG2⟩, hG1⟩ => exact ⟨plA, x1, x2, plB, GA, G1, G2, GB, rfl, hl, hA, e1, r1, r2, hB, by rw [hG1, hG2]; simp⟩
theorem join_leaf (p : Nat) (A B : List (Tr.Key × Tr.TreeT 0)) (f1 f2 : Tr.Key) (m : Option Tr.Key) (t1 t2 : Tr.TreeT 0) (cs : List Tr.Ch) (F : List Nat) (w : World) (hr : Rep 1 w p (Tr.brT (A ++ (f1, t1) :: (f2, t2) :: B) cs) F) (hnd : F.Nodup) (h1 : Tr.WF 0 f1 (some f2) t1) (h2 : Tr.WF 0 f2 m t2) (hr1 : Tr.room f1 (some f2)) (hr2 : Tr.room f2 m) (hw : Tr.wt 0 t1 + Tr.wt 0 t2 ≤ 90000) (hlen : A.length + B.length ≤ 90000) :
    Calls Tryz.prog 174 #[.pointer (some ⟨p, 0, none⟩), .int .i64 (A.length : Nat)] w fun r w' => (r = .returned (.bool false) ∧ Below w.heap.size w w') ∨ (r = .returned (.bool true) ∧ ∃ t' F', JoinQ 0 f1 m A B cs t1 f2 t2 p F w w' t' F') := by
  have hlt := hr.lt
  obtain ⟨vp, vc, pl, ml, G, hn, hop, hoc, rfl, hk, rfl⟩ := hr
  obtain ⟨plA, x1, x2, plB, GA, G1, G2, GB, rfl, hl, kA, e1, r1, r2, kB, rfl⟩ := kids_two hk
  obtain ⟨ai, il1, na, oa, rfl, rfl⟩ := r1
  obtain ⟨bi, il2, nb, ob, rfl, rfl⟩ := r2
  have hlb := kB.len
  have hi : plA.length + 1 < (plA ++ x1 :: x2 :: plB).length := by simp
  have hpl : (plA ++ x1 :: x2 :: plB).length ≤ 1000000 := by simp; omega
  have g1 : ∀ q, (plA ++ x1 :: x2 :: plB)[plA.length]'q = x1 := fun q => by simp
  have g2 : ∀ q, (plA ++ x1 :: x2 :: plB)[plA.length + 1]'q = x2 := fun q => by simp
  have hw1 : 1 + (il1.length - 16) + (1 + (il2.length - 16)) ≤ 90000 := by rw [← plain_len il1, ← plain_len il2]; exact hw
  rw [← hl]
  by_cases hs : il1.length + il2.length ≤ 12
  · have hnd' : ((p :: (blk vp ++ (blk vc ++ GA))) ++ ((x1.2 :: blk ai ++ x2.2 :: blk bi) ++ GB)).Nodup := by simpa using hnd
    have hne : x1.2 ≠ p := by
      rintro q
      have := (List.nodup_cons.1 hnd).1
      rw [← q] at this
      simp at this
    have hdis := (List.nodup_append.1 hnd').2.2
    have hin := (List.nodup_append.1 (List.nodup_append.1 hnd').2.1).2.2
    refine (joinL_any p _ vp vc (plA ++ x1 :: x2 :: plB) plA.length ai bi il1 il2 w hn hop hi hpl (by rw [g1]; exact na) (by rw [g2]; exact nb) oa ob hs (by rw [g1]; exact hne)).mono ?_
    rintro r w' ⟨rfl, ai', vp', k1, k2, k3, k4, k5, k6, k7⟩
    rw [g1] at k4
    have k6' : Mod (fun g => g = p ∨ vp.ownBlock = some g ∨ g = x1.2 ∨ ai.ownBlock = some g) w w' := by
      have := k6
      rw [g1] at this
      exact this
    have hrow : (plA ++ x1 :: x2 :: plB).take (plA.length + 1) ++ (plA ++ x1 :: x2 :: plB).drop (plA.length + 2) = plA ++ x1 :: plB := by
      rw [List.take_append, List.drop_append]; simp
      rw [List.take_of_length_le (by omega), List.drop_of_length_le (by omega)]; rfl
    rw [hrow] at k2
    have hvc : ∀ g, vc.ownBlock = some g → w'.heap[g]? = w.heap[g]? := fun g hg => by
      have hg' := mem_blk.2 hg
      refine k6'.block g (hlt g (by simp [hg'])) ?_
      have hnd2 := List.nodup_cons.1 hnd
      rintro (q | q | q | q)
      · rw [q] at hg'; exact hnd2.1 (by simp [hg'])
      · exact (List.nodup_append.1 hnd2.2).2.2 g (mem_blk.2 q) g (by simp [hg']) rfl
      · exact hdis g (by simp [hg']) g (by simp [q]) rfl
      · exact hdis g (by simp [hg']) g (by simp [mem_blk.2 q]) rfl
    have hGA : ∀ g ∈ GA, w'.heap[g]? = w.heap[g]? := fun g hg => by
      refine k6'.block g (hlt g (by simp [hg])) ?_
      have hnd2 := List.nodup_cons.1 hnd
      rintro (q | q | q | q)
      · rw [q] at hg; exact hnd2.1 (by simp [hg])
      · exact (List.nodup_append.1 hnd2.2).2.2 g (mem_blk.2 q) g (by simp [hg]) rfl
      · exact hdis g (by simp [hg]) g (by simp [q]) rfl
      · exact hdis g (by simp [hg]) g (by simp [mem_blk.2 q]) rfl
    have hGB : ∀ g ∈ GB, w'.heap[g]? = w.heap[g]? := fun g hg => by
      refine k6'.block g (hlt g (by simp [hg])) ?_
      rintro (q | q | q | q)
      · exact hdis p (by simp) g (by simp [hg]) q.symm
      · exact hdis g (by simp [mem_blk.2 q]) g (by simp [hg]) rfl
      · exact hin g (by simp [q]) g hg rfl
      · exact hin g (by simp [mem_blk.2 q]) g hg rfl
    have hai : ∀ g ∈ x1.2 :: blk ai', g ∈ x1.2 :: blk ai ++ x2.2 :: blk bi ∨ w.heap.size ≤ g := fun g hg => by
      rcases List.mem_cons.1 hg with q | q
      · exact .inl (by simp [q])
      · rcases k7 with e | ⟨k, hk', e⟩
        · rw [blk_eq e] at q; exact .inl (by simp [q])
        · have := mem_blk.1 q; rw [e] at this; exact .inr (by have := Option.some.inj this; omega)
    have hndI : (x1.2 :: blk ai').Nodup := List.nodup_cons.2 ⟨fun q => nod_row k4 k5 (by decide) (mem_blk.1 q), blk_nodup _⟩
    have hnds := nodup_swap (N := w.heap.size) hnd' hndI hai (fun g hg => hlt g (by have : g ∈ p :: (blk vp ++ (blk vc ++ GA)) := hg; simp at this ⊢; rcases this with q | q | q | q <;> simp [q])) (fun g hg => hlt g (by simp [hg]))
    refine .inr ⟨rfl, Tr.lf (plain (il1 ++ il2)), p :: (blk vp' ++ (blk vc ++ (GA ++ ((x1.2 :: blk ai') ++ GB)))), ?_⟩
    have hpe : Tr.lf (plain (il1 ++ il2)) = Tr.its (plain il1) ++ Tr.its (plain il2) := plain_app il1 il2
    refine ⟨⟨vp', vc, plA ++ x1 :: plB, ml, GA ++ ((x1.2 :: blk ai') ++ GB), k1, k2, row_same hoc (fun g hg _ => hvc g hg), rfl, ?_, rfl⟩, ?_, ?_, trivial, ?_, ?_, k6'.mono ?_, ?_⟩
    · have kM : Kids (Rep 0 w') (x1 :: plB) ((f1, Tr.lf (plain (il1 ++ il2))) :: B) ((x1.2 :: blk ai') ++ GB) := ⟨e1, x1.2 :: blk ai', GB, ⟨ai', il1 ++ il2, k4, k5, rfl, rfl⟩, kB.keep hGB, rfl⟩
      exact kM.append (kA.keep hGA)
    · rw [blk_eq k3]; simpa using hnds
    · rw [hpe]; exact Tr.join0_wf hr1 hr2 h1 h2
    · show 1 + ((plain (il1 ++ il2)).length - 16) ≤ 1 + ((plain il1).length - 16) + (1 + ((plain il2).length - 16))
      rw [plain_len, List.length_append]
      omega
    · intro k _; rw [hpe]; exact Tr.join0_val h1 h2 k
    · rintro g _ (q | q | q | q)
      · simp [q]
      · simp [mem_blk.2 q]
      · simp [q]
      · simp [mem_blk.2 q]
    · intro g hg
      rw [blk_eq k3] at hg
      rcases List.mem_cons.1 hg with q | q
      · exact .inl (by simp [q])
      · rcases List.mem_append.1 q with q | q
        · exact .inl (by simp [q])
        · rcases List.mem_append.1 q with q | q
          · exact .inl (by simp [q])
          · rcases List.mem_append.1 q with q | q
            · exact .inl (by simp [q])
            · rcases List.mem_append.1 q with q | q
              · exact (hai g q).imp (fun q => by simp at q ⊢; rcases q with q | q | q | q <;> simp [q]) id
              · exact .inl (by simp [q])
  · obtain ⟨a1, c1, rfl⟩ := rowShape oa
    obtain ⟨b1, d1, rfl⟩ := rowShape ob
    refine (joinBig_any p _ vp vc (plA ++ x1 :: x2 :: plB) plA.length _ _ _ _ _ _ a1 none b1 none il1.length 0 il2.length 0 c1 0 d1 0 w hn hop hi hpl (by rw [g1]; exact na) (by rw [g2]; exact nb) rfl rfl rfl rfl (by omega) (by omega) (by omega) (by omega) (fun q => hs q.1)).mono fun r w' h => .inl h
end Go.Proofs.YtolgpnaoaodepaaGreat
/- join of branches, as trees; join of whatever height. -/
namespace Go.Proofs.YtolgpnaoaodepaaGreat
open Go.RowKit

theorem join_branch (h : Nat) (HT : TakeP (h + 1)) (p : Nat) (A B : List (Tr.Key × Tr.TreeT (h + 1))) (f1 f2 : Tr.Key) (m : Option Tr.Key) (t1 t2 : Tr.TreeT (h + 1)) (cs : List Tr.Ch) (F : List Nat) (w : World) (hr : Rep (h + 2) w p (Tr.brT (A ++ (f1, t1) :: (f2, t2) :: B) cs) F) (hnd : F.Nodup) (h1 : Tr.WF (h + 1) f1 (some f2) t1) (h2 : Tr.WF (h + 1) f2 m t2) (s1 : Tr.Small (h + 1) t1) (hr1 : Tr.room f1 (some f2)) (hr2 : Tr.room f2 m) (hw : Tr.wt (h + 1) t1 + Tr.wt (h + 1) t2 ≤ 90000) (hlen : A.length + B.length ≤ 90000) :
    Calls Tryz.prog 174 #[.pointer (some ⟨p, 0, none⟩), .int .i64 (A.length : Nat)] w fun r w' => (r = .returned (.bool false) ∧ Below w.heap.size w w') ∨ (r = .returned (.bool true) ∧ ∃ t' F', JoinQ (h + 1) f1 m A B cs t1 f2 t2 p F w w' t' F') := by
  have hlt := hr.lt
  obtain ⟨vp, vc, pl, ml, G, hn, hop, hoc, rfl, hk, rfl⟩ := hr
  obtain ⟨plA, x1, x2, plB, GA, G1, G2, GB, rfl, hl, kA, e1, r1, r2, kB, rfl⟩ := kids_two hk
  obtain ⟨ps1, cs1⟩ := t1
  obtain ⟨ps2, cs2⟩ := t2
  obtain ⟨ap, ac, pl1, ml1, Ga, na, oap, oac, rfl, ka, hG1⟩ := r1
  obtain ⟨bp, bc, pl2, ml2, Gb, nb, obp, obc, rfl, kb, hG2⟩ := r2
  have hlb := kB.len
  have hla := ka.len
  have hlb2 := kb.len
  have hi : plA.length + 1 < (plA ++ x1 :: x2 :: plB).length := by simp
  have hpl : (plA ++ x1 :: x2 :: plB).length ≤ 1000000 := by simp; omega
  have g1 : ∀ q, (plA ++ x1 :: x2 :: plB)[plA.length]'q = x1 := fun q => by simp
  have g2 : ∀ q, (plA ++ x1 :: x2 :: plB)[plA.length + 1]'q = x2 := fun q => by simp
  have hw' : ((plainCh ml1).length + Tr.wts ps1) + ((plainCh ml2).length + Tr.wts ps2) ≤ 90000 := hw
  rw [plainCh_len, plainCh_len] at hw'
  have hp1 : ps1.length ≤ Tr.wts ps1 := Tr.wt_parts h1.1
  have hp2 : ps2.length ≤ Tr.wts ps2 := Tr.wt_parts h2.1
  have hpos : 0 < pl2.length := by
    rw [hlb2]
    match ps2, h2.1 with
    | [], hc => exact absurd (hr2 f2 (show some f2 = m from hc).symm) (Tr.lt_ir f2)
    | _ :: _, _ => simp
  rw [← hl]
  by_cases hs : pl1.length + pl2.length ≤ 3
  · have hnd' : ((p :: (blk vp ++ (blk vc ++ GA))) ++ ((G1 ++ G2) ++ GB)).Nodup := by simpa using hnd
    have hdis := (List.nodup_append.1 hnd').2.2
    have hin := (List.nodup_append.1 (List.nodup_append.1 hnd').2.1).2.2
    have hnM := (List.nodup_append.1 (List.nodup_append.1 hnd').2.1).1
    have hn12 := (List.nodup_append.1 hnM).2.2
    have hnd1 := (List.nodup_append.1 hnM).1
    have hnd2 := (List.nodup_append.1 hnM).2.1
    have hx1 : x1.2 ∈ G1 := by rw [hG1]; exact List.mem_cons_self ..
    have hx2 : x2.2 ∈ G2 := by rw [hG2]; exact List.mem_cons_self ..
    have hap1 : ∀ g, ap.ownBlock = some g → g ∈ G1 := fun g hg => by rw [hG1]; simp [mem_blk.2 hg]
    have hac1 : ∀ g, ac.ownBlock = some g → g ∈ G1 := fun g hg => by rw [hG1]; simp [mem_blk.2 hg]
    have hbc1 : ∀ g, bc.ownBlock = some g → g ∈ G2 := fun g hg => by rw [hG2]; simp [mem_blk.2 hg]
    have hGa1 : ∀ g ∈ Ga, g ∈ G1 := fun g hg => by rw [hG1]; simp [hg]
    have hGb1 : ∀ g ∈ Gb, g ∈ G2 := fun g hg => by rw [hG2]; simp [hg]
    have hltM : ∀ g, g ∈ G1 ∨ g ∈ G2 → g < w.heap.size := fun g hg => hlt g (by rcases hg with q | q <;> simp [q])
    have hpM : ∀ g, g ∈ G1 ∨ g ∈ G2 → g ≠ p ∧ vp.ownBlock ≠ some g := fun g hg => by
      have hm : g ∈ (G1 ++ G2) ++ GB := by rcases hg with q | q <;> simp [q]
      exact ⟨fun q => hdis p (by simp) g hm q.symm, fun q => hdis g (by simp [mem_blk.2 q]) g hm rfl⟩
    have hne : x1.2 ≠ p := (hpM x1.2 (.inl hx1)).1
    have hne2 : x2.2 ≠ x1.2 := fun q => hn12 x1.2 hx1 x2.2 hx2 q.symm
    have hpw : p < w.heap.size := hn.lt
    have hvw : ∀ k, vp.ownBlock = some k → k < w.heap.size := fun k hk' => (World.ownsRow.lt hop k hk').2
    -- what the node holds, ahead of its taking the changes
    have hFm : ∀ u : Value, (u.ownBlock = ap.ownBlock ∨ ∃ k, w.heap.size ≤ k ∧ u.ownBlock = some k) → ∀ g ∈ x1.2 :: (blk u ++ (blk ac ++ (Ga ++ Gb))), (g ∈ G1 ∨ g ∈ Gb) ∨ w.heap.size ≤ g := fun u hu g hg => by
      rcases List.mem_cons.1 hg with q | q
      · exact .inl (.inl (by rw [q]; exact hx1))
      · rcases List.mem_append.1 q with q | q
        · rcases hu with e | ⟨k, hk', e⟩
          · exact .inl (.inl (hap1 g (by rw [← e]; exact mem_blk.1 q)))
          · have := mem_blk.1 q; rw [e] at this; exact .inr (by have := Option.some.inj this; omega)
        · rcases List.mem_append.1 q with q | q
          · exact .inl (.inl (hac1 g (mem_blk.1 q)))
          · rcases List.mem_append.1 q with q | q
            · exact .inl (.inl (hGa1 g q))
            · exact .inl (.inr q)
    have hFm2 : ∀ u : Value, (u.ownBlock = ap.ownBlock ∨ ∃ k, w.heap.size ≤ k ∧ u.ownBlock = some k) → ∀ g ∈ x1.2 :: (blk u ++ (blk ac ++ (Ga ++ Gb))), (g ∈ G1 ∨ g ∈ G2) ∨ w.heap.size ≤ g := fun u hu g hg => (hFm u hu g hg).imp (fun q => q.imp id (hGb1 g)) id
    have hndm : ∀ u : Value, (u.ownBlock = ap.ownBlock ∨ ∃ k, w.heap.size ≤ k ∧ u.ownBlock = some k) → (x1.2 :: (blk u ++ (blk ac ++ (Ga ++ Gb)))).Nodup := fun u hu => by
      have hbase : ([x1.2] ++ (blk ap ++ (blk ac ++ (Ga ++ Gb)))).Nodup := by
        have hs1 : (([x1.2] ++ (blk ap ++ (blk ac ++ Ga))) ++ Gb).Nodup := by
          rw [hG1] at hnM hnd1 hn12
          refine List.nodup_append.2 ⟨hnd1, ?_, fun a ha b hb => hn12 a ha b (hGb1 b hb)⟩
          rw [hG2] at hnd2
          exact (List.nodup_append.1 (List.nodup_append.1 (List.nodup_cons.1 hnd2).2).2.1).2.1
        simpa using hs1
      have := nodup_swap (N := w.heap.size) (M' := blk u) hbase (blk_nodup u) (fun g hg => by
        rcases hu with e | ⟨k, hk', e⟩
        · exact .inl (by rw [← blk_eq e]; exact hg)
        · have := mem_blk.1 hg; rw [e] at this; exact .inr (by have := Option.some.inj this; omega)) (fun g hg => hltM g (.inl (by simp at hg; rw [hg]; exact hx1))) (fun g hg => by
        rcases List.mem_append.1 hg with q | q
        · exact hltM g (.inl (hac1 g (mem_blk.1 q)))
        · rcases List.mem_append.1 q with q | q
          · exact hltM g (.inl (hGa1 g q))
          · exact hltM g (.inr (hGb1 g q)))
      simpa using this
    have hT : ∀ ap' w3, JnM w x1.2 ap ac (pl1 ++ pl2) ap' w3 → Calls Tryz.prog 63 #[.pointer (some ⟨x1.2, 0, none⟩), bc] w3 fun r w4 => r = .returned (.tuple #[]) ∧ (∃ t' F', NewT (h + 1) f1 m x1.2 (x1.2 :: (blk ap' ++ (blk ac ++ (Ga ++ Gb)))) w3 w4 t' F' ∧ Tr.wt (h + 1) t' ≤ Tr.wt (h + 1) (Tr.brT (ps1 ++ ps2) (plainCh ml1)) + ml2.length ∧ ∀ k, Tr.inR f1 m k → Tr.val (h + 1) t' k = Tr.afterAll (plainCh ml2) k (Tr.val (h + 1) (Tr.brT (ps1 ++ ps2) (plainCh ml1)) k)) ∧ Mod (fun g => g ∈ x1.2 :: (blk ap' ++ (blk ac ++ (Ga ++ Gb)))) w3 w4 := by
      intro ap' w3 hj
      have hkeep : ∀ g, g < w.heap.size → g ≠ x1.2 → ap.ownBlock ≠ some g → w3.heap[g]? = w.heap[g]? := fun g hg q1 q2 => hj.mod.block g hg (fun q => q.elim q1 q2)
      rw [hG1] at hnd1
      have hc1 := List.nodup_cons.1 hnd1
      have hc2 := List.nodup_append.1 hc1.2
      have hac : ∀ g, ac.ownBlock = some g → w3.heap[g]? = w.heap[g]? := fun g hg => hkeep g (hltM g (.inl (hac1 g hg))) (fun q => hc1.1 (by rw [← q]; simp [mem_blk.2 hg])) (fun q => hc2.2.2 g (mem_blk.2 q) g (by simp [mem_blk.2 hg]) rfl)
      have hka : ∀ g ∈ Ga, w3.heap[g]? = w.heap[g]? := fun g hg => hkeep g (hltM g (.inl (hGa1 g hg))) (fun q => hc1.1 (by rw [← q]; simp [hg])) (fun q => hc2.2.2 g (mem_blk.2 q) g (by simp [hg]) rfl)
      have hkb : ∀ g ∈ G2, w3.heap[g]? = w.heap[g]? := fun g hg => hkeep g (hltM g (.inr hg)) (fun q => hn12 x1.2 hx1 g hg q.symm) (fun q => hn12 g (hap1 g q) g hg rfl)
      have hrep : Rep (h + 1) w3 x1.2 (Tr.brT (ps1 ++ ps2) (plainCh ml1)) (x1.2 :: (blk ap' ++ (blk ac ++ (Ga ++ Gb)))) :=
        ⟨ap', ac, pl1 ++ pl2, ml1, Ga ++ Gb, hj.nod, hj.row, row_same oac (fun g hg _ => hac g hg), rfl, (kb.keep fun g hg => hkb g (hGb1 g hg)).append (ka.keep hka), rfl⟩
      refine (HT x1.2 _ _ w3 bc ml2 f1 m hrep (hndm ap' hj.blk) (Tr.joinS_wf hr2 h1 h2) ⟨by rw [List.length_append]; omega, by have : (plainCh ml1).length ≤ 8 := s1; exact this⟩ (fun b hb => Tr.lt_tr (hr1 f2 rfl) (hr2 b hb)) (row_same obc fun g hg _ => hkb g (hbc1 g hg)) (fun g hg q => ?_) (fun c hc => ⟨Tr.inR_right hr1 (h2.2 c hc).1, (h2.2 c hc).2⟩) ?_).mono ?_
      · rcases hFm ap' hj.blk g q with (q | q) | q
        · exact hn12 g q g (hbc1 g hg) rfl
        · rw [hG2] at hnd2
          exact (List.nodup_append.1 (List.nodup_append.1 (List.nodup_cons.1 hnd2).2).2.1).2.2 g (mem_blk.2 hg) g q rfl
        · have := hltM g (.inr (hbc1 g hg)); omega
      · rw [Tr.wt_br, Tr.wts_append, plainCh_len]; omega
      · rintro r w4 ⟨rfl, t', F', hnew, hwt, hval⟩
        exact ⟨rfl, ⟨t', F', hnew, hwt, hval⟩, hnew.mod⟩
    refine (joinB_any p _ vp vc (plA ++ x1 :: x2 :: plB) plA.length ap ac bp bc pl1 pl2 w hn hop hi hpl (by rw [g1]; exact na) (by rw [g2]; exact nb) oap obp hs hpos (shape3 obc) (by rw [g1]; exact hne) (by rw [g1, g2]; exact hne2) (fun k hk' q => (hpM k (.inl (hap1 k q))).2 hk') _ (fun u g => g ∈ x1.2 :: (blk u ++ (blk ac ++ (Ga ++ Gb)))) (fun u hu => ⟨fun q => ?_, fun k hk' q => ?_⟩) (by rw [g1]; exact hT)).mono ?_
    · rcases hFm2 u hu p q with q | q
      · exact (hpM p q).1 rfl
      · omega
    · rcases hFm2 u hu k q with q | q
      · exact (hpM k q).2 hk'
      · have := hvw k hk'; omega
    rintro r w' ⟨rfl, ap', w3, w4, vp', hj, ⟨t', F1, hnew, hwt, hval⟩, hm4, k1, k2, k3, k4⟩
    rw [g1] at hj
    have hrow : (plA ++ x1 :: x2 :: plB).take (plA.length + 1) ++ (plA ++ x1 :: x2 :: plB).drop (plA.length + 2) = plA ++ x1 :: plB := by
      rw [List.take_append, List.drop_append]; simp
      rw [List.take_of_length_le (by omega), List.drop_of_length_le (by omega)]; rfl
    rw [hrow] at k2
    have hmod : Mod (fun g => (g = p ∨ vp.ownBlock = some g) ∨ g ∈ G1 ∨ g ∈ G2) w w' := by
      refine (hj.mod.trans hm4 (H := fun g => (g = p ∨ vp.ownBlock = some g) ∨ g ∈ G1 ∨ g ∈ G2) (fun g _ q => ?_) (fun g hg q => ?_)).trans k4 (fun _ _ q => q) (fun _ _ q => .inl q)
      · exact .inr (.inl (q.elim (fun e => by rw [e]; exact hx1) (hap1 g)))
      · rcases hFm2 ap' hj.blk g q with q | q
        · exact .inr q
        · omega
    have hF1 : ∀ g ∈ F1, g ∈ G1 ++ G2 ∨ w.heap.size ≤ g := fun g hg => by
      rcases hnew.sub g hg with q | q
      · exact (hFm2 ap' hj.blk g q).imp (fun q => List.mem_append.2 q) id
      · exact .inr (Nat.le_trans hj.mod.size q)
    have hvc : ∀ g, vc.ownBlock = some g → w'.heap[g]? = w.heap[g]? := fun g hg => by
      have hg' := mem_blk.2 hg
      refine hmod.block g (hlt g (by simp [hg'])) ?_
      have hnd2 := List.nodup_cons.1 hnd
      rintro ((q | q) | q)
      · rw [q] at hg'; exact hnd2.1 (by simp [hg'])
      · exact (List.nodup_append.1 hnd2.2).2.2 g (mem_blk.2 q) g (by simp [hg']) rfl
      · exact hdis g (by simp [hg']) g (by rcases q with q | q <;> simp [q]) rfl
    have hGA : ∀ g ∈ GA, w'.heap[g]? = w.heap[g]? := fun g hg => by
      refine hmod.block g (hlt g (by simp [hg])) ?_
      have hnd2 := List.nodup_cons.1 hnd
      rintro ((q | q) | q)
      · rw [q] at hg; exact hnd2.1 (by simp [hg])
      · exact (List.nodup_append.1 hnd2.2).2.2 g (mem_blk.2 q) g (by simp [hg]) rfl
      · exact hdis g (by simp [hg]) g (by rcases q with q | q <;> simp [q]) rfl
    have hGB : ∀ g ∈ GB, w'.heap[g]? = w.heap[g]? := fun g hg => by
      refine hmod.block g (hlt g (by simp [hg])) ?_
      rintro ((q | q) | q)
      · exact hdis p (by simp) g (by simp [hg]) q.symm
      · exact hdis g (by simp [mem_blk.2 q]) g (by simp [hg]) rfl
      · exact hin g (List.mem_append.2 q) g hg rfl
    have hF14 : ∀ g ∈ F1, w'.heap[g]? = w4.heap[g]? := fun g hg => by
      refine k4.block g (hnew.rep.lt g hg) ?_
      rintro (q | q)
      · rcases hF1 g hg with q' | q'
        · exact (hpM g (List.mem_append.1 q')).1 q
        · omega
      · rcases hF1 g hg with q' | q'
        · exact (hpM g (List.mem_append.1 q')).2 q
        · have := hvw g q; omega
    have hnds := nodup_swap (N := w.heap.size) hnd' hnew.nd hF1 (fun g hg => hlt g (by have : g ∈ p :: (blk vp ++ (blk vc ++ GA)) := hg; simp at this ⊢; rcases this with q | q | q | q <;> simp [q])) (fun g hg => hlt g (by simp [hg]))
    refine .inr ⟨rfl, t', p :: (blk vp' ++ (blk vc ++ (GA ++ (F1 ++ GB)))), ⟨vp', vc, plA ++ x1 :: plB, ml, GA ++ (F1 ++ GB), k1, k2, row_same hoc (fun g hg _ => hvc g hg), rfl, ?_, rfl⟩, ?_, hnew.wf, hnew.small, ?_, ?_, hmod.mono ?_, ?_⟩
    · have kM : Kids (Rep (h + 1) w') (x1 :: plB) ((f1, t') :: B) (F1 ++ GB) := ⟨e1, F1, GB, hnew.rep.keep hF14, kB.keep hGB, rfl⟩
      exact kM.append (kA.keep hGA)
    · rw [blk_eq k3]; simpa using hnds
    · rw [Tr.wt_br, Tr.wts_append] at hwt
      show _ ≤ ((plainCh ml1).length + Tr.wts ps1) + ((plainCh ml2).length + Tr.wts ps2)
      rw [plainCh_len ml2]
      omega
    · intro k hk'
      rw [hval k hk']
      exact Tr.joinS_val h1 h2 hk'
    · rintro g _ ((q | q) | q | q)
      · simp [q]
      · simp [mem_blk.2 q]
      · simp [q]
      · simp [q]
    · intro g hg
      rw [blk_eq k3] at hg
      rcases List.mem_cons.1 hg with q | q
      · exact .inl (by simp [q])
      · rcases List.mem_append.1 q with q | q
        · exact .inl (by simp [q])
        · rcases List.mem_append.1 q with q | q
          · exact .inl (by simp [q])
          · rcases List.mem_append.1 q with q | q
            · exact .inl (by simp [q])
            · rcases List.mem_append.1 q with q | q
              · exact (hF1 g q).imp (fun q => by rcases List.mem_append.1 q with q | q <;> simp [q]) id
              · exact .inl (by simp [q])
  · obtain ⟨a1, c1, rfl⟩ := rowShape oap
    obtain ⟨b1, d1, rfl⟩ := rowShape obp
    exact (joinBig_any p _ vp vc (plA ++ x1 :: x2 :: plB) plA.length _ _ _ _ _ _ none a1 none b1 0 pl1.length 0 pl2.length 0 c1 0 d1 w hn hop hi hpl (by rw [g1]; exact na) (by rw [g2]; exact nb) rfl rfl rfl rfl (by omega) (by omega) (by omega) (by omega) (fun q => hs q.2)).mono fun r w' h => .inl h
theorem join_any : ∀ (h : Nat) (_ : TakeP h) (p : Nat) (A B : List (Tr.Key × Tr.TreeT h)) (f1 f2 : Tr.Key) (m : Option Tr.Key) (t1 t2 : Tr.TreeT h) (cs : List Tr.Ch) (F : List Nat) (w : World) (_ : Rep (h + 1) w p (Tr.brT (A ++ (f1, t1) :: (f2, t2) :: B) cs) F) (_ : F.Nodup) (_ : Tr.WF h f1 (some f2) t1) (_ : Tr.WF h f2 m t2) (_ : Tr.Small h t1) (_ : Tr.room f1 (some f2)) (_ : Tr.room f2 m) (_ : Tr.wt h t1 + Tr.wt h t2 ≤ 90000) (_ : A.length + B.length ≤ 90000),
    Calls Tryz.prog 174 #[.pointer (some ⟨p, 0, none⟩), .int .i64 (A.length : Nat)] w fun r w' => (r = .returned (.bool false) ∧ Below w.heap.size w w') ∨ (r = .returned (.bool true) ∧ ∃ t' F', JoinQ h f1 m A B cs t1 f2 t2 p F w w' t' F')
  | 0, _, p, A, B, f1, f2, m, t1, t2, cs, F, w, hr, hnd, h1, h2, _, hr1, hr2, hw, hlen => join_leaf p A B f1 f2 m t1 t2 cs F w hr hnd h1 h2 hr1 hr2 hw hlen
  | h + 1, HT, p, A, B, f1, f2, m, t1, t2, cs, F, w, hr, hnd, h1, h2, s1, hr1, hr2, hw, hlen => join_branch h HT p A B f1 f2 m t1 t2 cs F w hr hnd h1 h2 s1 hr1 hr2 hw hlen
end Go.Proofs.YtolgpnaoaodepaaGreat
/- A branch about one of its parts: joining it with its neighbours. -/
namespace Go.Proofs.YtolgpnaoaodepaaGreat
open Go.RowKit

/-- Of the old blocks only those of F have turned; the blocks of F' are of them, or new. -/
def Gone (F F' : List Nat) (w w' : World) : Prop := Mod (fun g => g ∈ F) w w' ∧ ∀ g ∈ F', g ∈ F ∨ w.heap.size ≤ g
theorem Gone.trans {F F' F'' : List Nat} {w w' w'' : World} (h1 : Gone F F' w w') (h2 : Gone F' F'' w' w'') : Gone F F'' w w'' :=
  ⟨h1.1.trans h2.1 (fun _ _ q => q) (fun g hg q => (h1.2 g q).elim id (fun z => by omega)), fun g hg => (h2.2 g hg).elim (h1.2 g) (fun q => .inr (Nat.le_trans h1.1.size q))⟩
theorem Gone.below {F : List Nat} {w w' : World} (h : Below w.heap.size w w') : Gone F F w w' := ⟨Mod.of_below h, fun _ hg => .inl hg⟩
structure Foc (h : Nat) (lo : Tr.Key) (hi : Option Tr.Key) (p : Nat) (w : World) (A : List (Tr.Key × Tr.TreeT h)) (f : Tr.Key) (m : Option Tr.Key) (t : Tr.TreeT h) (B : List (Tr.Key × Tr.TreeT h)) (cs : List Tr.Ch) (F : List Nat) : Prop where
  rep : Rep (h + 1) w p (Tr.brT (A ++ (f, t) :: B) cs) F
  nd : F.Nodup
  cA : Tr.Chain (fun f m t => Tr.WF h f m t ∧ Tr.Top h t) (some lo) (some f) A
  rm : Tr.room f m
  wf : Tr.WF h f m t
  small : Tr.Small h t
  cB : Tr.Chain (fun f m t => Tr.WF h f m t ∧ Tr.Top h t) m hi B
  cc : ∀ c ∈ cs, Tr.inR lo hi c.2.1 ∧ Tr.okCh c
  wt : cs.length + (Tr.wts A + (Tr.wt h t + Tr.wts B)) ≤ 90000
theorem Foc.len {h : Nat} {lo : Tr.Key} {hi : Option Tr.Key} {p : Nat} {w : World} {A B : List (Tr.Key × Tr.TreeT h)} {f : Tr.Key} {m : Option Tr.Key} {t : Tr.TreeT h} {cs : List Tr.Ch} {F : List Nat} (hf : Foc h lo hi p w A f m t B cs F) : A.length + B.length ≤ 90000 := by
  have h1 : A.length ≤ Tr.wts A := Tr.wt_parts hf.cA
  have h2 : B.length ≤ Tr.wts B := Tr.wt_parts hf.cB
  have := hf.wt
  omega
theorem Foc.below {h : Nat} {lo : Tr.Key} {hi : Option Tr.Key} {p : Nat} {w w' : World} {A B : List (Tr.Key × Tr.TreeT h)} {f : Tr.Key} {m : Option Tr.Key} {t : Tr.TreeT h} {cs : List Tr.Ch} {F : List Nat} (hf : Foc h lo hi p w A f m t B cs F) (hb : Below w.heap.size w w') : Foc h lo hi p w' A f m t B cs F :=
  ⟨hf.rep.keep fun g hg => hb.block g (hf.rep.lt g hg), hf.nd, hf.cA, hf.rm, hf.wf, hf.small, hf.cB, hf.cc, hf.wt⟩
/-- Of a branch: its node and its lists. -/
theorem Rep.nod {h : Nat} {w : World} {p : Nat} {ps : List (Tr.Key × Tr.TreeT h)} {cs : List Tr.Ch} {F : List Nat} (hr : Rep (h + 1) w p (Tr.brT ps cs) F) : ∃ a c vc, NodT w p (.slice none 0 0) (.slice a ps.length c) vc := by
  obtain ⟨vp, vc, pl, ml, G, hn, hop, hoc, rfl, hk, rfl⟩ := hr
  obtain ⟨a, c, rfl⟩ := rowShape hop
  rw [hk.len] at hn
  exact ⟨a, c, vc, hn⟩
theorem small_chain {h : Nat} {lo hi : Option Tr.Key} {A : List (Tr.Key × Tr.TreeT h)} (hc : Tr.Chain (fun f m t => Tr.WF h f m t ∧ Tr.Top h t) lo hi A) : Tr.Chain (fun f m t => Tr.WF h f m t ∧ Tr.Small h t) lo hi A := Tr.chain_imp (fun _ _ _ q => ⟨q.1, q.2.small⟩) hc
theorem chain_one {h : Nat} {R : Tr.Key → Option Tr.Key → Tr.TreeT h → Prop} {f : Tr.Key} {m : Option Tr.Key} {t : Tr.TreeT h} (hr : Tr.room f m) (ht : R f m t) : Tr.Chain R (some f) m [(f, t)] := ⟨rfl, m, hr, ht, rfl⟩
theorem join_foc {h : Nat} (HT : TakeP h) {lo : Tr.Key} {hi : Option Tr.Key} {p : Nat} {w : World} {A B : List (Tr.Key × Tr.TreeT h)} {f : Tr.Key} {m : Option Tr.Key} {t : Tr.TreeT h} {cs : List Tr.Ch} {F : List Nat} (hf : Foc h lo hi p w A f m t B cs F) :
    Calls Tryz.prog 174 #[.pointer (some ⟨p, 0, none⟩), .int .i64 (A.length : Nat)] w fun r w' => ∃ b m' t' B' F', r = .returned (.bool b) ∧ Foc h lo hi p w' A f m' t' B' cs F' ∧ Gone F F' w w' ∧ Tr.wt h t' + Tr.wts B' ≤ Tr.wt h t + Tr.wts B ∧ ∀ k, Tr.inR lo hi k → Tr.val (h + 1) (Tr.brT (A ++ (f, t') :: B') cs) k = Tr.val (h + 1) (Tr.brT (A ++ (f, t) :: B) cs) k := by
  have hlen := hf.len
  have hwt := hf.wt
  match B, hf, hlen, hwt with
  | [], hf, hlen, _ =>
    obtain ⟨a, c, vc, hn⟩ := hf.rep.nod
    refine (joinEnd_any p _ vc a _ c A.length w hn (by simp) (by omega)).mono ?_
    rintro r w' ⟨rfl, hb⟩
    exact ⟨false, m, t, [], F, rfl, hf.below hb, Gone.below hb, Nat.le_refl _, fun _ _ => rfl⟩
  | (f2, t2) :: B2, hf, hlen, hwt =>
    obtain ⟨hm, m2, hr2, ⟨w2, tp2⟩, hc2⟩ := hf.cB
    subst hm
    rw [Tr.wts_cons] at hwt
    rw [List.length_cons] at hlen
    have hwt : cs.length + (Tr.wts A + (Tr.wt h t + (Tr.wt h t2 + Tr.wts B2))) ≤ 90000 := hwt
    refine (join_any h HT p A B2 f f2 m2 t t2 cs F w hf.rep hf.nd hf.wf w2 hf.small hf.rm hr2 (by omega) (by omega)).mono ?_
    rintro r w' (⟨rfl, hb⟩ | ⟨rfl, t', F', hq⟩)
    · exact ⟨false, _, t, _, F, rfl, hf.below hb, Gone.below hb, Nat.le_refl _, fun _ _ => rfl⟩
    · have hroom : Tr.room f m2 := fun b hb => Tr.lt_tr (hf.rm f2 rfl) (hr2 b hb)
      have hwq := hq.wt
      have hwt2 : Tr.wt h t' + Tr.wts B2 ≤ Tr.wt h t + Tr.wts ((f2, t2) :: B2) := by rw [Tr.wts_cons]; show _ ≤ _ + (Tr.wt h t2 + _); omega
      refine ⟨true, m2, t', B2, F', rfl, ⟨hq.rep, hq.nd, hf.cA, hroom, hq.wf, hq.small, hc2, hf.cc, ?_⟩, ⟨hq.mod, hq.sub⟩, hwt2, fun k hk => ?_⟩
      · have := hf.wt; omega
      · have hX : Tr.Chain (fun f m t => Tr.WF h f m t ∧ Tr.Small h t) (some f) m2 [(f, t), (f2, t2)] := ⟨rfl, some f2, hf.rm, ⟨hf.wf, hf.small⟩, rfl, m2, hr2, ⟨w2, tp2.small⟩, rfl⟩
        have := Tr.splice_val (X := [(f, t), (f2, t2)]) (Y := [(f, t')]) (small_chain hf.cA) hX (small_chain hc2) (small_chain hf.cA) (chain_one hroom ⟨hq.wf, hq.small⟩) (small_chain hc2) cs (fun k hk' => by rw [Tr.val_one]; exact hq.val k hk') hk
        simpa [Tr.brT] using this
theorem join_foc2 {h : Nat} (HT : TakeP h) {lo : Tr.Key} {hi : Option Tr.Key} {p : Nat} {w : World} {A B : List (Tr.Key × Tr.TreeT h)} {f : Tr.Key} {m : Option Tr.Key} {t : Tr.TreeT h} {cs : List Tr.Ch} {F : List Nat} (hf : Foc h lo hi p w A f m t B cs F) :
    Calls Tryz.prog 174 #[.pointer (some ⟨p, 0, none⟩), .int .i64 ((A.length : Int) - 1)] w fun r w' => (r = .returned (.bool false) ∧ Foc h lo hi p w' A f m t B cs F ∧ Gone F F w w') ∨ ∃ A' f' t' F', r = .returned (.bool true) ∧ A.length = A'.length + 1 ∧ Foc h lo hi p w' A' f' m t' B cs F' ∧ Gone F F' w w' ∧ Tr.wts A' + Tr.wt h t' ≤ Tr.wts A + Tr.wt h t ∧ ∀ k, Tr.inR lo hi k → Tr.val (h + 1) (Tr.brT (A' ++ (f', t') :: B) cs) k = Tr.val (h + 1) (Tr.brT (A ++ (f, t) :: B) cs) k := by
  have hlen := hf.len
  have hwt := hf.wt
  rcases List.eq_nil_or_concat A with rfl | ⟨A2, ⟨f0, t0⟩, rfl⟩
  · have e : (([] : List (Tr.Key × Tr.TreeT h)).length : Int) - 1 = -1 := rfl
    rw [e]
    refine (joinNeg_any p w).mono ?_
    rintro r w' ⟨rfl, hb⟩
    exact .inl ⟨rfl, hf.below hb, Gone.below hb⟩
  · rw [List.concat_eq_append] at *
    have hA : ((A2 ++ [(f0, t0)]).length : Int) - 1 = (A2.length : Int) := by simp
    rw [hA]
    obtain ⟨m0, cA2, hm0, m1, hr0, ⟨w0, tp0⟩, hm1⟩ := Tr.chain_append.1 hf.cA
    subst hm0
    have hm1' : m1 = some f := hm1
    subst hm1'
    rw [Tr.wts_append, Tr.wts_cons, Tr.wts_nil] at hwt
    rw [List.length_append] at hlen
    have hrep : Rep (h + 1) w p (Tr.brT (A2 ++ (f0, t0) :: (f, t) :: B) cs) F := by have := hf.rep; rw [List.append_assoc] at this; exact this
    have hwt' : cs.length + (Tr.wts A2 + (Tr.wt h t0 + 0) + (Tr.wt h t + Tr.wts B)) ≤ 90000 := hwt
    refine (join_any h HT p A2 B f0 f m t0 t cs F w hrep hf.nd w0 hf.wf tp0.small hr0 hf.rm (by omega) (by omega)).mono ?_
    rintro r w' (⟨rfl, hb⟩ | ⟨rfl, t', F', hq⟩)
    · exact .inl ⟨rfl, hf.below hb, Gone.below hb⟩
    · have hroom : Tr.room f0 m := fun b hb => Tr.lt_tr (hr0 f rfl) (hf.rm b hb)
      have hwq := hq.wt
      have hwt2 : Tr.wts A2 + Tr.wt h t' ≤ Tr.wts (A2 ++ [(f0, t0)]) + Tr.wt h t := by rw [Tr.wts_append, Tr.wts_cons, Tr.wts_nil]; show _ ≤ _ + (Tr.wt h t0 + 0) + _; omega
      refine .inr ⟨A2, f0, t', F', rfl, by simp, ⟨hq.rep, hq.nd, cA2, hroom, hq.wf, hq.small, hf.cB, hf.cc, ?_⟩, ⟨hq.mod, hq.sub⟩, hwt2, fun k hk => ?_⟩
      · omega
      · have hX : Tr.Chain (fun f m t => Tr.WF h f m t ∧ Tr.Small h t) (some f0) m [(f0, t0), (f, t)] := ⟨rfl, some f, hr0, ⟨w0, tp0.small⟩, rfl, m, hf.rm, ⟨hf.wf, hf.small⟩, rfl⟩
        have := Tr.splice_val (X := [(f0, t0), (f, t)]) (Y := [(f0, t')]) (small_chain cA2) hX (small_chain hf.cB) (small_chain cA2) (chain_one hroom ⟨hq.wf, hq.small⟩) (small_chain hf.cB) cs (fun k hk' => by rw [Tr.val_one]; exact hq.val k hk') hk
        simpa [Tr.brT] using this
end Go.Proofs.YtolgpnaoaodepaaGreat
