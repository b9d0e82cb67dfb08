/- The walk of pages' readItems. -/
import Derived.Test.YtolgpnaoaodepaaWalkZ
import Derived.RegionDies
namespace Go.Proofs.Ytolgpnaoaodepaa
open Go.RowKit

theorem rdq_no {α : Type} {f : α → Value} {b : Nat} {w : World} {o : Option (α × List UInt8)} {r : Ending} {w' : World} (h : RdQ f b w o r w') (ho : o = none) : r = gaveUp ∧ But b w w' := by
  obtain ⟨h1, ⟨_, h2⟩ | ⟨x, u, h2, _⟩⟩ := h
  · exact ⟨h2, h1⟩
  · rw [ho] at h2; simp at h2
theorem rdq_yes {α : Type} {f : α → Value} {b : Nat} {w : World} {o : Option (α × List UInt8)} {r : Ending} {w' : World} {x : α} {u : List UInt8} (h : RdQ f b w o r w') (ho : o = some (x, u)) : r = .returned (f x) ∧ Rd w' b u ∧ But b w w' := by
  obtain ⟨h1, ⟨h2, _⟩ | ⟨x', u', h2, h3, h4⟩⟩ := h
  · rw [ho] at h2; simp at h2
  · rw [ho] at h2; simp only [Option.some.injEq, Prod.mk.injEq] at h2
    rw [h2.1, h2.2]; exact ⟨h3, h4, h1⟩
theorem rtext_no (b : Nat) (t : List UInt8) (w : World) (hr : Rd w b t) (ht : t.length ≤ 35184372088832) (h : Pr.textR t = none) : Calls Try.prog 81 #[.pointer (some ⟨b, 0, none⟩)] w fun r w' => r = gaveUp ∧ But b w w' := (rtext_any b t w hr ht).mono fun _ _ q => rdq_no q h
theorem rtext_yes (b : Nat) (t : List UInt8) (w : World) (hr : Rd w b t) (ht : t.length ≤ 35184372088832) {x u : List UInt8} (h : Pr.textR t = some (x, u)) : Calls Try.prog 81 #[.pointer (some ⟨b, 0, none⟩)] w fun r w' => r = .returned (.string ⟨x.toArray⟩) ∧ Rd w' b u ∧ But b w w' := (rtext_any b t w hr ht).mono fun _ _ q => rdq_yes (f := sv) q h
theorem but_drew {b : Nat} {w w' : World} (h : But b w.drew w') : But b w w' := ⟨h.os, h.tape, h.output, h.size, h.block⟩
def ItemsQ (w : World) (o : Option (List (List UInt8 × List UInt8))) (r : Ending) (w' : World) : Prop := Below w.heap.size w w' ∧ ((o = none ∧ r = gaveUp) ∨ ∃ l v, o = some (plain l) ∧ r = .returned v ∧ OwnsI w.heap.size w' v l ∧ l.length ≤ 255 ∧ ∀ x ∈ l, x.1.size ≤ 10000000 ∧ x.2.size ≤ 10000000)
theorem ownsI_items {B : Nat} {w : World} {v : Value} {l : List (ByteArray × ByteArray)} (h : OwnsI B w v l) : IsItems w v l := by
  rcases h.2 with ⟨rfl, hn⟩ | ⟨g, cap, cur, rfl, hb, hg, hc, hm, hcs, htk⟩
  · exact .inl ⟨none, 0, rfl, List.length_eq_zero_iff.1 hn⟩
  · rcases h.isItems with ⟨a, c, h1, h2⟩ | ⟨g', c', h1, h2, h3, h4, h5⟩
    · exact .inl ⟨a, c, h1, h2⟩
    · injection h1 with e1 e2 e3
      subst e3
      simp only [Option.some.injEq, Addr.mk.injEq, and_true] at e1
      subst e1
      exact .inr ⟨g, 0, cap, rfl, h2, by unfold maxLen at hm; omega, h4, h5⟩
theorem ownsI_shrink {B C : Nat} {w : World} {v : Value} {l : List (ByteArray × ByteArray)} (h : OwnsI B w v l) (hc : C ≤ B) : OwnsI C w v l := by
  refine ⟨h.1, ?_⟩
  rcases h.2 with hn | ⟨g, cap, cur, hv, hb', r⟩
  · exact .inl hn
  · exact .inr ⟨g, cap, cur, hv, Nat.le_trans hc hb', r⟩
theorem plain_snoc (l : List (ByteArray × ByteArray)) (x : ByteArray × ByteArray) : plain (l ++ [x]) = plain l ++ [(x.1.data.toList, x.2.data.toList)] := by simp [plain]

set_option maxHeartbeats 4000000 in
set_option maxRecDepth 20000 in
theorem readItems_any (c : List UInt8) (w : World) (hc : c.length ≤ 1000000) :
    Calls Try.prog 69 #[.string ⟨c.toArray⟩] w fun r w' => ItemsQ w (Pr.basR c) r w' := by
  go_enter Try.func69, Try.ntmps69
  go_wp2_with fail
  refine (newReader_any c _).mono ?_
  rintro r w1 ⟨rfl, rfl⟩
  have HRD := hid (rd_new w c)
  have HB0 := hid ((Below.refl w.heap.size w).alloc (Nat.le_refl _) (.cells #[.string ⟨c.toArray⟩] 104))
  have hs0 : w.heap.size < (w.alloc (.cells #[.string ⟨c.toArray⟩] 104)).heap.size := by simp
  generalize w.alloc (.cells #[.string ⟨c.toArray⟩] 104) = w0 at *
  have HC := hid (rbyte_any w.heap.size c w0 HRD.out)
  go_wp2_with fail
  refine HC.out.mono ?_
  rintro r w1 ⟨hb1, ⟨hn, rfl⟩ | ⟨bn, t1, hs1, rfl, hr1⟩⟩
  · have HT : Hid (Pr.basR c = none) := by show _ = _; unfold Pr.basR; rw [hn]; rfl
    have HB := hid (but_to_below HB0.out hb1 (Nat.le_refl _) (by omega))
    clear hb1 hn
    unfold gaveUp
    go_wp2_with fail
    exact ⟨rfl, HB.out, .inl ⟨HT.out, rfl⟩⟩
  have HT1 : Hid (Pr.basR c = (Pr.itemsR bn.toNat [] t1).bind fun r => if Pg.basement r.1 = c then some r.1 else none) := by
    show _ = _; unfold Pr.basR; rw [hs1]; rfl
  have ht1 : t1.length ≤ c.length := by rw [Pr.byteR_len hs1]; simp
  have HB1 := hid (but_to_below HB0.out hb1 (Nat.le_refl _) (by omega))
  have HR1 := hid hr1
  have hz1 := hb1.size
  have hbn : bn.toNat < 256 := bn.toNat_lt
  clear hb1 hs1 hr1 HC HRD HB0
  unfold bv
  generalize bn.toNat = n at *
  go_wp2_with fail
  go_loopw [4, 5, 12] (fun y ah i wr => ∃ (k : Nat) (l : List (ByteArray × ByteArray)) (q : List UInt8) (lb : ByteArray), k ≤ n ∧ i = .int .u8 k ∧ ah = .string lb ∧ lb.size ≤ 2000000 ∧ l.length ≤ k ∧ q.length ≤ c.length ∧ OwnsI (w.heap.size + 1) wr y l ∧ Rd wr w.heap.size q ∧ Below w.heap.size w wr ∧ w.heap.size < wr.heap.size ∧ (∀ x ∈ l, x.1.size ≤ 10000000 ∧ x.2.size ≤ 10000000) ∧ (Pr.itemsR (n - k) lb.data.toList q).map (fun r => (plain l ++ r.1, r.2)) = Pr.itemsR n [] t1) (fun _ _ i _ => n - (intOf i).toNat)
  case atStart => exact ⟨0, [], t1, ⟨#[]⟩, Nat.zero_le _, rfl, rfl, by decide, by simp, ht1, World.ownsRow_nil _ _ _ _, HR1.out, HB1.out, by omega, by simp, by simp [plain]⟩
  case round =>
    clear HR1 HB1 hz1 hs0
    obtain ⟨k, l, q, lb, hk, rfl, rfl, hlb, hlk, hq, ho, hr, hb, hsz, hls, heq⟩ := hrel
    have HO := hid ho
    have HR := hid hr
    have HB := hid hb
    have HEQ := hid heq
    have HLS := hid hls
    obtain ⟨ya, yc, rfl⟩ := rowShape ho
    clear ho hr hb heq hls
    by_cases hkn : k < n
    · obtain ⟨m, hm⟩ : ∃ m, n - k = m + 1 := ⟨n - k - 1, by omega⟩
      have HMK : Hid (m = n - (k + 1)) := by show _ = _; omega
      have HNX : Hid (Pr.itemsR (n - k) lb.data.toList q = (Pr.byteR q).bind fun b => if lb.data.toList.length < b.1.toNat then none else (Pr.textR b.2).bind fun x => (Pr.textR x.2).bind fun v => (Pr.itemsR m (lb.data.toList.take b.1.toNat ++ x.1) v.2).map fun r => ((lb.data.toList.take b.1.toNat ++ x.1, v.1) :: r.1, r.2)) := by
        show _ = _; rw [hm]; rfl
      clear hm
      have HC := hid (rbyte_any w.heap.size q wr HR.out)
      go_wp2_with fail
      refine HC.out.mono ?_
      rintro r w2 ⟨hb2, ⟨hn, rfl⟩ | ⟨sb, q2, hs2, rfl, hr2⟩⟩
      · have HF : Hid (Pr.basR c = none) := by
          show _ = _; rw [HT1.out, ← HEQ.out, HNX.out, hn]; rfl
        have HB2 := hid (but_to_below HB.out hb2 (Nat.le_refl _) (by omega))
        clear hb2 hn
        unfold gaveUp
        go_wp2_with fail
        exact ⟨rfl, HB2.out, .inl ⟨HF.out, rfl⟩⟩
      have HN2 : Hid (Pr.itemsR (n - k) lb.data.toList q = if lb.size < sb.toNat then none else (Pr.textR q2).bind fun x => (Pr.textR x.2).bind fun v => (Pr.itemsR m (lb.data.toList.take sb.toNat ++ x.1) v.2).map fun r => ((lb.data.toList.take sb.toNat ++ x.1, v.1) :: r.1, r.2)) := by
        show _ = _; rw [HNX.out, hs2]; simp only [Option.bind_some, len_size]
      have hq2 : q2.length ≤ c.length := by have := Pr.byteR_len hs2; rw [this] at hq; simp at hq; omega
      have HB2 := hid (but_to_below HB.out hb2 (Nat.le_refl _) (by omega))
      have HR2 := hid hr2
      have HO2 : Hid (OwnsI (w.heap.size + 1) w2 (.slice ya l.length yc) l) := row_but HO.out hb2 (by omega)
      have hz2 := hb2.size
      have hsb : sb.toNat < 256 := sb.toNat_lt
      clear hb2 hs2 hr2 HC HNX
      unfold bv
      generalize sb.toNat = sm at *
      by_cases hsm : lb.size < sm
      · have HF : Hid (Pr.basR c = none) := by
          show _ = _; rw [HT1.out, ← HEQ.out, HN2.out, if_pos hsm]; rfl
        have hd : decide (sm ≤ lb.size) = false := decide_eq_false (by omega)
        go_wp2_with fail
        refine (unless_no _).mono ?_
        rintro r w3 ⟨rfl, rfl⟩
        unfold gaveUp
        go_wp2_with fail
        exact ⟨rfl, HB2.out, .inl ⟨HF.out, rfl⟩⟩
      rw [if_neg hsm] at HN2
      have hi1 : (0 : Int) ≤ (sm : Int) := by omega
      have hi2 : (sm : Int) ≤ (lb.size : Int) := by omega
      go_wp2_with fail
      refine (unless_yes _).mono ?_
      rintro r w3 ⟨rfl, rfl⟩
      cases htx : Pr.textR q2 with
      | none =>
        have HF : Hid (Pr.basR c = none) := by
          show _ = _; rw [HT1.out, ← HEQ.out, HN2.out, htx]; rfl
        have HC := hid (fun W hW => rtext_no w.heap.size q2 W hW (by omega) htx)
        clear htx
        go_wp2_with fail
        go_region_dies
        all_goals
          refine (HC.out (World.drew w3) HR2.out).mono ?_
          rintro r w4 ⟨rfl, hb4⟩
          have HB4 := hid (but_to_below HB2.out (but_drew hb4) (Nat.le_refl _) (by omega))
          clear hb4
          unfold gaveUp
          go_wp2_with fail
          exact ⟨rfl, HB4.out, .inl ⟨HF.out, rfl⟩⟩
      | some xu =>
        obtain ⟨x, q3⟩ := xu
        have HN3 : Hid (Pr.itemsR (n - k) lb.data.toList q = (Pr.textR q3).bind fun v => (Pr.itemsR m (lb.data.toList.take sm ++ x) v.2).map fun r => ((lb.data.toList.take sm ++ x, v.1) :: r.1, r.2)) := by
          show _ = _; rw [HN2.out, htx]; rfl
        have hxl := Pr.textR_len htx
        have HC := hid (fun W hW => rtext_yes w.heap.size q2 W hW (by omega) htx)
        clear htx HN2
        have hzx := size_mk x
        have hes : (lb.extract 0 sm).size ≤ 300 := by rw [ByteArray.size_extract]; omega
        have e1 : ∀ w, (Op.stringOp .add (lb.extract 0 sm) ⟨x.toArray⟩).run Try.prog w = .ok (.string (lb.extract 0 sm ++ ⟨x.toArray⟩)) w := fun w => run_string_add_sum w _ _ (by omega)
        go_wp2_with fail
        go_region_law (first
          | (go_simp
             refine (HC.out (World.drew w3) HR2.out).mono ?_
             rintro r w4 ⟨rfl, hr4, hb4⟩
             have HR4 := hid hr4
             have HB4 := hid (but_to_below HB2.out (but_drew hb4) (Nat.le_refl _) (by omega))
             have HO4 : Hid (OwnsI (w.heap.size + 1) w4 (.slice ya l.length yc) l) := row_but HO2.out (but_drew hb4) (by omega)
             have hz4 : w3.heap.size ≤ w4.heap.size := (but_drew hb4).size
             clear hr4 hb4))
        all_goals
          go_wp2_with fail
          have HC2 := hid (rtext_any w.heap.size q3 w4 HR4.out (by omega))
          generalize hkb : lb.extract 0 sm ++ (⟨x.toArray⟩ : ByteArray) = kb at *
          have hkbs : kb.size ≤ 1000400 := by rw [← hkb, ByteArray.size_append']; omega
          have HKB : Hid (kb.data.toList = lb.data.toList.take sm ++ x) := by
            show _ = _; rw [← hkb]; simp
          clear hkb e1
          refine HC2.out.mono ?_
          rintro r w5 ⟨hb5, ⟨hn, rfl⟩ | ⟨v, q4, hs5, rfl, hr5⟩⟩
          · have HF : Hid (Pr.basR c = none) := by
              show _ = _; rw [HT1.out, ← HEQ.out, HN3.out, hn]; rfl
            have HB5 := hid (but_to_below HB4.out hb5 (Nat.le_refl _) (by omega))
            clear hb5 hn
            unfold gaveUp
            go_wp2_with fail
            exact ⟨rfl, HB5.out, .inl ⟨HF.out, rfl⟩⟩
          · have hvl := Pr.textR_len hs5
            have HG : Hid ((Pr.itemsR (n - (k + 1)) kb.data.toList q4).map (fun r => (plain (l ++ [(kb, ⟨v.toArray⟩)]) ++ r.1, r.2)) = Pr.itemsR n [] t1) := by
              show _ = _; rw [← HEQ.out, HN3.out, hs5, ← HMK.out, HKB.out, plain_snoc]
              simp only [Option.bind_some, Option.map_map]
              congr 1
              funext r
              simp [HKB.out]
            have HB5 := hid (but_to_below HB4.out hb5 (Nat.le_refl _) (by omega))
            have HR5 := hid hr5
            have HO5 : Hid (OwnsI (w.heap.size + 1) w5 (.slice ya l.length yc) l) := row_but HO4.out hb5 (by omega)
            have hz5 := hb5.size
            have hzv := size_mk v
            clear hb5 hs5 hr5 HC2 HC
            unfold sv
            go_wp2_with (first
              | (at_builtin; refine wpApG w5 rfl (.tmp 28) (.tmp 33) 30 43 Try.underlying30 _ 2 32 info_item rfl (by decide) (by decide) rfl (w.heap.size + 1) (.slice ya l.length yc) l.length (icells l) rfl HO5.out [.string kb, .string ⟨v.toArray⟩] rfl (by intro u hu; simp at hu; rcases hu with rfl | rfl <;> rfl) rfl (by omega) (by omega) ?_))
            intro v6 w6 ho6 hg6 hat6
            have HO6 : Hid (OwnsI (w.heap.size + 1) w6 v6 (l ++ [(kb, ⟨v.toArray⟩)])) := by
              show OwnsI _ _ _ _; unfold OwnsI; rw [List.length_append, icells_snoc]; exact ho6
            have HR6 := hid (HR5.out.grown hg6 (fun e => by have := (World.ownsRow.lt HO5.out _ e.symm).1; omega))
            have HB6 := hid (HB5.out.trans (((Below.refl (w.heap.size + 1) w5).grown hg6 (by omega) fun k hk => (World.ownsRow.lt HO5.out k hk).1).mono (by omega)))
            have hz6 := hg6.size
            obtain ⟨ya', yc', rfl⟩ := rowShape ho6
            clear ho6 hg6 hat6
            go_wp2_with fail
            go_roundw
            case rel =>
              refine ⟨k + 1, _, q4, kb, by omega, by go_num, rfl, by omega, by rw [List.length_append]; simp; omega, by omega, HO6.out, HR6.out, HB6.out, by omega, ?_, HG.out⟩
              intro y hy
              rcases List.mem_append.1 hy with h | h
              · exact HLS.out y h
              · rw [List.mem_singleton.1 h]; exact ⟨by simp only; omega, by simp only; omega⟩
            case measure => simp [intOf]; omega
    · have HE1 : Hid (Pr.itemsR n [] t1 = some (plain l, q)) := by
        show _ = _; rw [← HEQ.out, show n - k = 0 by omega]; simp [Pr.itemsR]
      have HIT := hid (ownsI_items HO.out)
      go_wp2_with fail
      refine (base_any _ l _ HIT.out (by omega) HLS.out).mono ?_
      rintro r w2 ⟨v2, rfl, ho2, hb2⟩
      have hcv := ho2.str
      have HB2 := hid (HB.out.trans (hb2.mono (by omega)))
      have HO2 : Hid (OwnsI w.heap.size w2 (.slice ya l.length yc) l) := ownsI_shrink (row_below HO.out hb2 (Nat.le_refl _)) (by omega)
      clear ho2 hb2
      by_cases he : Pg.basement (plain l) = c
      · have HF : Hid (Pr.basR c = some (plain l)) := by
          show _ = _; rw [HT1.out, HE1.out]; simp [he]
        go_wp2_with fail
        refine (unless_yes _).mono ?_
        rintro r w3 ⟨rfl, rfl⟩
        go_wp2_with fail
        go_ret
        exact ⟨HB2.out, .inr ⟨l, _, HF.out, rfl, HO2.out, by omega, HLS.out⟩⟩
      · have HF : Hid (Pr.basR c = none) := by
          show _ = _; rw [HT1.out, HE1.out]; simp [he]
        have hne : (Pg.basement (plain l) == c) = false := by simpa using he
        go_wp2_with fail
        refine (unless_no _).mono ?_
        rintro r w3 ⟨rfl, rfl⟩
        unfold gaveUp
        go_wp2_with fail
        exact ⟨rfl, HB2.out, .inl ⟨HF.out, rfl⟩⟩
end Go.Proofs.Ytolgpnaoaodepaa
