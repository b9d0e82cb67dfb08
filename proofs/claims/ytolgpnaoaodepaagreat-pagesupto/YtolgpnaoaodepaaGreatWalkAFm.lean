/- The walks of pages' readChanges, readPivots, readChildren. -/
import Derived.Test.YtolgpnaoaodepaaGreatWalkADm
namespace Go.Proofs.YtolgpnaoaodepaaGreat
open Go.RowKit

def ChQ (b : Nat) (w : World) (o : Option (List (Int × List UInt8 × List UInt8) × List UInt8)) (r : Ending) (w' : World) : Prop := But b w w' ∧ ((o = none ∧ r = gaveUp) ∨ ∃ l v u, o = some (plainCh l, u) ∧ r = .returned v ∧ OwnsC w.heap.size w' v l ∧ l.length ≤ 255 ∧ Rd w' b u)
def PvQ (b : Nat) (w : World) (o : Option (List (List UInt8) × List UInt8)) (r : Ending) (w' : World) : Prop := But b w w' ∧ ((o = none ∧ r = gaveUp) ∨ ∃ l v u, o = some (lists l, u) ∧ r = .returned v ∧ OwnsS w.heap.size w' v l ∧ l.length ≤ 255 ∧ Rd w' b u)
theorem but_grown {b B : Nat} {w w' : World} {v : Value} {T : TypeId} {s n : Nat} {xs : List Value} (hb : But b w w') {w'' : World} (ho : w'.ownsRow B T s v n xs) (hB : w.heap.size ≤ B) (hg : w'.grownBy w'' v.ownBlock) : But b w w'' :=
  ⟨hg.os.trans hb.os, hg.tape.trans hb.tape, hg.output.trans hb.output, Nat.le_trans hb.size hg.size, fun k hk hr => (hg.block k (Nat.lt_of_lt_of_le hk hb.size) (fun e => by have := (World.ownsRow.lt ho k e.symm).1; omega)).trans (hb.block k hk hr)⟩
theorem but_alloc {b : Nat} {w w' : World} (h : But b w w') (o : Obj) : But b w (w'.alloc o) :=
  ⟨h.os, h.tape, h.output, by have := h.size; simp; omega, fun k hk hr => (Below.heap_alloc _ _ _ (by have := h.size; omega)).trans (h.block k hk hr)⟩

set_option maxHeartbeats 2000000 in
set_option maxRecDepth 20000 in
theorem readPivots_any (b n : Nat) (t : List UInt8) (w : World) (hr : Rd w b t) (hn : n ≤ 255) (ht : t.length ≤ 10000000) :
    Calls Tryz.prog 267 #[.pointer (some ⟨b, 0, none⟩), .int .i64 n] w fun r w' => PvQ b w (Pr.pivotsR (n - 1) t) r w' := by
  have hbw := hr.lt
  have HR0 := hid hr
  clear hr
  go_enter Tryz.func267, Tryz.ntmps267
  go_wp2_with fail
  go_loopw [5, 8] (fun y i wr => ∃ (k : Nat) (l : List ByteArray) (q : List UInt8), (k : Int) ≤ max 0 ((n : Int) - 1) ∧ i = .int .i64 k ∧ l.length ≤ k ∧ q.length ≤ t.length ∧ OwnsS w.heap.size wr y l ∧ Rd wr b q ∧ But b w wr ∧ (Pr.pivotsR (n - 1 - k) q).map (fun r => (lists l ++ r.1, r.2)) = Pr.pivotsR (n - 1) t) (fun _ i _ => n - (intOf i).toNat)
  case atStart => exact ⟨0, [], t, by omega, rfl, by simp, Nat.le_refl _, OwnsS.nil _ _, HR0.out, but_refl _ _, by simp [lists]⟩
  case round =>
    clear HR0
    obtain ⟨k, l, q, hk, rfl, hlk, hq, ho, hr, hb, heq⟩ := hrel
    have HO := hid ho
    have HR := hid hr
    have HB := hid hb
    have HEQ := hid heq
    have hsz := hb.size
    obtain ⟨ya, yc, rfl⟩ := ho.shape
    clear ho hr hb heq
    by_cases hkn : k + 1 < n
    · obtain ⟨m, hm⟩ : ∃ m, n - 1 - k = m + 1 := ⟨n - 1 - k - 1, by omega⟩
      have HMK : Hid (m = n - 1 - (k + 1)) := by show _ = _; omega
      have HNX : Hid (Pr.pivotsR (n - 1 - k) q = (Pr.textR q).bind fun x => (Pr.pivotsR m x.2).map fun r => (x.1 :: r.1, r.2)) := by show _ = _; rw [hm]; rfl
      clear hm
      have HC := hid (rtext_any b q wr HR.out (by omega))
      have hd : (k : Int) < (n : Int) - 1 := by omega
      go_wp2_with fail
      refine HC.out.mono ?_
      rintro r w2 ⟨hb2, ⟨hn2, rfl⟩ | ⟨x, q2, hs2, rfl, hr2⟩⟩
      · have HF : Hid (Pr.pivotsR (n - 1) t = none) := by show _ = _; rw [← HEQ.out, HNX.out, hn2]; rfl
        have HB2 := hid (but_trans HB.out hb2)
        clear hb2 hn2
        unfold gaveUp
        go_wp2_with fail
        exact ⟨rfl, HB2.out, .inl ⟨HF.out, rfl⟩⟩
      · have hxl := Pr.textR_len hs2
        have HG : Hid ((Pr.pivotsR (n - 1 - (k + 1)) q2).map (fun r => (lists (l ++ [⟨x.toArray⟩]) ++ r.1, r.2)) = Pr.pivotsR (n - 1) t) := by
          show _ = _; rw [← HEQ.out, HNX.out, hs2, ← HMK.out]
          simp only [Option.bind_some, Option.map_map]
          congr 1
          funext r
          simp [lists]
        have HB2 := hid (but_trans HB.out hb2)
        have HR2 := hid hr2
        have HO2 : Hid (OwnsS w.heap.size w2 (.slice ya l.length yc) l) := row_but HO.out hb2 (by omega)
        have hs2' := hb2.size
        clear hb2 hs2 hr2 HC
        unfold sv
        go_wp2_with (first
          | (at_builtin; refine wpApT w2 rfl (.tmp 10) (.tmp 13) rfl w.heap.size (.slice ya l.length yc) l rfl HO2.out ⟨x.toArray⟩ rfl (by omega) (by omega) ?_))
        intro v3 w3 ho3 hg3 hat3
        have HO3 := hid ho3
        have HR3 := hid (HR2.out.grown hg3 (fun e => by have := (World.ownsRow.lt HO2.out _ e.symm).1; omega))
        have HB3 := hid (but_grown HB2.out HO2.out (Nat.le_refl _) hg3)
        obtain ⟨ya', yc', rfl⟩ := ho3.shape
        clear ho3 hg3 hat3
        go_wp2_with fail
        go_roundw
        case rel => exact ⟨k + 1, _, q2, by omega, by go_num, by rw [List.length_append]; simp; omega, by omega, HO3.out, HR3.out, HB3.out, HG.out⟩
        case measure => simp [intOf]; omega
    · have HE1 : Hid (Pr.pivotsR (n - 1) t = some (lists l, q)) := by
        show _ = _; rw [← HEQ.out, show n - 1 - k = 0 by omega]; simp [Pr.pivotsR]
      have hd : ¬ (k : Int) < (n : Int) - 1 := by omega
      go_wp2_with fail
      go_ret
      exact ⟨HB.out, .inr ⟨l, _, q, HE1.out, rfl, HO.out, by omega, HR.out⟩⟩

theorem plainCh_snoc2 (l : List (Int × ByteArray × ByteArray)) (x : Int × ByteArray × ByteArray) : plainCh (l ++ [x]) = plainCh l ++ [(x.1, x.2.1.data.toList, x.2.2.data.toList)] := by simp [plainCh]
set_option maxHeartbeats 4000000 in
set_option maxRecDepth 20000 in
theorem readChanges_any (b : Nat) (t : List UInt8) (w : World) (hr : Rd w b t) (ht : t.length ≤ 10000000) :
    Calls Tryz.prog 250 #[.pointer (some ⟨b, 0, none⟩)] w fun r w' => ChQ b w (Pr.chgsR t) r w' := by
  have hbw := hr.lt
  have HC := hid (rbyte_any b t w hr)
  clear hr
  go_enter Tryz.func250, Tryz.ntmps250
  go_wp2_with fail
  refine HC.out.mono ?_
  rintro r w1 ⟨hb1, ⟨hn, rfl⟩ | ⟨bn, t1, hs1, rfl, hr1⟩⟩
  · have HT : Hid (Pr.chgsR t = none) := by show _ = _; unfold Pr.chgsR; rw [hn]; rfl
    have HB := hid hb1
    clear hb1 hn
    unfold gaveUp
    go_wp2_with fail
    exact ⟨rfl, HB.out, .inl ⟨HT.out, rfl⟩⟩
  have HT1 : Hid (Pr.chgsR t = Pr.changesR bn.toNat t1) := by show _ = _; unfold Pr.chgsR; rw [hs1]; rfl
  have ht1 : t1.length ≤ t.length := by rw [Pr.byteR_len hs1]; simp
  have HB1 := hid hb1
  have HR1 := hid hr1
  have hz1 := hb1.size
  have hbn : bn.toNat < 256 := bn.toNat_lt
  clear hb1 hs1 hr1 HC
  unfold bv
  generalize bn.toNat = n at *
  go_wp2_with fail
  go_loopw [3, 7] (fun y i wr => ∃ (k : Nat) (l : List (Int × ByteArray × ByteArray)) (q : List UInt8), k ≤ n ∧ i = .int .u8 k ∧ l.length ≤ k ∧ q.length ≤ t.length ∧ OwnsC w.heap.size wr y l ∧ Rd wr b q ∧ But b w wr ∧ (Pr.changesR (n - k) q).map (fun r => (plainCh l ++ r.1, r.2)) = Pr.changesR n t1) (fun _ i _ => n - (intOf i).toNat)
  case atStart => exact ⟨0, [], t1, Nat.zero_le _, rfl, by simp, ht1, World.ownsRow_nil _ _ _ _, HR1.out, HB1.out, by simp [plainCh]⟩
  case round =>
    clear HR1 HB1 hz1
    obtain ⟨k, l, q, hk, rfl, hlk, hq, ho, hr, hb, heq⟩ := hrel
    have HO := hid ho
    have HR := hid hr
    have HB := hid hb
    have HEQ := hid heq
    have hsz := hb.size
    obtain ⟨ya, yc, rfl⟩ := rowShape ho
    clear ho hr hb heq
    by_cases hkn : k < n
    · obtain ⟨m, hm⟩ : ∃ m, n - k = m + 1 := ⟨n - k - 1, by omega⟩
      have HMK : Hid (m = n - (k + 1)) := by show _ = _; omega
      have HNX : Hid (Pr.changesR (n - k) q = (Pr.byteR q).bind fun b => (Pr.textR b.2).bind fun k => if b.1.toNat = 2 then (Pr.changesR m k.2).map fun r => (((2 : Int), k.1, []) :: r.1, r.2) else (Pr.textR k.2).bind fun v => (Pr.changesR m v.2).map fun r => (((b.1.toNat : Int), k.1, v.1) :: r.1, r.2)) := by show _ = _; rw [hm]; rfl
      clear hm
      have HC := hid (rbyte_any b q wr HR.out)
      go_wp2_with fail
      refine HC.out.mono ?_
      rintro r w2 ⟨hb2, ⟨hn2, rfl⟩ | ⟨kb, q2, hs2, rfl, hr2⟩⟩
      · have HF : Hid (Pr.chgsR t = none) := by show _ = _; rw [HT1.out, ← HEQ.out, HNX.out, hn2]; rfl
        have HB2 := hid (but_trans HB.out hb2)
        clear hb2 hn2
        unfold gaveUp
        go_wp2_with fail
        exact ⟨rfl, HB2.out, .inl ⟨HF.out, rfl⟩⟩
      have HN2 : Hid (Pr.changesR (n - k) q = (Pr.textR q2).bind fun x => if kb.toNat = 2 then (Pr.changesR m x.2).map fun r => (((2 : Int), x.1, []) :: r.1, r.2) else (Pr.textR x.2).bind fun v => (Pr.changesR m v.2).map fun r => (((kb.toNat : Int), x.1, v.1) :: r.1, r.2)) := by show _ = _; rw [HNX.out, hs2]; rfl
      have hq2 : q2.length ≤ t.length := by have := Pr.byteR_len hs2; rw [this] at hq; simp at hq; omega
      have HB2 := hid (but_trans HB.out hb2)
      have HO2 : Hid (OwnsC w.heap.size w2 (.slice ya l.length yc) l) := row_but HO.out hb2 (by omega)
      have hkb : kb.toNat < 256 := kb.toNat_lt
      have HC2 := hid (rtext_any b q2 w2 hr2 (by omega))
      clear hb2 hs2 hr2 HC HNX HO HB
      unfold bv
      generalize kb.toNat = kn at *
      go_wp2_with fail
      refine HC2.out.mono ?_
      rintro r w3 ⟨hb3, ⟨hn3, rfl⟩ | ⟨x, q3, hs3, rfl, hr3⟩⟩
      · have HF : Hid (Pr.chgsR t = none) := by show _ = _; rw [HT1.out, ← HEQ.out, HN2.out, hn3]; rfl
        have HB3 := hid (but_trans HB2.out hb3)
        clear hb3 hn3
        unfold gaveUp
        go_wp2_with fail
        exact ⟨rfl, HB3.out, .inl ⟨HF.out, rfl⟩⟩
      have HN3 : Hid (Pr.changesR (n - k) q = if kn = 2 then (Pr.changesR m q3).map fun r => (((2 : Int), x, []) :: r.1, r.2) else (Pr.textR q3).bind fun v => (Pr.changesR m v.2).map fun r => (((kn : Int), x, v.1) :: r.1, r.2)) := by show _ = _; rw [HN2.out, hs3]; rfl
      have hxl := Pr.textR_len hs3
      have HB3 := hid (but_trans HB2.out hb3)
      have HO3 : Hid (OwnsC w.heap.size w3 (.slice ya l.length yc) l) := row_but HO2.out hb3 (by omega)
      have HR3 := hid hr3
      have hs3' := HB3.out.size
      clear hb3 hs3 hr3 HC2 HN2 HO2 HB2
      unfold sv
      have HB4 := hid (but_alloc HB3.out (.cells #[.int .i64 (kn : Int), .string ⟨x.toArray⟩, .string ⟨#[]⟩] 34))
      have HO4 : Hid (OwnsC w.heap.size (w3.alloc (.cells #[.int .i64 (kn : Int), .string ⟨x.toArray⟩, .string ⟨#[]⟩] 34)) (.slice ya l.length yc) l) := World.ownsRow.alloc HO3.out _
      have HR4 := hid (HR3.out.below ((Below.refl w3.heap.size w3).alloc (Nat.le_refl _) (.cells #[.int .i64 (kn : Int), .string ⟨x.toArray⟩, .string ⟨#[]⟩] 34)) HR3.out.lt)
      have HX4 : Hid ((w3.alloc (.cells #[.int .i64 (kn : Int), .string ⟨x.toArray⟩, .string ⟨#[]⟩] 34)).heap[w3.heap.size]? = some (.cells #[.int .i64 (kn : Int), .string ⟨x.toArray⟩, .string ⟨#[]⟩] 34 (0, 0))) := heap_alloc_new _ _
      have hs4 : w3.heap.size < (w3.alloc (.cells #[.int .i64 (kn : Int), .string ⟨x.toArray⟩, .string ⟨#[]⟩] 34)).heap.size := by simp
      have hxb : b < w3.heap.size := HR3.out.lt
      have HN5 := hid (own_lt HO3.out (Nat.le_refl w3.heap.size))
      by_cases hk2 : kn = 2
      · rw [if_pos hk2] at HN3
        have hne : ((kn : Int) == 2) = true := by simp; omega
        have HKN : Hid ((kn : Int) = 2) := by show _ = _; omega
        clear hk2
        go_wp2_with (first
          | (at_builtin; refine wpApG (w3.alloc (.cells #[.int .i64 (kn : Int), .string ⟨x.toArray⟩, .string ⟨#[]⟩] 34)) rfl (.tmp 21) (.tmp 23) 77 34 Tryz.underlying77 _ 3 40 info_change rfl (by decide) (by decide) rfl w.heap.size (.slice ya l.length yc) l.length (ccells l) rfl HO4.out [.int .i64 (kn : Int), .string ⟨x.toArray⟩, .string ⟨#[]⟩] rfl (one3 _ _ _) (by simp [Act.eval]) (by omega) (by omega) ?_))
        intro v6 w6 ho6 hg6 hat6
        have HO6 : Hid (OwnsC w.heap.size w6 v6 (l ++ [((kn : Int), ⟨x.toArray⟩, ⟨#[]⟩)])) := by
          show OwnsC _ _ _ _; unfold OwnsC; rw [List.length_append, ccells_snoc]; exact ho6
        have HR6 := hid (HR4.out.grown hg6 (fun e => by have := (World.ownsRow.lt HO4.out _ e.symm).1; omega))
        have HB6 := hid (but_grown HB4.out HO4.out (Nat.le_refl _) hg6)
        have HG : Hid ((Pr.changesR (n - (k + 1)) q3).map (fun r => (plainCh (l ++ [((kn : Int), ⟨x.toArray⟩, ⟨#[]⟩)]) ++ r.1, r.2)) = Pr.changesR n t1) := by
          show _ = _; rw [← HEQ.out, HN3.out, ← HMK.out, plainCh_snoc2, HKN.out]
          simp only [Option.map_map]
          congr 1
          funext r
          simp
        obtain ⟨ya', yc', rfl⟩ := rowShape ho6
        clear ho6 hg6 hat6
        go_wp2_with fail
        go_roundw
        case rel => exact ⟨k + 1, _, q3, by omega, by go_num, by rw [List.length_append]; simp; omega, by omega, HO6.out, HR6.out, HB6.out, HG.out⟩
        case measure => simp [intOf]; omega
      · rw [if_neg hk2] at HN3
        have hne : ((kn : Int) == 2) = false := by simp; omega
        clear hk2
        go_wp2_with fail
        generalize w3.alloc (.cells #[.int .i64 (kn : Int), .string ⟨x.toArray⟩, .string ⟨#[]⟩] 34) = w4 at *
        generalize w3.heap.size = xb at *
        have HC3 := hid (rtext_any b q3 w4 HR4.out (by omega))
        refine HC3.out.mono ?_
        rintro r w5 ⟨hb5, ⟨hn5, rfl⟩ | ⟨v, q5, hs5, rfl, hr5⟩⟩
        · have HF : Hid (Pr.chgsR t = none) := by show _ = _; rw [HT1.out, ← HEQ.out, HN3.out, hn5]; rfl
          have HB5 := hid (but_trans HB4.out hb5)
          clear hb5 hn5
          unfold gaveUp
          go_wp2_with fail
          exact ⟨rfl, HB5.out, .inl ⟨HF.out, rfl⟩⟩
        · have hvl := Pr.textR_len hs5
          have HG : Hid ((Pr.changesR (n - (k + 1)) q5).map (fun r => (plainCh (l ++ [((kn : Int), ⟨x.toArray⟩, ⟨v.toArray⟩)]) ++ r.1, r.2)) = Pr.changesR n t1) := by
            show _ = _; rw [← HEQ.out, HN3.out, hs5, ← HMK.out, plainCh_snoc2]
            simp only [Option.bind_some, Option.map_map]
            congr 1
            funext r
            simp
          have HB5 := hid (but_trans HB4.out hb5)
          have HX5 := hid ((hb5.block xb (by omega) (by simp; omega)).trans HX4.out)
          have HO5 : Hid (OwnsC w.heap.size w5 (.slice ya l.length yc) l) := row_but HO4.out hb5 (by omega)
          have HR5 := hid hr5
          have hs5' := HB5.out.size
          have hsx := hb5.size
          have x0 : w5.cell? ⟨xb, 0, none⟩ = some (.int .i64 (kn : Int)) := by unfold World.cell?; rw [HX5.out]; rfl
          have x1 : w5.cell? ⟨xb, 1, none⟩ = some (.string ⟨x.toArray⟩) := by unfold World.cell?; rw [HX5.out]; rfl
          have x2 : w5.cell? ⟨xb, 2, none⟩ = some (.string ⟨#[]⟩) := by unfold World.cell?; rw [HX5.out]; rfl
          have xz : w5.frozen? ⟨xb, 2, none⟩ = false := by unfold World.frozen?; rw [HX5.out]; rfl
          have HXS := hid (heap_setCell_at (i := 2) HX5.out (.string ⟨v.toArray⟩))
          have HOS : Hid (OwnsC w.heap.size (w5.setCell ⟨xb, 2, none⟩ (.string ⟨v.toArray⟩)) (.slice ya l.length yc) l) := World.ownsRow.kept HO5.out (but_set xb 2 w5 _) (.inr (fun e => HN5.out e))
          have HRS := hid (HR5.out.setOther (c := xb) (i := 2) (by omega) (.string ⟨v.toArray⟩))
          have HBS : Hid (But b w (w5.setCell ⟨xb, 2, none⟩ (.string ⟨v.toArray⟩))) := ⟨HB5.out.os, HB5.out.tape, HB5.out.output, by simp [World.setCell]; exact hs5', fun j hj hr => (Below.heap_setCell _ _ _ _ (by simp; omega)).trans (HB5.out.block j hj hr)⟩
          have hsz5 : (w5.setCell ⟨xb, 2, none⟩ (.string ⟨v.toArray⟩)).heap.size = w5.heap.size := by simp [World.setCell]
          have HSZ5 := hid hsz5
          clear hb5 hs5 hr5 HC3 hsz5
          unfold sv
          go_wp2_with (first
            | (at_builtin; refine wpApG (w5.setCell ⟨xb, 2, none⟩ (.string ⟨v.toArray⟩)) rfl (.tmp 21) (.tmp 23) 77 34 Tryz.underlying77 _ 3 40 info_change rfl (by decide) (by decide) rfl w.heap.size (.slice ya l.length yc) l.length (ccells l) rfl HOS.out [.int .i64 (kn : Int), .string ⟨x.toArray⟩, .string ⟨v.toArray⟩] rfl (one3 _ _ _) (by rw [HSZ5.out]; rfl) (by omega) (by rw [HSZ5.out]; exact hs5') ?_))
          intro v6 w6 ho6 hg6 hat6
          have HO6 : Hid (OwnsC w.heap.size w6 v6 (l ++ [((kn : Int), ⟨x.toArray⟩, ⟨v.toArray⟩)])) := by
            show OwnsC _ _ _ _; unfold OwnsC; rw [List.length_append, ccells_snoc]; exact ho6
          have HR6 := hid (HRS.out.grown hg6 (fun e => by have := (World.ownsRow.lt HOS.out _ e.symm).1; omega))
          have HB6 := hid (but_grown HBS.out HOS.out (Nat.le_refl _) hg6)
          obtain ⟨ya', yc', rfl⟩ := rowShape ho6
          clear ho6 hg6 hat6
          go_wp2_with fail
          go_roundw
          case rel => exact ⟨k + 1, _, q5, by omega, by go_num, by rw [List.length_append]; simp; omega, by omega, HO6.out, HR6.out, HB6.out, HG.out⟩
          case measure => simp [intOf]; omega
    · have HE1 : Hid (Pr.chgsR t = some (plainCh l, q)) := by
        show _ = _; rw [HT1.out, ← HEQ.out, show n - k = 0 by omega]; simp [Pr.changesR]
      go_wp2_with fail
      go_ret
      exact ⟨HB.out, .inr ⟨l, _, q, HE1.out, rfl, HO.out, by omega, HR.out⟩⟩
end Go.Proofs.YtolgpnaoaodepaaGreat
/- The walks of pages' readChildren and readBranch. -/
namespace Go.Proofs.YtolgpnaoaodepaaGreat
open Go.RowKit

def KidQ (w : World) (o : Option (List Nat × List (List UInt8))) (r : Ending) (w' : World) : Prop := Below w.heap.size w w' ∧ ((o = none ∧ r = gaveUp) ∨ ∃ cl pl v1 v2, o = some (cl, lists pl) ∧ r = .returned (.tuple #[v1, v2]) ∧ w'.ownsRow w.heap.size 3 1 v1 cl.length (ncells cl) ∧ OwnsS w.heap.size w' v2 pl ∧ cl.length ≤ 255 ∧ pl.length ≤ 255)
theorem row_shrink {B C : Nat} {w : World} {v : Value} {T : TypeId} {s n : Nat} {xs : List Value} (h : w.ownsRow B T s v n xs) (hc : C ≤ B) : w.ownsRow C T s v n xs := by
  refine ⟨h.1, ?_⟩
  rcases h.2 with hn | ⟨g, cap, cur, hv, hb', r⟩
  · exact .inl hn
  · exact .inr ⟨g, cap, cur, hv, Nat.le_trans hc hb', r⟩

set_option maxHeartbeats 2000000 in
set_option maxRecDepth 20000 in
theorem readChildren_any (c : List UInt8) (n : Nat) (w : World) (hn : n ≤ 255) (hc : c.length ≤ 1000000) :
    Calls Tryz.prog 248 #[.string ⟨c.toArray⟩, .int .i64 n] w fun r w' => KidQ w (Pr.childrenR c n) r w' := by
  go_enter Tryz.func248, Tryz.ntmps248
  go_wp2_with fail
  refine (newReader_any c _).mono ?_
  rintro r w1 ⟨rfl, rfl⟩
  have HRD := hid (rd_new w c)
  have HB0 := hid ((Below.refl w.heap.size w).alloc (Nat.le_refl _) (.cells #[.string ⟨c.toArray⟩] 298))
  have hs0 : w.heap.size < (w.alloc (.cells #[.string ⟨c.toArray⟩] 298)).heap.size := by simp
  generalize w.alloc (.cells #[.string ⟨c.toArray⟩] 298) = w0 at *
  go_wp2_with fail
  go_loopw [4, 10] (fun y i wr => ∃ (k : Nat) (l : List Nat) (q : List UInt8), k ≤ n ∧ i = .int .i64 k ∧ l.length ≤ k ∧ q.length ≤ c.length ∧ wr.ownsRow (w.heap.size + 1) 3 1 y l.length (ncells l) ∧ Rd wr w.heap.size q ∧ Below w.heap.size w wr ∧ w.heap.size < wr.heap.size ∧ (Pr.numsR (n - k) q).map (fun r => (l ++ r.1, r.2)) = Pr.numsR n c) (fun _ i _ => n - (intOf i).toNat)
  case atStart => exact ⟨0, [], c, Nat.zero_le _, rfl, by simp, Nat.le_refl _, World.ownsRow_nil _ _ _ _, HRD.out, HB0.out, hs0, by simp⟩
  case round =>
    clear HRD HB0 hs0
    obtain ⟨k, l, q, hk, rfl, hlk, hq, ho, hr, hb, hsz, heq⟩ := hrel
    have HO := hid ho
    have HR := hid hr
    have HB := hid hb
    have HEQ := hid heq
    obtain ⟨ya, yc, rfl⟩ := rowShape ho
    clear ho hr hb heq
    by_cases hkn : k < n
    · obtain ⟨m, hm⟩ : ∃ m, n - k = m + 1 := ⟨n - k - 1, by omega⟩
      have HMK : Hid (m = n - (k + 1)) := by show _ = _; omega
      have HNX : Hid (Pr.numsR (n - k) q = (Pr.numberR q).bind fun x => (Pr.numsR m x.2).map fun r => (x.1 :: r.1, r.2)) := by show _ = _; rw [hm]; rfl
      clear hm
      have HC := hid (rnumber_any w.heap.size q wr HR.out)
      go_wp2_with fail
      refine HC.out.mono ?_
      rintro r w2 ⟨hb2, ⟨hn2, rfl⟩ | ⟨x, q2, hs2, rfl, hr2⟩⟩
      · have HF : Hid (Pr.childrenR c n = none) := by show _ = _; unfold Pr.childrenR; rw [← HEQ.out, HNX.out, hn2]; rfl
        have HB2 := hid (but_to_below HB.out hb2 (Nat.le_refl _) (by omega))
        clear hb2 hn2
        unfold gaveUp
        go_wp2_with fail
        exact ⟨rfl, HB2.out, .inl ⟨HF.out, rfl⟩⟩
      · have hxl := Pr.numberR_le hs2
        have HG : Hid ((Pr.numsR (n - (k + 1)) q2).map (fun r => (l ++ [x] ++ r.1, r.2)) = Pr.numsR n c) := by
          show _ = _; rw [← HEQ.out, HNX.out, hs2, ← HMK.out]
          simp only [Option.bind_some, Option.map_map]
          congr 1
          funext r
          simp
        have HB2 := hid (but_to_below HB.out hb2 (Nat.le_refl _) (by omega))
        have HR2 := hid hr2
        have HO2 : Hid (w2.ownsRow (w.heap.size + 1) 3 1 (.slice ya l.length yc) l.length (ncells l)) := row_but HO.out hb2 (by omega)
        have hs2' := hb2.size
        clear hb2 hs2 hr2 HC
        unfold nv
        go_wp2_with (first
          | (at_builtin; refine wpApG w2 rfl (.tmp 12) (.tmp 15) 25 3 Tryz.underlying25 _ 1 8 info_int rfl (by decide) (by decide) rfl (w.heap.size + 1) (.slice ya l.length yc) l.length (ncells l) rfl HO2.out [.int .i64 (x : Int)] rfl (by intro u hu; simp at hu; subst hu; rfl) rfl (by omega) (by omega) ?_))
        intro v3 w3 ho3 hg3 hat3
        have HO3 : Hid (w3.ownsRow (w.heap.size + 1) 3 1 v3 (l ++ [x]).length (ncells (l ++ [x]))) := by
          show World.ownsRow _ _ _ _ _ _ _; rw [List.length_append, show ncells (l ++ [x]) = ncells l ++ [.int .i64 (x : Int)] by simp [ncells]]; exact ho3
        have HR3 := hid (HR2.out.grown hg3 (fun e => by have := (World.ownsRow.lt HO2.out _ e.symm).1; omega))
        have HB3 := hid (HB2.out.trans (((Below.refl (w.heap.size + 1) w2).grown hg3 (by omega) fun k hk => (World.ownsRow.lt HO2.out k hk).1).mono (by omega)))
        have hs3 := hg3.size
        obtain ⟨ya', yc', rfl⟩ := rowShape ho3
        clear ho3 hg3 hat3
        go_wp2_with fail
        go_roundw
        case rel => exact ⟨k + 1, _, q2, by omega, by go_num, by rw [List.length_append]; simp; omega, by omega, HO3.out, HR3.out, HB3.out, by omega, HG.out⟩
        case measure => simp [intOf]; omega
    · have HE1 : Hid (Pr.numsR n c = some (l, q)) := by
        show _ = _; rw [← HEQ.out, show n - k = 0 by omega]; simp [Pr.numsR]
      have HE2 : Hid (Pr.childrenR c n = (Pr.pivotsR (n - 1) q).bind fun p => if p.2 = [] then some (l, p.1) else none) := by show _ = _; unfold Pr.childrenR; rw [HE1.out]; rfl
      have HC := hid (readPivots_any w.heap.size n q wr HR.out hn (by omega))
      go_wp2_with fail
      refine HC.out.mono ?_
      rintro r w2 ⟨hb2, ⟨hn2, rfl⟩ | ⟨pl, v2, u2, hs2, rfl, ho2, hpl, hr2⟩⟩
      · have HF : Hid (Pr.childrenR c n = none) := by show _ = _; rw [HE2.out, hn2]; rfl
        have HB2 := hid (but_to_below HB.out hb2 (Nat.le_refl _) (by omega))
        clear hb2 hn2
        unfold gaveUp
        go_wp2_with fail
        exact ⟨rfl, HB2.out, .inl ⟨HF.out, rfl⟩⟩
      · have HE3 : Hid (Pr.childrenR c n = if u2 = [] then some (l, lists pl) else none) := by show _ = _; rw [HE2.out, hs2]; rfl
        have HB2 := hid (but_to_below HB.out hb2 (Nat.le_refl _) (by omega))
        have HO2 : Hid (w2.ownsRow (w.heap.size + 1) 3 1 (.slice ya l.length yc) l.length (ncells l)) := row_but HO.out hb2 (by omega)
        have HP2 := hid ho2
        have HC2 := hid (rend_any w.heap.size u2 w2 hr2)
        obtain ⟨pa, pc, rfl⟩ := ho2.shape
        clear hb2 hs2 hr2 ho2 HC HE2 HE1
        go_wp2_with fail
        refine HC2.out.mono ?_
        rintro r w3 ⟨rfl, rfl⟩
        clear HC2
        by_cases hu : u2 = []
        · rw [if_pos hu] at HE3 ⊢
          clear hu
          go_wp2_with fail
          go_ret2
          exact ⟨HB2.out, .inr ⟨l, pl, _, _, HE3.out, rfl, row_shrink HO2.out (by omega), row_shrink HP2.out (by omega), by omega, hpl⟩⟩
        · rw [if_neg hu] at HE3 ⊢
          clear hu
          unfold gaveUp
          go_wp2_with fail
          exact ⟨rfl, HB2.out, .inl ⟨HE3.out, rfl⟩⟩
end Go.Proofs.YtolgpnaoaodepaaGreat
/- The walk of pages' readBranch. -/
namespace Go.Proofs.YtolgpnaoaodepaaGreat
open Go.RowKit

/-- A node that lies in block b. -/
def NodeB (w : World) (b : Nat) (v0 v1 v2 v3 v4 : Value) : Prop := w.heap[b]? = some (.cells #[v0, v1, v2, v3, v4] 79 (0, 0))
theorem NodeB.cells {w : World} {b : Nat} {v0 v1 v2 v3 v4 : Value} (h : NodeB w b v0 v1 v2 v3 v4) : w.cell? ⟨b, 0, none⟩ = some v0 ∧ w.cell? ⟨b, 1, none⟩ = some v1 ∧ w.cell? ⟨b, 2, none⟩ = some v2 ∧ w.cell? ⟨b, 3, none⟩ = some v3 ∧ w.cell? ⟨b, 4, none⟩ = some v4 ∧ w.frozen? ⟨b, 0, none⟩ = false ∧ w.frozen? ⟨b, 1, none⟩ = false ∧ w.frozen? ⟨b, 2, none⟩ = false ∧ w.frozen? ⟨b, 3, none⟩ = false ∧ w.frozen? ⟨b, 4, none⟩ = false := by
  unfold NodeB at h; refine ⟨?_, ?_, ?_, ?_, ?_, ?_, ?_, ?_, ?_, ?_⟩ <;> simp [World.cell?, World.frozen?, h]
theorem NodeB.lt {w : World} {b : Nat} {v0 v1 v2 v3 v4 : Value} (h : NodeB w b v0 v1 v2 v3 v4) : b < w.heap.size := (Array.getElem?_eq_some_iff.1 h).1
theorem NodeB.but {w w' : World} {b c : Nat} {v0 v1 v2 v3 v4 : Value} (h : NodeB w b v0 v1 v2 v3 v4) (hb : But c w w') (hne : b ≠ c) : NodeB w' b v0 v1 v2 v3 v4 := (hb.block b h.lt (by simpa using hne)).trans h
theorem NodeB.below {w w' : World} {b B : Nat} {v0 v1 v2 v3 v4 : Value} (h : NodeB w b v0 v1 v2 v3 v4) (hb : Below B w w') (hlt : b < B) : NodeB w' b v0 v1 v2 v3 v4 := (hb.block b hlt).trans h
theorem NodeB.keep {w w' : World} {b : Nat} {v0 v1 v2 v3 v4 : Value} (h : NodeB w b v0 v1 v2 v3 v4) (hb : Below w.heap.size w w') : NodeB w' b v0 v1 v2 v3 v4 := h.below hb h.lt
theorem nodeB_new (w : World) (v0 v1 v2 v3 v4 : Value) : NodeB (w.alloc (.cells #[v0, v1, v2, v3, v4] 79)) w.heap.size v0 v1 v2 v3 v4 := heap_alloc_new _ _
/-- A node value whose rows a call owns. -/
def NodeV (B : Nat) (w : World) (v : Value) (kd : Int) (il : List (ByteArray × ByteArray)) (cl : List Nat) (pl : List ByteArray) (ml : List (Int × ByteArray × ByteArray)) : Prop :=
  ∃ v1 v2 v3 v4, v = .agg #[.int .i64 kd, v1, v2, v3, v4] ∧ OwnsI B w v1 il ∧ w.ownsRow B 3 1 v2 cl.length (ncells cl) ∧ OwnsS B w v3 pl ∧ OwnsC B w v4 ml ∧ il.length ≤ 1020 ∧ cl.length ≤ 255 ∧ pl.length ≤ 255 ∧ ml.length ≤ 255
def NodeQ (w : World) (o : Option (Int × List (List UInt8 × List UInt8) × List Nat × List (List UInt8) × List (Int × List UInt8 × List UInt8))) (r : Ending) (w' : World) : Prop := Below w.heap.size w w' ∧ ((o = none ∧ r = gaveUp) ∨ ∃ kd il cl pl ml v, o = some (kd, plain il, cl, lists pl, plainCh ml) ∧ r = .returned v ∧ NodeV w.heap.size w' v kd il cl pl ml)
theorem two_of {α : Type} {l : List α} (h : l.length = 2) : ∃ a b, l = [a, b] := by
  match l, h with
  | [a, b], _ => exact ⟨a, b, rfl⟩
theorem NodeB.set1 {w : World} {b : Nat} {v0 v1 v2 v3 v4 : Value} (h : NodeB w b v0 v1 v2 v3 v4) (u : Value) : NodeB (w.setCell ⟨b, 1, none⟩ u) b v0 u v2 v3 v4 := by unfold NodeB at *; rw [heap_setCell_at (i := 1) h]; rfl
theorem NodeB.set2 {w : World} {b : Nat} {v0 v1 v2 v3 v4 : Value} (h : NodeB w b v0 v1 v2 v3 v4) (u : Value) : NodeB (w.setCell ⟨b, 2, none⟩ u) b v0 v1 u v3 v4 := by unfold NodeB at *; rw [heap_setCell_at (i := 2) h]; rfl
theorem NodeB.set3 {w : World} {b : Nat} {v0 v1 v2 v3 v4 : Value} (h : NodeB w b v0 v1 v2 v3 v4) (u : Value) : NodeB (w.setCell ⟨b, 3, none⟩ u) b v0 v1 v2 u v4 := by unfold NodeB at *; rw [heap_setCell_at (i := 3) h]; rfl
theorem NodeB.set4 {w : World} {b : Nat} {v0 v1 v2 v3 v4 : Value} (h : NodeB w b v0 v1 v2 v3 v4) (u : Value) : NodeB (w.setCell ⟨b, 4, none⟩ u) b v0 v1 v2 v3 u := by unfold NodeB at *; rw [heap_setCell_at (i := 4) h]; rfl
theorem sec_any (k : UInt8) (s : ByteArray) (w : World) : Calls Tryz.prog 249 #[.int .u8 (k.toNat : Int), .string s] w fun r w' => r = secEnd (Pr.secR k s.data.toList) ∧ Below w.heap.size w w' := by
  have := readSection_any k s.data.toList w
  rwa [mk_data] at this
theorem row_two (w : World) (x y : Nat) : IsRow (w.alloc (.cells #[.int .i64 (x : Int), .int .i64 (y : Int)] 3)) (.slice (some ⟨w.heap.size, 0, none⟩) 2 2) 2 (ncells [x, y]) := by
  refine ⟨_, _, rfl, by omega, .inr ⟨_, _, rfl, by simp, fun i hi => ?_⟩⟩
  have e := heap_alloc_new w (.cells #[.int .i64 (x : Int), .int .i64 (y : Int)] 3)
  match i, hi with
  | 0, _ => unfold World.cell?; rw [e]; rfl
  | 1, _ => unfold World.cell?; rw [e]; rfl
theorem row_set {B : Nat} {w : World} {v : Value} {T : TypeId} {s n : Nat} {xs : List Value} (h : w.ownsRow B T s v n xs) {b i : Nat} (hb : b < B) (u : Value) : (w.setCell ⟨b, i, none⟩ u).ownsRow B T s v n xs := ownsRow_setCell_below h hb u
/-- A node's five cells, written. -/
abbrev put5 (w : World) (b : Nat) (v0 v1 v2 v3 v4 : Value) : World := ((((w.setCell ⟨b, 0, none⟩ v0).setCell ⟨b, 1, none⟩ v1).setCell ⟨b, 2, none⟩ v2).setCell ⟨b, 3, none⟩ v3).setCell ⟨b, 4, none⟩ v4
theorem NodeB.set0 {w : World} {b : Nat} {v0 v1 v2 v3 v4 : Value} (h : NodeB w b v0 v1 v2 v3 v4) (u : Value) : NodeB (w.setCell ⟨b, 0, none⟩ u) b u v1 v2 v3 v4 := by unfold NodeB at *; rw [heap_setCell_at (i := 0) h]; rfl
theorem NodeB.put {w : World} {b : Nat} {v0 v1 v2 v3 v4 : Value} (h : NodeB w b v0 v1 v2 v3 v4) (u0 u1 u2 u3 u4 : Value) : NodeB (put5 w b u0 u1 u2 u3 u4) b u0 u1 u2 u3 u4 := ((((h.set0 u0).set1 u1).set2 u2).set3 u3).set4 u4
theorem below_put {B : Nat} {a w : World} (h : Below B a w) {b : Nat} (hb : B ≤ b) (u0 u1 u2 u3 u4 : Value) : Below B a (put5 w b u0 u1 u2 u3 u4) :=
  ((((h.setCell (p := ⟨b, 0, none⟩) hb u0).setCell (p := ⟨b, 1, none⟩) hb u1).setCell (p := ⟨b, 2, none⟩) hb u2).setCell (p := ⟨b, 3, none⟩) hb u3).setCell (p := ⟨b, 4, none⟩) hb u4
theorem row_put {B : Nat} {w : World} {v : Value} {T : TypeId} {s n : Nat} {xs : List Value} (h : w.ownsRow B T s v n xs) {b : Nat} (hb : b < B) (u0 u1 u2 u3 u4 : Value) : (put5 w b u0 u1 u2 u3 u4).ownsRow B T s v n xs :=
  row_set (row_set (row_set (row_set (row_set h hb u0) hb u1) hb u2) hb u3) hb u4
theorem nodeB_result {w : World} {b : Nat} {v0 v1 v2 v3 v4 : Value} (h : NodeB w b v0 v1 v2 v3 v4) : w.cell? ⟨b, 0, none⟩ = some v0 ∧ w.cell? ⟨b, 1, none⟩ = some v1 ∧ w.cell? ⟨b, 2, none⟩ = some v2 ∧ w.cell? ⟨b, 3, none⟩ = some v3 ∧ w.cell? ⟨b, 4, none⟩ = some v4 := ⟨h.cells.1, h.cells.2.1, h.cells.2.2.1, h.cells.2.2.2.1, h.cells.2.2.2.2.1⟩
def brO (o : Option (List Nat × List (List UInt8) × List (Int × List UInt8 × List UInt8))) : Option (Int × List (List UInt8 × List UInt8) × List Nat × List (List UInt8) × List (Int × List UInt8 × List UInt8)) := o.map fun x => (2, [], x.1, x.2.1, x.2.2)

set_option maxHeartbeats 4000000 in
set_option maxRecDepth 20000 in
theorem readBranch_any (t : List UInt8) (w : World) :
    Calls Tryz.prog 200 #[.string ⟨t.toArray⟩] w fun r w' => NodeQ w (brO (Pr.branchR t)) r w' := by
  go_enter Tryz.func200, Tryz.ntmps200
  go_wp2_with fail
  have HN0 := hid (nodeB_new w (.int .i64 0) (.slice none 0 0) (.slice none 0 0) (.slice none 0 0) (.slice none 0 0))
  have HB0 := hid ((Below.refl w.heap.size w).alloc (Nat.le_refl _) (.cells #[.int .i64 0, .slice none 0 0, .slice none 0 0, .slice none 0 0, .slice none 0 0] 79))
  have hs0 : w.heap.size < (w.alloc (.cells #[.int .i64 0, .slice none 0 0, .slice none 0 0, .slice none 0 0, .slice none 0 0] 79)).heap.size := by simp
  refine (newReader_any t _).mono ?_
  rintro r w1 ⟨rfl, rfl⟩
  generalize w.alloc (.cells #[.int .i64 0, .slice none 0 0, .slice none 0 0, .slice none 0 0, .slice none 0 0] 79) = w0 at *
  have BA := (Below.refl w0.heap.size w0).alloc (Nat.le_refl _) (.cells #[.string ⟨t.toArray⟩] 298)
  have HR1 := hid (rd_new w0 t)
  have HB1 := hid (HB0.out.alloc (by omega) (.cells #[.string ⟨t.toArray⟩] 298))
  have HN1 := hid (HN0.out.keep BA)
  have hs1 : w0.heap.size < (w0.alloc (.cells #[.string ⟨t.toArray⟩] 298)).heap.size := by simp
  generalize w0.alloc (.cells #[.string ⟨t.toArray⟩] 298) = w1 at *
  generalize w0.heap.size = rb at *
  clear HN0 HB0 BA
  have HC := hid (rtake_any rb 3 t w1 HR1.out)
  go_wp2_with fail
  refine HC.out.mono ?_
  rintro r w2 ⟨hb2, ⟨hn2, rfl⟩ | ⟨x2, u2, he2, rfl, hr2⟩⟩
  · have HF : Hid (brO (Pr.branchR t) = none) := by show _ = _; unfold Pr.branchR; simp only [hn2, Option.bind_none]; rfl
    have HB2 := hid (but_to_below HB1.out hb2 (by omega) (by omega))
    clear hb2 hn2
    unfold gaveUp
    go_wp2_with fail
    exact ⟨rfl, HB2.out, .inl ⟨HF.out, rfl⟩⟩
  have HE2 := hid he2
  have HB2 := hid (but_to_below HB1.out hb2 (by omega) (by omega))
  have HN2 := hid (HN1.out.but hb2 (by omega))
  have hs2 := hb2.size
  have HC2 := hid (rbyte_any rb u2 w2 hr2)
  clear hb2 he2 hr2 HC HB1 HN1 HR1
  unfold sv
  go_wp2_with fail
  refine HC2.out.mono ?_
  rintro r w3 ⟨hb3, ⟨hn3, rfl⟩ | ⟨x3, u3, he3, rfl, hr3⟩⟩
  · have HF : Hid (brO (Pr.branchR t) = none) := by show _ = _; unfold Pr.branchR; simp only [HE2.out, hn3, Option.bind_none, Option.bind_some]; rfl
    have HB3 := hid (but_to_below HB2.out hb3 (by omega) (by omega))
    clear hb3 hn3
    unfold gaveUp
    go_wp2_with fail
    exact ⟨rfl, HB3.out, .inl ⟨HF.out, rfl⟩⟩
  have HE3 := hid he3
  have HB3 := hid (but_to_below HB2.out hb3 (by omega) (by omega))
  have HN3 := hid (HN2.out.but hb3 (by omega))
  have hs3 := hb3.size
  have hx3 : x3.toNat ≤ 255 := by have := x3.toNat_lt; omega
  have HC3 := hid (rshort_any rb u3 w3 hr3)
  clear hb3 he3 hr3 HC2 HB2 HN2
  unfold bv
  go_wp2_with fail
  refine HC3.out.mono ?_
  rintro r w4 ⟨hb4, ⟨hn4, rfl⟩ | ⟨x4, u4, he4, rfl, hr4⟩⟩
  · have HF : Hid (brO (Pr.branchR t) = none) := by show _ = _; unfold Pr.branchR; simp only [HE2.out, HE3.out, hn4, Option.bind_none, Option.bind_some]; rfl
    have HB4 := hid (but_to_below HB3.out hb4 (by omega) (by omega))
    clear hb4 hn4
    unfold gaveUp
    go_wp2_with fail
    exact ⟨rfl, HB4.out, .inl ⟨HF.out, rfl⟩⟩
  have HE4 := hid he4
  have HB4 := hid (but_to_below HB3.out hb4 (by omega) (by omega))
  have HN4 := hid (HN3.out.but hb4 (by omega))
  have hs4 := hb4.size
  have HC4 := hid (rshort_any rb u4 w4 hr4)
  clear hb4 he4 hr4 HC3 HB3 HN3
  unfold nv
  go_wp2_with fail
  refine HC4.out.mono ?_
  rintro r w5 ⟨hb5, ⟨hn5, rfl⟩ | ⟨x5, u5, he5, rfl, hr5⟩⟩
  · have HF : Hid (brO (Pr.branchR t) = none) := by show _ = _; unfold Pr.branchR; simp only [HE2.out, HE3.out, HE4.out, hn5, Option.bind_none, Option.bind_some]; rfl
    have HB5 := hid (but_to_below HB4.out hb5 (by omega) (by omega))
    clear hb5 hn5
    unfold gaveUp
    go_wp2_with fail
    exact ⟨rfl, HB5.out, .inl ⟨HF.out, rfl⟩⟩
  have HE5 := hid he5
  have HB5 := hid (but_to_below HB4.out hb5 (by omega) (by omega))
  have HN5 := hid (HN4.out.but hb5 (by omega))
  have hs5 := hb5.size
  clear hb5 he5 hr5 HC4 HB4 HN4
  unfold nv
  go_wp2_with fail
  have HIS := hid (row_two w5 x4 x5)
  have BA := (Below.refl w5.heap.size w5).alloc (Nat.le_refl _) (.cells #[.int .i64 (x4 : Int), .int .i64 (x5 : Int)] 3)
  have HB6 := hid (HB5.out.trans (BA.mono (by omega)))
  have HN6 := hid (HN5.out.keep BA)
  have hs6 : w5.heap.size < (w5.alloc (.cells #[.int .i64 (x4 : Int), .int .i64 (x5 : Int)] 3)).heap.size := by simp
  clear BA HB5 HN5
  generalize w5.alloc (.cells #[.int .i64 (x4 : Int), .int .i64 (x5 : Int)] 3) = w6 at *
  refine (cutBody_any t _ [x4, x5] _ HIS.out (by simp)).mono ?_
  rintro r w7 ⟨hb7, ⟨hn7, rfl⟩ | ⟨sl, v7, he7, rfl, ho7⟩⟩
  · have HF : Hid (brO (Pr.branchR t) = none) := by show _ = _; unfold Pr.branchR; simp only [HE2.out, HE3.out, HE4.out, HE5.out, hn7, Option.bind_none, Option.bind_some]; rfl
    have HB7 := hid (HB6.out.trans (hb7.mono (by omega)))
    clear hb7 hn7
    unfold gaveUp
    go_wp2_with fail
    exact ⟨rfl, HB7.out, .inl ⟨HF.out, rfl⟩⟩
  have hsl : sl.length = 2 := by have := (Pr.cutR_is he7).2.2; have := congrArg List.length this; simpa [lists] using this
  obtain ⟨s0, s1, rfl⟩ := two_of hsl
  have HE7 : Hid (Pr.cutR t [x4, x5] = some [s0.data.toList, s1.data.toList]) := he7
  have HB7 := hid (HB6.out.trans (hb7.mono (by omega)))
  have HN7 := hid (HN6.out.keep hb7)
  have hs7 := hb7.size
  obtain ⟨g, cap, rfl, hg1, hg2, hg3⟩ := ho7.shape_pos (by simp)
  have c0 := ho7.cellAt 0 s0 rfl
  have c1 := ho7.cellAt 1 s1 rfl
  have HC1 := hid c1
  clear he7 hb7 ho7 hsl HIS HB6 HN6
  have BA := (Below.refl w7.heap.size w7).alloc (Nat.le_refl _) (.cells #[.int .i64 2, .slice none 0 0, .slice none 0 0, .slice none 0 0, .slice none 0 0] 79)
  have HX8 := hid BA
  have HM8 := hid (nodeB_new w7 (.int .i64 2) (.slice none 0 0) (.slice none 0 0) (.slice none 0 0) (.slice none 0 0))
  have hs8 : w7.heap.size < (w7.alloc (.cells #[.int .i64 2, .slice none 0 0, .slice none 0 0, .slice none 0 0, .slice none 0 0] 79)).heap.size := by simp
  clear BA c1
  go_wp2_with fail
  generalize w7.alloc (.cells #[.int .i64 2, .slice none 0 0, .slice none 0 0, .slice none 0 0, .slice none 0 0] 79) = w8 at *
  refine (sec_any 112 s0 _).mono ?_
  rintro r w9 ⟨rfl, hb9⟩
  have HX9 := hid (HX8.out.trans (hb9.mono (by omega)))
  have HM9 := hid (HM8.out.keep hb9)
  have hs9 := hb9.size
  clear hb9 HX8 HM8 c0
  rcases secR_end (Pr.secR 112 s0.data.toList) with ⟨hsn, hse⟩ | ⟨pc, hsn, hse⟩
  · have HF : Hid (brO (Pr.branchR t) = none) := by show _ = _; unfold Pr.branchR; simp only [HE2.out, HE3.out, HE4.out, HE5.out, HE7.out, Option.bind_none, Option.bind_some, List.getD_cons_zero, hsn]; rfl
    have HBF := hid (HB7.out.trans (HX9.out.mono (by omega)))
    rw [hse]
    clear hsn hse
    unfold gaveUp
    go_wp2_with fail
    exact ⟨rfl, HBF.out, .inl ⟨HF.out, rfl⟩⟩
  rw [hse]
  have HES := hid hsn
  have hpc := Pr.secR_len hsn
  clear hsn hse
  go_wp2_with fail
  refine (readChildren_any pc x3.toNat _ hx3 (by omega)).mono ?_
  rintro r w10 ⟨hb10, ⟨hn10, rfl⟩ | ⟨cl, pl, v1, v2, he10, rfl, hoc, hop, hcl, hpl⟩⟩
  · have HF : Hid (brO (Pr.branchR t) = none) := by show _ = _; unfold Pr.branchR; simp only [HE2.out, HE3.out, HE4.out, HE5.out, HE7.out, Option.bind_none, Option.bind_some, List.getD_cons_zero, HES.out, hn10]; rfl
    have HBF := hid (HB7.out.trans ((HX9.out.trans (hb10.mono (by omega))).mono (by omega)))
    clear hb10 hn10
    unfold gaveUp
    go_wp2_with fail
    exact ⟨rfl, HBF.out, .inl ⟨HF.out, rfl⟩⟩
  have HE10 := hid he10
  have HX10 := hid (HX9.out.trans (hb10.mono (by omega)))
  have HM10 := hid (HM9.out.keep hb10)
  have hs10 := hb10.size
  obtain ⟨ca, cc, rfl⟩ := rowShape hoc
  obtain ⟨pa, pq, rfl⟩ := hop.shape
  have HO11 := hid (row_set (row_set hoc (b := w7.heap.size) (i := 2) (by omega) (.slice ca cl.length cc)) (b := w7.heap.size) (i := 3) (by omega) (.slice pa pl.length pq))
  have HP11 := hid ((hop.setBelow (b := w7.heap.size) (i := 2) (by omega) (.slice ca cl.length cc)).setBelow (b := w7.heap.size) (i := 3) (by omega) (.slice pa pl.length pq))
  have HM11 := hid ((HM10.out.set2 (.slice ca cl.length cc)).set3 (.slice pa pl.length pq))
  have HX11 := hid ((HX10.out.setCell (p := ⟨w7.heap.size, 2, none⟩) (Nat.le_refl _) (.slice ca cl.length cc)).setCell (p := ⟨w7.heap.size, 3, none⟩) (Nat.le_refl _) (.slice pa pl.length pq))
  obtain ⟨-, -, m2, m3, -, -, -, z2, z3, -⟩ := HM10.out.cells
  have hs11 : ((w10.setCell ⟨w7.heap.size, 2, none⟩ (.slice ca cl.length cc)).setCell ⟨w7.heap.size, 3, none⟩ (.slice pa pl.length pq)).heap.size = w10.heap.size := by rw [setSize, setSize]
  have HS11 : Hid (w10.heap.size ≤ ((w10.setCell ⟨w7.heap.size, 2, none⟩ (.slice ca cl.length cc)).setCell ⟨w7.heap.size, 3, none⟩ (.slice pa pl.length pq)).heap.size) := Nat.le_of_eq hs11.symm
  have k10 := HX10.out.cell (p := ⟨g, 1, none⟩) hg2 |>.trans HC1.out
  have hne : ¬ g = w7.heap.size := by omega
  clear he10 hb10 hoc hop HX10 HM10 HX9 HM9 hs11
  go_wp2_with fail
  generalize (w10.setCell ⟨w7.heap.size, 2, none⟩ (.slice ca cl.length cc)).setCell ⟨w7.heap.size, 3, none⟩ (.slice pa pl.length pq) = w11 at *
  have hs11 := HS11.out
  refine (sec_any 109 s1 _).mono ?_
  rintro r w12 ⟨rfl, hb12⟩
  have HY12 := hid hb12
  have hs12 := hb12.size
  clear hb12 m2 m3 z2 z3 k10
  rcases secR_end (Pr.secR 109 s1.data.toList) with ⟨hsn, hse⟩ | ⟨mc, hsn, hse⟩
  · have HF : Hid (brO (Pr.branchR t) = none) := by show _ = _; unfold Pr.branchR; simp only [HE2.out, HE3.out, HE4.out, HE5.out, HE7.out, Option.bind_none, Option.bind_some, List.getD_cons_zero, List.getD_cons_succ, HES.out, HE10.out, hsn]; rfl
    have HBF := hid (HB7.out.trans ((HX11.out.trans (HY12.out.mono (by omega))).mono (by omega)))
    rw [hse]
    clear hsn hse
    unfold gaveUp
    go_wp2_with fail
    exact ⟨rfl, HBF.out, .inl ⟨HF.out, rfl⟩⟩
  rw [hse]
  have HEM := hid hsn
  have hmc := Pr.secR_len hsn
  clear hsn hse
  go_wp2_with fail
  refine (newReader_any mc _).mono ?_
  rintro r w13 ⟨rfl, rfl⟩
  have HR13 := hid (rd_new w12 mc)
  have HY13 := hid (HY12.out.alloc (by omega) (.cells #[.string ⟨mc.toArray⟩] 298))
  have hs13 : w12.heap.size < (w12.alloc (.cells #[.string ⟨mc.toArray⟩] 298)).heap.size := by simp
  generalize w12.alloc (.cells #[.string ⟨mc.toArray⟩] 298) = w13 at *
  generalize w12.heap.size = mb at *
  clear HY12
  have HC := hid (readChanges_any mb mc w13 HR13.out (by omega))
  go_wp2_with fail
  refine HC.out.mono ?_
  rintro r w14 ⟨hb14, ⟨hn14, rfl⟩ | ⟨ml, v4, u14, he14, rfl, hom, hml, hr14⟩⟩
  · have HF : Hid (brO (Pr.branchR t) = none) := by show _ = _; unfold Pr.branchR; simp only [HE2.out, HE3.out, HE4.out, HE5.out, HE7.out, Option.bind_none, Option.bind_some, List.getD_cons_zero, List.getD_cons_succ, HES.out, HE10.out, HEM.out, hn14]; rfl
    have HBF := hid (HB7.out.trans ((HX11.out.trans ((but_to_below HY13.out hb14 (by omega) (by omega)).mono (by omega))).mono (by omega)))
    clear hb14 hn14
    unfold gaveUp
    go_wp2_with fail
    exact ⟨rfl, HBF.out, .inl ⟨HF.out, rfl⟩⟩
  have HE14 : Hid (brO (Pr.branchR t) = if u14 = [] then some (2, plain [], cl, lists pl, plainCh ml) else none) := by
    show _ = _; unfold Pr.branchR; simp only [HE2.out, HE3.out, HE4.out, HE5.out, HE7.out, Option.bind_some, List.getD_cons_zero, List.getD_cons_succ, HES.out, HE10.out, HEM.out, he14]
    split <;> rfl
  have HY14 := hid (but_to_below HY13.out hb14 (by omega) (by omega))
  have hs14 := hb14.size
  obtain ⟨ma, mq, rfl⟩ := rowShape hom
  have HM14 := hid (HM11.out.below HY14.out (by omega))
  have HX14 := hid (HX11.out.trans (HY14.out.mono (by omega)))
  have HO15 := hid (row_set (row_below HO11.out HY14.out (Nat.le_refl _)) (b := w7.heap.size) (i := 4) (by omega) (.slice ma ml.length mq))
  have HP15 := hid (OwnsS.setBelow (HP11.out.below HY14.out (Nat.le_refl _)) (b := w7.heap.size) (i := 4) (by omega) (.slice ma ml.length mq))
  have HQ15 := hid (row_set hom (b := w7.heap.size) (i := 4) (by omega) (.slice ma ml.length mq))
  have HM15 := hid (HM14.out.set4 (.slice ma ml.length mq))
  have HX15 := hid (HX14.out.setCell (p := ⟨w7.heap.size, 4, none⟩) (Nat.le_refl _) (.slice ma ml.length mq))
  have HR15 := hid (hr14.setOther (c := w7.heap.size) (i := 4) (by omega) (.slice ma ml.length mq))
  have HS15 : Hid (w14.heap.size ≤ (w14.setCell ⟨w7.heap.size, 4, none⟩ (.slice ma ml.length mq)).heap.size) := Nat.le_of_eq (setSize _ _ _).symm
  obtain ⟨-, -, -, -, m4, -, -, -, -, z4⟩ := HM14.out.cells
  clear he14 hb14 hr14 hom HC HY13 HR13 HM14 HX14 HY14 HO11 HP11 HM11 HX11
  go_wp2_with fail
  generalize w14.setCell ⟨w7.heap.size, 4, none⟩ (.slice ma ml.length mq) = w15 at *
  have hs15 := HS15.out
  refine (rend_any mb u14 w15 HR15.out).mono ?_
  rintro r w16 ⟨rfl, rfl⟩
  clear m4 z4
  by_cases hu : u14 = []
  · rw [if_pos hu] at HE14 ⊢
    clear hu
    have HN16 := hid (HN7.out.below HX15.out (by omega))
    obtain ⟨r0, r1, r2, r3, r4, y0, y1, y2, y3, y4⟩ := HN16.out.cells
    obtain ⟨m0, m1, m2, m3, m4, -⟩ := HM15.out.cells
    have HBF := hid (below_put (HB7.out.trans (HX15.out.mono (by omega))) (Nat.le_refl _) (.int .i64 2) (.slice none 0 0) (.slice ca cl.length cc) (.slice pa pl.length pq) (.slice ma ml.length mq))
    have HNF := hid (HN16.out.put (.int .i64 2) (.slice none 0 0) (.slice ca cl.length cc) (.slice pa pl.length pq) (.slice ma ml.length mq))
    have HOF := hid (row_shrink (row_put HO15.out (b := w.heap.size) (by omega) (.int .i64 2) (.slice none 0 0) (.slice ca cl.length cc) (.slice pa pl.length pq) (.slice ma ml.length mq)) (C := w.heap.size) (by omega))
    have HPF := hid (row_shrink (row_put HP15.out (b := w.heap.size) (by omega) (.int .i64 2) (.slice none 0 0) (.slice ca cl.length cc) (.slice pa pl.length pq) (.slice ma ml.length mq)) (C := w.heap.size) (by omega))
    have HQF := hid (row_shrink (row_put HQ15.out (b := w.heap.size) (by omega) (.int .i64 2) (.slice none 0 0) (.slice ca cl.length cc) (.slice pa pl.length pq) (.slice ma ml.length mq)) (C := w.heap.size) (by omega))
    go_wp2_with fail
    refine bodyPost_ret (v := .agg #[.int .i64 2, .slice none 0 0, .slice ca cl.length cc, .slice pa pl.length pq, .slice ma ml.length mq]) ?_ rfl ⟨HBF.out, .inr ⟨2, [], cl, pl, ml, _, HE14.out, rfl, _, _, _, _, rfl, World.ownsRow_nil _ _ _ _, HOF.out, HPF.out, HQF.out, by simp, hcl, hpl, hml⟩⟩
    obtain ⟨q0, q1, q2, q3, q4⟩ := nodeB_result HNF.out
    unfold put5 at q0 q1 q2 q3 q4
    simp [results, Tryz.results200, go_sem, q0, q1, q2, q3, q4]
  · rw [if_neg hu] at HE14 ⊢
    clear hu
    have HBF := hid (HB7.out.trans (HX15.out.mono (by omega)))
    unfold gaveUp
    go_wp2_with fail
    exact ⟨rfl, HBF.out, .inl ⟨HE14.out, rfl⟩⟩
end Go.Proofs.YtolgpnaoaodepaaGreat
