/- The walks of pages' readChanges, readPivots, readChildren. -/
import Derived.Test.YtolgpnaoaodepaaWalkAE
import Derived.Test.YtolgpnaoaodepaaMathK
namespace Go.Proofs.Ytolgpnaoaodepaa
open Go.RowKit

def ChQ (b : Nat) (w : World) (o : Option (List (Int × List UInt8 × List UInt8) × List UInt8)) (r : Ending) (w' : World) : Prop := But b w w' ∧ ((o = none ∧ r = gaveUp) ∨ ∃ l v u, o = some (plainCh l, u) ∧ r = .returned v ∧ OwnsC w.heap.size w' v l ∧ l.length ≤ 255 ∧ Rd w' b u)
def PvQ (b : Nat) (w : World) (o : Option (List (List UInt8) × List UInt8)) (r : Ending) (w' : World) : Prop := But b w w' ∧ ((o = none ∧ r = gaveUp) ∨ ∃ l v u, o = some (lists l, u) ∧ r = .returned v ∧ OwnsS w.heap.size w' v l ∧ l.length ≤ 255 ∧ Rd w' b u)
theorem but_grown {b B : Nat} {w w' : World} {v : Value} {T : TypeId} {s n : Nat} {xs : List Value} (hb : But b w w') {w'' : World} (ho : w'.ownsRow B T s v n xs) (hB : w.heap.size ≤ B) (hg : w'.grownBy w'' v.ownBlock) : But b w w'' :=
  ⟨hg.os.trans hb.os, hg.tape.trans hb.tape, hg.output.trans hb.output, Nat.le_trans hb.size hg.size, fun k hk hr => (hg.block k (Nat.lt_of_lt_of_le hk hb.size) (fun e => by have := (World.ownsRow.lt ho k e.symm).1; omega)).trans (hb.block k hk hr)⟩
theorem but_alloc {b : Nat} {w w' : World} (h : But b w w') (o : Obj) : But b w (w'.alloc o) :=
  ⟨h.os, h.tape, h.output, by have := h.size; simp; omega, fun k hk hr => (Below.heap_alloc _ _ _ (by have := h.size; omega)).trans (h.block k hk hr)⟩

set_option maxHeartbeats 2000000 in
set_option maxRecDepth 20000 in
theorem readPivots_any (b n : Nat) (t : List UInt8) (w : World) (hr : Rd w b t) (hn : n ≤ 255) (ht : t.length ≤ 1000000) :
    Calls Try.prog 84 #[.pointer (some ⟨b, 0, none⟩), .int .i64 n] w fun r w' => PvQ b w (Pr.pivotsR (n - 1) t) r w' := by
  have hbw := hr.lt
  have HR0 := hid hr
  clear hr
  go_enter Try.func84, Try.ntmps84
  go_wp2_with fail
  go_loopw [5, 8] (fun y i wr => ∃ (k : Nat) (l : List ByteArray) (q : List UInt8), (k : Int) ≤ max 0 ((n : Int) - 1) ∧ i = .int .i64 k ∧ l.length ≤ k ∧ q.length ≤ t.length ∧ OwnsS w.heap.size wr y l ∧ Rd wr b q ∧ But b w wr ∧ (Pr.pivotsR (n - 1 - k) q).map (fun r => (lists l ++ r.1, r.2)) = Pr.pivotsR (n - 1) t) (fun _ i _ => n - (intOf i).toNat)
  case atStart => exact ⟨0, [], t, by omega, rfl, by simp, Nat.le_refl _, OwnsS.nil _ _, HR0.out, but_refl _ _, by simp [lists]⟩
  case round =>
    clear HR0
    obtain ⟨k, l, q, hk, rfl, hlk, hq, ho, hr, hb, heq⟩ := hrel
    have HO := hid ho
    have HR := hid hr
    have HB := hid hb
    have HEQ := hid heq
    have hsz := hb.size
    obtain ⟨ya, yc, rfl⟩ := ho.shape
    clear ho hr hb heq
    by_cases hkn : k + 1 < n
    · obtain ⟨m, hm⟩ : ∃ m, n - 1 - k = m + 1 := ⟨n - 1 - k - 1, by omega⟩
      have HMK : Hid (m = n - 1 - (k + 1)) := by show _ = _; omega
      have HNX : Hid (Pr.pivotsR (n - 1 - k) q = (Pr.textR q).bind fun x => (Pr.pivotsR m x.2).map fun r => (x.1 :: r.1, r.2)) := by show _ = _; rw [hm]; rfl
      clear hm
      have HC := hid (rtext_any b q wr HR.out (by omega))
      have hd : (k : Int) < (n : Int) - 1 := by omega
      go_wp2_with fail
      refine HC.out.mono ?_
      rintro r w2 ⟨hb2, ⟨hn2, rfl⟩ | ⟨x, q2, hs2, rfl, hr2⟩⟩
      · have HF : Hid (Pr.pivotsR (n - 1) t = none) := by show _ = _; rw [← HEQ.out, HNX.out, hn2]; rfl
        have HB2 := hid (but_trans HB.out hb2)
        clear hb2 hn2
        unfold gaveUp
        go_wp2_with fail
        exact ⟨rfl, HB2.out, .inl ⟨HF.out, rfl⟩⟩
      · have hxl := Pr.textR_len hs2
        have HG : Hid ((Pr.pivotsR (n - 1 - (k + 1)) q2).map (fun r => (lists (l ++ [⟨x.toArray⟩]) ++ r.1, r.2)) = Pr.pivotsR (n - 1) t) := by
          show _ = _; rw [← HEQ.out, HNX.out, hs2, ← HMK.out]
          simp only [Option.bind_some, Option.map_map]
          congr 1
          funext r
          simp [lists]
        have HB2 := hid (but_trans HB.out hb2)
        have HR2 := hid hr2
        have HO2 : Hid (OwnsS w.heap.size w2 (.slice ya l.length yc) l) := row_but HO.out hb2 (by omega)
        have hs2' := hb2.size
        clear hb2 hs2 hr2 HC
        unfold sv
        go_wp2_with (first
          | (at_builtin; refine wpApT w2 rfl (.tmp 10) (.tmp 13) rfl w.heap.size (.slice ya l.length yc) l rfl HO2.out ⟨x.toArray⟩ rfl (by omega) (by omega) ?_))
        intro v3 w3 ho3 hg3 hat3
        have HO3 := hid ho3
        have HR3 := hid (HR2.out.grown hg3 (fun e => by have := (World.ownsRow.lt HO2.out _ e.symm).1; omega))
        have HB3 := hid (but_grown HB2.out HO2.out (Nat.le_refl _) hg3)
        obtain ⟨ya', yc', rfl⟩ := ho3.shape
        clear ho3 hg3 hat3
        go_wp2_with fail
        go_roundw
        case rel => exact ⟨k + 1, _, q2, by omega, by go_num, by rw [List.length_append]; simp; omega, by omega, HO3.out, HR3.out, HB3.out, HG.out⟩
        case measure => simp [intOf]; omega
    · have HE1 : Hid (Pr.pivotsR (n - 1) t = some (lists l, q)) := by
        show _ = _; rw [← HEQ.out, show n - 1 - k = 0 by omega]; simp [Pr.pivotsR]
      have hd : ¬ (k : Int) < (n : Int) - 1 := by omega
      go_wp2_with fail
      go_ret
      exact ⟨HB.out, .inr ⟨l, _, q, HE1.out, rfl, HO.out, by omega, HR.out⟩⟩

theorem plainCh_snoc2 (l : List (Int × ByteArray × ByteArray)) (x : Int × ByteArray × ByteArray) : plainCh (l ++ [x]) = plainCh l ++ [(x.1, x.2.1.data.toList, x.2.2.data.toList)] := by simp [plainCh]
set_option maxHeartbeats 4000000 in
set_option maxRecDepth 20000 in
theorem readChanges_any (b : Nat) (t : List UInt8) (w : World) (hr : Rd w b t) (ht : t.length ≤ 1000000) :
    Calls Try.prog 80 #[.pointer (some ⟨b, 0, none⟩)] w fun r w' => ChQ b w (Pr.chgsR t) r w' := by
  have hbw := hr.lt
  have HC := hid (rbyte_any b t w hr)
  clear hr
  go_enter Try.func80, Try.ntmps80
  go_wp2_with fail
  refine HC.out.mono ?_
  rintro r w1 ⟨hb1, ⟨hn, rfl⟩ | ⟨bn, t1, hs1, rfl, hr1⟩⟩
  · have HT : Hid (Pr.chgsR t = none) := by show _ = _; unfold Pr.chgsR; rw [hn]; rfl
    have HB := hid hb1
    clear hb1 hn
    unfold gaveUp
    go_wp2_with fail
    exact ⟨rfl, HB.out, .inl ⟨HT.out, rfl⟩⟩
  have HT1 : Hid (Pr.chgsR t = Pr.changesR bn.toNat t1) := by show _ = _; unfold Pr.chgsR; rw [hs1]; rfl
  have ht1 : t1.length ≤ t.length := by rw [Pr.byteR_len hs1]; simp
  have HB1 := hid hb1
  have HR1 := hid hr1
  have hz1 := hb1.size
  have hbn : bn.toNat < 256 := bn.toNat_lt
  clear hb1 hs1 hr1 HC
  unfold bv
  generalize bn.toNat = n at *
  go_wp2_with fail
  go_loopw [3, 7] (fun y i wr => ∃ (k : Nat) (l : List (Int × ByteArray × ByteArray)) (q : List UInt8), k ≤ n ∧ i = .int .u8 k ∧ l.length ≤ k ∧ q.length ≤ t.length ∧ OwnsC w.heap.size wr y l ∧ Rd wr b q ∧ But b w wr ∧ (Pr.changesR (n - k) q).map (fun r => (plainCh l ++ r.1, r.2)) = Pr.changesR n t1) (fun _ i _ => n - (intOf i).toNat)
  case atStart => exact ⟨0, [], t1, Nat.zero_le _, rfl, by simp, ht1, World.ownsRow_nil _ _ _ _, HR1.out, HB1.out, by simp [plainCh]⟩
  case round =>
    clear HR1 HB1 hz1
    obtain ⟨k, l, q, hk, rfl, hlk, hq, ho, hr, hb, heq⟩ := hrel
    have HO := hid ho
    have HR := hid hr
    have HB := hid hb
    have HEQ := hid heq
    have hsz := hb.size
    obtain ⟨ya, yc, rfl⟩ := rowShape ho
    clear ho hr hb heq
    by_cases hkn : k < n
    · obtain ⟨m, hm⟩ : ∃ m, n - k = m + 1 := ⟨n - k - 1, by omega⟩
      have HMK : Hid (m = n - (k + 1)) := by show _ = _; omega
      have HNX : Hid (Pr.changesR (n - k) q = (Pr.byteR q).bind fun b => (Pr.textR b.2).bind fun k => if b.1.toNat = 2 then (Pr.changesR m k.2).map fun r => (((2 : Int), k.1, []) :: r.1, r.2) else (Pr.textR k.2).bind fun v => (Pr.changesR m v.2).map fun r => (((b.1.toNat : Int), k.1, v.1) :: r.1, r.2)) := by show _ = _; rw [hm]; rfl
      clear hm
      have HC := hid (rbyte_any b q wr HR.out)
      go_wp2_with fail
      refine HC.out.mono ?_
      rintro r w2 ⟨hb2, ⟨hn2, rfl⟩ | ⟨kb, q2, hs2, rfl, hr2⟩⟩
      · have HF : Hid (Pr.chgsR t = none) := by show _ = _; rw [HT1.out, ← HEQ.out, HNX.out, hn2]; rfl
        have HB2 := hid (but_trans HB.out hb2)
        clear hb2 hn2
        unfold gaveUp
        go_wp2_with fail
        exact ⟨rfl, HB2.out, .inl ⟨HF.out, rfl⟩⟩
      have HN2 : Hid (Pr.changesR (n - k) q = (Pr.textR q2).bind fun x => if kb.toNat = 2 then (Pr.changesR m x.2).map fun r => (((2 : Int), x.1, []) :: r.1, r.2) else (Pr.textR x.2).bind fun v => (Pr.changesR m v.2).map fun r => (((kb.toNat : Int), x.1, v.1) :: r.1, r.2)) := by show _ = _; rw [HNX.out, hs2]; rfl
      have hq2 : q2.length ≤ t.length := by have := Pr.byteR_len hs2; rw [this] at hq; simp at hq; omega
      have HB2 := hid (but_trans HB.out hb2)
      have HO2 : Hid (OwnsC w.heap.size w2 (.slice ya l.length yc) l) := row_but HO.out hb2 (by omega)
      have hkb : kb.toNat < 256 := kb.toNat_lt
      have HC2 := hid (rtext_any b q2 w2 hr2 (by omega))
      clear hb2 hs2 hr2 HC HNX HO HB
      unfold bv
      generalize kb.toNat = kn at *
      go_wp2_with fail
      refine HC2.out.mono ?_
      rintro r w3 ⟨hb3, ⟨hn3, rfl⟩ | ⟨x, q3, hs3, rfl, hr3⟩⟩
      · have HF : Hid (Pr.chgsR t = none) := by show _ = _; rw [HT1.out, ← HEQ.out, HN2.out, hn3]; rfl
        have HB3 := hid (but_trans HB2.out hb3)
        clear hb3 hn3
        unfold gaveUp
        go_wp2_with fail
        exact ⟨rfl, HB3.out, .inl ⟨HF.out, rfl⟩⟩
      have HN3 : Hid (Pr.changesR (n - k) q = if kn = 2 then (Pr.changesR m q3).map fun r => (((2 : Int), x, []) :: r.1, r.2) else (Pr.textR q3).bind fun v => (Pr.changesR m v.2).map fun r => (((kn : Int), x, v.1) :: r.1, r.2)) := by show _ = _; rw [HN2.out, hs3]; rfl
      have hxl := Pr.textR_len hs3
      have HB3 := hid (but_trans HB2.out hb3)
      have HO3 : Hid (OwnsC w.heap.size w3 (.slice ya l.length yc) l) := row_but HO2.out hb3 (by omega)
      have HR3 := hid hr3
      have hs3' := HB3.out.size
      clear hb3 hs3 hr3 HC2 HN2 HO2 HB2
      unfold sv
      have HB4 := hid (but_alloc HB3.out (.cells #[.int .i64 (kn : Int), .string ⟨x.toArray⟩, .string ⟨#[]⟩] 52))
      have HO4 : Hid (OwnsC w.heap.size (w3.alloc (.cells #[.int .i64 (kn : Int), .string ⟨x.toArray⟩, .string ⟨#[]⟩] 52)) (.slice ya l.length yc) l) := World.ownsRow.alloc HO3.out _
      have HR4 := hid (HR3.out.below ((Below.refl w3.heap.size w3).alloc (Nat.le_refl _) (.cells #[.int .i64 (kn : Int), .string ⟨x.toArray⟩, .string ⟨#[]⟩] 52)) HR3.out.lt)
      have HX4 : Hid ((w3.alloc (.cells #[.int .i64 (kn : Int), .string ⟨x.toArray⟩, .string ⟨#[]⟩] 52)).heap[w3.heap.size]? = some (.cells #[.int .i64 (kn : Int), .string ⟨x.toArray⟩, .string ⟨#[]⟩] 52 (0, 0))) := heap_alloc_new _ _
      have hs4 : w3.heap.size < (w3.alloc (.cells #[.int .i64 (kn : Int), .string ⟨x.toArray⟩, .string ⟨#[]⟩] 52)).heap.size := by simp
      have hxb : b < w3.heap.size := HR3.out.lt
      have HN5 := hid (own_lt HO3.out (Nat.le_refl w3.heap.size))
      by_cases hk2 : kn = 2
      · rw [if_pos hk2] at HN3
        have hne : ((kn : Int) == 2) = true := by simp; omega
        have HKN : Hid ((kn : Int) = 2) := by show _ = _; omega
        clear hk2
        go_wp2_with (first
          | (at_builtin; refine wpApG (w3.alloc (.cells #[.int .i64 (kn : Int), .string ⟨x.toArray⟩, .string ⟨#[]⟩] 52)) rfl (.tmp 21) (.tmp 23) 32 52 Try.underlying32 _ 3 40 info_change rfl (by decide) (by decide) rfl w.heap.size (.slice ya l.length yc) l.length (ccells l) rfl HO4.out [.int .i64 (kn : Int), .string ⟨x.toArray⟩, .string ⟨#[]⟩] rfl (one3 _ _ _) (by simp [Act.eval]) (by omega) (by omega) ?_))
        intro v6 w6 ho6 hg6 hat6
        have HO6 : Hid (OwnsC w.heap.size w6 v6 (l ++ [((kn : Int), ⟨x.toArray⟩, ⟨#[]⟩)])) := by
          show OwnsC _ _ _ _; unfold OwnsC; rw [List.length_append, ccells_snoc]; exact ho6
        have HR6 := hid (HR4.out.grown hg6 (fun e => by have := (World.ownsRow.lt HO4.out _ e.symm).1; omega))
        have HB6 := hid (but_grown HB4.out HO4.out (Nat.le_refl _) hg6)
        have HG : Hid ((Pr.changesR (n - (k + 1)) q3).map (fun r => (plainCh (l ++ [((kn : Int), ⟨x.toArray⟩, ⟨#[]⟩)]) ++ r.1, r.2)) = Pr.changesR n t1) := by
          show _ = _; rw [← HEQ.out, HN3.out, ← HMK.out, plainCh_snoc2, HKN.out]
          simp only [Option.map_map]
          congr 1
          funext r
          simp
        obtain ⟨ya', yc', rfl⟩ := rowShape ho6
        clear ho6 hg6 hat6
        go_wp2_with fail
        go_roundw
        case rel => exact ⟨k + 1, _, q3, by omega, by go_num, by rw [List.length_append]; simp; omega, by omega, HO6.out, HR6.out, HB6.out, HG.out⟩
        case measure => simp [intOf]; omega
      · rw [if_neg hk2] at HN3
        have hne : ((kn : Int) == 2) = false := by simp; omega
        clear hk2
        go_wp2_with fail
        generalize w3.alloc (.cells #[.int .i64 (kn : Int), .string ⟨x.toArray⟩, .string ⟨#[]⟩] 52) = w4 at *
        generalize w3.heap.size = xb at *
        have HC3 := hid (rtext_any b q3 w4 HR4.out (by omega))
        refine HC3.out.mono ?_
        rintro r w5 ⟨hb5, ⟨hn5, rfl⟩ | ⟨v, q5, hs5, rfl, hr5⟩⟩
        · have HF : Hid (Pr.chgsR t = none) := by show _ = _; rw [HT1.out, ← HEQ.out, HN3.out, hn5]; rfl
          have HB5 := hid (but_trans HB4.out hb5)
          clear hb5 hn5
          unfold gaveUp
          go_wp2_with fail
          exact ⟨rfl, HB5.out, .inl ⟨HF.out, rfl⟩⟩
        · have hvl := Pr.textR_len hs5
          have HG : Hid ((Pr.changesR (n - (k + 1)) q5).map (fun r => (plainCh (l ++ [((kn : Int), ⟨x.toArray⟩, ⟨v.toArray⟩)]) ++ r.1, r.2)) = Pr.changesR n t1) := by
            show _ = _; rw [← HEQ.out, HN3.out, hs5, ← HMK.out, plainCh_snoc2]
            simp only [Option.bind_some, Option.map_map]
            congr 1
            funext r
            simp
          have HB5 := hid (but_trans HB4.out hb5)
          have HX5 := hid ((hb5.block xb (by omega) (by simp; omega)).trans HX4.out)
          have HO5 : Hid (OwnsC w.heap.size w5 (.slice ya l.length yc) l) := row_but HO4.out hb5 (by omega)
          have HR5 := hid hr5
          have hs5' := HB5.out.size
          have hsx := hb5.size
          have x0 : w5.cell? ⟨xb, 0, none⟩ = some (.int .i64 (kn : Int)) := by unfold World.cell?; rw [HX5.out]; rfl
          have x1 : w5.cell? ⟨xb, 1, none⟩ = some (.string ⟨x.toArray⟩) := by unfold World.cell?; rw [HX5.out]; rfl
          have x2 : w5.cell? ⟨xb, 2, none⟩ = some (.string ⟨#[]⟩) := by unfold World.cell?; rw [HX5.out]; rfl
          have xz : w5.frozen? ⟨xb, 2, none⟩ = false := by unfold World.frozen?; rw [HX5.out]; rfl
          have HXS := hid (heap_setCell_at (i := 2) HX5.out (.string ⟨v.toArray⟩))
          have HOS : Hid (OwnsC w.heap.size (w5.setCell ⟨xb, 2, none⟩ (.string ⟨v.toArray⟩)) (.slice ya l.length yc) l) := World.ownsRow.kept HO5.out (but_set xb 2 w5 _) (.inr (fun e => HN5.out e))
          have HRS := hid (HR5.out.setOther (c := xb) (i := 2) (by omega) (.string ⟨v.toArray⟩))
          have HBS : Hid (But b w (w5.setCell ⟨xb, 2, none⟩ (.string ⟨v.toArray⟩))) := ⟨HB5.out.os, HB5.out.tape, HB5.out.output, by simp [World.setCell]; exact hs5', fun j hj hr => (Below.heap_setCell _ _ _ _ (by simp; omega)).trans (HB5.out.block j hj hr)⟩
          have hsz5 : (w5.setCell ⟨xb, 2, none⟩ (.string ⟨v.toArray⟩)).heap.size = w5.heap.size := by simp [World.setCell]
          have HSZ5 := hid hsz5
          clear hb5 hs5 hr5 HC3 hsz5
          unfold sv
          go_wp2_with (first
            | (at_builtin; refine wpApG (w5.setCell ⟨xb, 2, none⟩ (.string ⟨v.toArray⟩)) rfl (.tmp 21) (.tmp 23) 32 52 Try.underlying32 _ 3 40 info_change rfl (by decide) (by decide) rfl w.heap.size (.slice ya l.length yc) l.length (ccells l) rfl HOS.out [.int .i64 (kn : Int), .string ⟨x.toArray⟩, .string ⟨v.toArray⟩] rfl (one3 _ _ _) (by rw [HSZ5.out]; rfl) (by omega) (by rw [HSZ5.out]; exact hs5') ?_))
          intro v6 w6 ho6 hg6 hat6
          have HO6 : Hid (OwnsC w.heap.size w6 v6 (l ++ [((kn : Int), ⟨x.toArray⟩, ⟨v.toArray⟩)])) := by
            show OwnsC _ _ _ _; unfold OwnsC; rw [List.length_append, ccells_snoc]; exact ho6
          have HR6 := hid (HRS.out.grown hg6 (fun e => by have := (World.ownsRow.lt HOS.out _ e.symm).1; omega))
          have HB6 := hid (but_grown HBS.out HOS.out (Nat.le_refl _) hg6)
          obtain ⟨ya', yc', rfl⟩ := rowShape ho6
          clear ho6 hg6 hat6
          go_wp2_with fail
          go_roundw
          case rel => exact ⟨k + 1, _, q5, by omega, by go_num, by rw [List.length_append]; simp; omega, by omega, HO6.out, HR6.out, HB6.out, HG.out⟩
          case measure => simp [intOf]; omega
    · have HE1 : Hid (Pr.chgsR t = some (plainCh l, q)) := by
        show _ = _; rw [HT1.out, ← HEQ.out, show n - k = 0 by omega]; simp [Pr.changesR]
      go_wp2_with fail
      go_ret
      exact ⟨HB.out, .inr ⟨l, _, q, HE1.out, rfl, HO.out, by omega, HR.out⟩⟩
end Go.Proofs.Ytolgpnaoaodepaa
