/- Plain mathematics: a basement's items, as the reference reads them. -/
import Derived.Test.YtolgpnaoaodepaaGreatMathMm
import Derived.Test.YtolgpnaoaodepaaGreatRefOm
import Derived.Deep.DeepCutAuto
namespace Go.Proofs.YtolgpnaoaodepaaGreat.Pg
open Pr
theorem take_le (c : Cur) (n : Nat) : (c.take n).1.length ≤ n := by
  unfold Cur.take; split
  · rw [List.length_take]; omega
  · split
    · simp
    · simp
theorem text_le2 (c : Cur) (most : Nat) : (c.text most).1.length ≤ most := by
  unfold Cur.text; split
  · simp
  · have := take_le c.number.2 c.number.1; omega
theorem content_le (kind s : List UInt8) : (content kind s).1.length ≤ 66 * s.length := by
  have ht : (secT s).1.length ≤ s.length := text_le2 _ _
  by_cases hq : (secE s).2.ends = false ∨ (secA s).1 ≠ kind ∨ 1 < high (secB s).1
  · rw [content_no hq]; simp
  · by_cases h1 : high (secB s).1 = 1
    · cases hs : Sq.spread (secT s).1 with
      | none => rw [content_none hq h1 hs]; simp
      | some u =>
        by_cases hl : u.length = (secN s).1
        · rw [content_some hq h1 hs hl]
          have : u.length ≤ 66 * (secT s).1.length := by
            unfold Sq.spread at hs
            split at hs
            · rename_i t ht'
              have := Sq.decode_le _ _ _ ht'
              split at hs
              · simp at hs; subst hs; simpa using this
              · simp at hs
            · simp at hs
          simp only; omega
        · rw [content_long hq h1 hs hl]; simp
    · rw [content_plain hq h1]; simp only; omega
/-- The last key of items. -/
def lastK (l : Its) : List UInt8 := (l.map (·.1)).getD (l.length - 1) []
theorem lastK_snoc (l : Its) (k v : List UInt8) : lastK (l ++ [(k, v)]) = k := by
  unfold lastK
  rw [List.length_append, List.map_append, List.length_singleton, Nat.add_sub_cancel, List.getD_eq_getElem?_getD, List.getElem?_append_right (by simp)]
  simp
/-- While items are read: if there are any that this is written of, all is as it should be. -/
def ItCan (ks : List (List UInt8)) (i : Nat) (sec : List UInt8) (n k : Nat) (il : Its) (ck : Cur) : Prop := ∀ l0, basementR ks i sec = some l0 → n = l0.length ∧ il = l0.take k ∧ ck = ⟨items (lastK il) (l0.drop k), false⟩
theorem can_content {ks : List (List UInt8)} {i : Nat} {sec : List UInt8} {l0 : Its} (h : basementR ks i sec = some l0) : content [98] sec = (basement l0, true) := by
  obtain ⟨h1, h2⟩ := basementR_is h
  obtain ⟨a1, a2, a3⟩ := basOk_fine h2
  have hk : ∀ x ∈ l0, x.1.length ≤ 12 ∧ x.2.length ≤ 16 := fun x hx => ⟨isKey_le (a3.1 x hx).1, (a3.1 x hx).2⟩
  have hl := basement_len l0 hk
  rw [h1]; exact content_section 98 _ (by omega)
theorem can_start {ks : List (List UInt8)} {i : Nat} {sec : List UInt8} (c : Cur) (hc : c = ⟨(content [98] sec).1, false⟩) : ItCan ks i sec c.byte 0 [] (c.take 1).2 := by
  intro l0 h
  obtain ⟨h1, h2⟩ := basementR_is h
  obtain ⟨a1, a2, a3⟩ := basOk_fine h2
  have e : c = ⟨UInt8.ofNat (l0.length % 256) :: items [] l0, false⟩ := by rw [hc, can_content h]; unfold basement; simp [low]
  have hb : (UInt8.ofNat (l0.length % 256)).toNat = l0.length := by rw [UInt8.toNat_ofNat']; omega
  refine ⟨?_, by simp, ?_⟩
  · unfold Cur.byte; rw [e, cur_byte, high_one, hb]
  · rw [e, cur_byte]; rfl
theorem can_next {ks : List (List UInt8)} {i : Nat} {sec : List UInt8} {n k : Nat} {il : Its} {ck : Cur} (h : ItCan ks i sec n k il ck) (hk : k < n) (hil : il.length = k) :
    ItCan ks i sec n (k + 1) (il ++ [((lastK il).take ck.byte ++ ((ck.take 1).2.text 12).1, (((ck.take 1).2.text 12).2.text 16).1)]) (((ck.take 1).2.text 12).2.text 16).2 ∧
    (basementR ks i sec ≠ none → ck.byte ≤ (lastK il).length ∧ isKey ((lastK il).take ck.byte ++ ((ck.take 1).2.text 12).1).length = true ∧ (0 < k → lastK il < (lastK il).take ck.byte ++ ((ck.take 1).2.text 12).1)) := by
  have key : ∀ l0, basementR ks i sec = some l0 → ∃ x, l0.drop k = x :: l0.drop (k + 1) ∧ n = l0.length ∧ il = l0.take k ∧ Fine l0 ∧ ck.byte ≤ (lastK il).length ∧ (lastK il).take ck.byte ++ ((ck.take 1).2.text 12).1 = x.1 ∧ (((ck.take 1).2.text 12).2.text 16).1 = x.2 ∧ (((ck.take 1).2.text 12).2.text 16).2 = ⟨items x.1 (l0.drop (k + 1)), false⟩ := by
    intro l0 h0
    obtain ⟨e1, e2, e3⟩ := h l0 h0
    obtain ⟨h1, h2⟩ := basementR_is h0
    obtain ⟨a1, a2, a3⟩ := basOk_fine h2
    have hkl : k < l0.length := by omega
    have hd : l0.drop k = l0[k] :: l0.drop (k + 1) := List.drop_eq_getElem_cons hkl
    have hx := a3.1 l0[k] (List.getElem_mem hkl)
    have hx1 := isKey_le hx.1
    refine ⟨l0[k], hd, e1, e2, a3, ?_⟩
    rw [hd] at e3
    generalize l0[k] = x at *
    obtain ⟨kx, vx⟩ := x
    simp only at hx hx1 ⊢
    have hc := common_le (lastK il) kx
    have hct := common_take (lastK il) kx
    generalize hcm : common (lastK il) kx = c at *
    have e4 : ck = ⟨UInt8.ofNat (c % 256) :: (text (kx.drop c) ++ (text vx ++ items kx (l0.drop (k + 1)))), false⟩ := by
      rw [e3, items, hcm]; simp [low]
    have hb : (UInt8.ofNat (c % 256)).toNat = c := by rw [UInt8.toNat_ofNat']; omega
    have b1 : ck.byte = c := by unfold Cur.byte; rw [e4, cur_byte, high_one, hb]
    have b2 : (ck.take 1).2 = ⟨text (kx.drop c) ++ (text vx ++ items kx (l0.drop (k + 1))), false⟩ := by rw [e4, cur_byte]
    have hdl : (kx.drop c).length ≤ 12 := by rw [List.length_drop]; omega
    rw [b1, b2, cur_text _ _ 12 hdl (by omega)]
    simp only
    rw [cur_text _ _ 16 hx.2 (by omega)]
    exact ⟨hc.1, hct, rfl, rfl⟩
  constructor
  · intro l0 h0
    obtain ⟨x, hd, e1, e2, e3, e4, e5, e6, e7⟩ := key l0 h0
    refine ⟨e1, ?_, ?_⟩
    · rw [e5, e6, e2, List.take_add_one]
      have : l0[k]? = some x := by rw [← List.head?_drop, hd]; rfl
      rw [this]; rfl
    · rw [e5, e6, e7, lastK_snoc]
  · intro hne
    cases h0 : basementR ks i sec with
    | none => exact absurd h0 hne
    | some l0 =>
      obtain ⟨x, hd, e1, e2, e3, e4, e5, e6, e7⟩ := key l0 h0
      have hxm : x ∈ l0 := List.mem_of_mem_drop (i := k) (by rw [hd]; simp)
      refine ⟨e4, by rw [e5]; exact (e3.1 x hxm).1, fun hk0 => ?_⟩
      rw [e5]
      have hne : il ≠ [] := fun e => by rw [e] at hil; simp at hil; omega
      obtain ⟨y, hy, hyk⟩ := last_mem hne
      have : lastK il = y.1 := hyk.symm
      rw [this]
      have hp := e3.2
      rw [← List.take_append_drop k l0, List.pairwise_append] at hp
      exact hp.2.2 y (by rw [← e2]; exact hy) x (by rw [hd]; simp)
/-- What may not be, behind the items. -/
def itBad (ok ends : Bool) (n : Nat) (ks : List (List UInt8)) (i : Nat) (il : Its) : Bool :=
  !ok || !ends || decide (n < 1) || decide (4 < n) || decide ((il.map (·.1)).getD 0 [] ≠ ks.getD i []) || (decide (i + 1 < ks.length) && !decide (lastK il < ks.getD (i + 1) []))
theorem can_bad {ks : List (List UInt8)} {i : Nat} {sec : List UInt8} {n k : Nat} {il : Its} {ck : Cur} (h : ItCan ks i sec n k il ck) (hk : k < n → k < 5 → ck.bad = true) (hk5 : k ≤ 5) (hkn : k ≤ n) : basementR ks i sec ≠ none → itBad (content [98] sec).2 ck.ends n ks i il = false := by
  intro hne
  cases h0 : basementR ks i sec with
  | none => exact absurd h0 hne
  | some l0 =>
    obtain ⟨e1, e2, e3⟩ := h l0 h0
    obtain ⟨h1, h2⟩ := basementR_is h0
    obtain ⟨a1, a2, a3⟩ := basOk_fine h2
    have hkl : k = l0.length := by
      rcases Nat.lt_or_ge k n with hlt | hge
      · have := hk hlt (by omega)
        rw [e3] at this; simp at this
      · omega
    have hil : il = l0 := by rw [e2, hkl, List.take_length]
    have hck : ck = ⟨[], false⟩ := by rw [e3, hkl, List.drop_length, items]
    unfold basOk at h2
    simp only [Bool.and_eq_true, decide_eq_true_eq, Bool.or_eq_true, Bool.not_eq_true', decide_eq_false_iff_not] at h2
    unfold itBad
    rw [can_content h0, hck, hil, decide_eq_false (by omega : ¬ n < 1), decide_eq_false (by omega : ¬ 4 < n), h2.1.2]
    simp only [Cur.ends, List.isEmpty_nil, Bool.not_true, Bool.not_false, Bool.and_self, Bool.false_or, ne_eq, not_true, decide_false]
    unfold lastK
    rcases h2.2 with h3 | h3
    · rw [decide_eq_false h3]; rfl
    · rw [decide_eq_true h3]; simp
theorem can_end {ks : List (List UInt8)} {i : Nat} {sec : List UInt8} {n : Nat} {il : Its} {ck : Cur} (hil : il.length = n) (hf : Fine il) (hb : itBad (content [98] sec).2 ck.ends n ks i il = false) (he : basement il = (content [98] sec).1) : basementR ks i sec = some il := by
  unfold itBad at hb
  simp only [Bool.or_eq_false_iff, Bool.not_eq_false', decide_eq_false_iff_not, Bool.and_eq_false_iff] at hb
  obtain ⟨⟨⟨⟨⟨h1, h2⟩, h3⟩, h4⟩, h5⟩, h6⟩ := hb
  have h5 : (il.map (·.1)).getD 0 [] = ks.getD i [] := Classical.byContradiction h5
  refine basementR_of (by rw [he, content_ok h1]) ?_
  unfold basOk
  rw [decide_eq_true (by omega : 1 ≤ il.length), decide_eq_true (by omega : il.length ≤ 4), (ok_fine il).2 hf, h5]
  simp only [decide_true, Bool.true_and, Bool.and_true]
  rcases h6 with h6 | h6
  · rw [decide_eq_false h6]; rfl
  · have : lastK il < ks.getD (i + 1) [] := by simpa using h6
    unfold lastK at this
    rw [decide_eq_true this]; simp
theorem can_not {ks : List (List UInt8)} {i : Nat} {sec : List UInt8} {n k : Nat} {il : Its} {ck : Cur} (h : ItCan ks i sec n k il ck) (hk : k < n → k < 5 → ck.bad = true) (hk5 : k ≤ 5) (hkn : k ≤ n) (he : basement il ≠ (content [98] sec).1) : basementR ks i sec = none := by
  cases h0 : basementR ks i sec with
  | none => rfl
  | some l0 =>
    exfalso
    obtain ⟨e1, e2, e3⟩ := h l0 h0
    obtain ⟨h1, h2⟩ := basementR_is h0
    obtain ⟨a1, a2, a3⟩ := basOk_fine h2
    have hkl : k = l0.length := by
      rcases Nat.lt_or_ge k n with hlt | hge
      · have := hk hlt (by omega)
        rw [e3] at this; simp at this
      · omega
    apply he
    rw [can_content h0, e2, hkl, List.take_length]
end Go.Proofs.YtolgpnaoaodepaaGreat.Pg
/- The walk of a head's items. -/
namespace Go.Proofs.YtolgpnaoaodepaaGreat
open Go.RowKit

/-- What a head's items end in. -/
def ItemsE (w : World) (ks : List (List UInt8)) (i : Nat) (sec : List UInt8) (r : Ending) (w' : World) : Prop :=
  Below w.heap.size w w' ∧ ∃ l v b, r = .returned (.tuple #[v, .bool b]) ∧ OwnsI w.heap.size w' v l ∧ l.length ≤ 5 ∧ (b = true → Pr.basementR ks i sec = some (plain l)) ∧ (b = false → Pr.basementR ks i sec = none)
theorem itemsE_nil {w w' : World} {ks : List (List UInt8)} {i : Nat} {sec : List UInt8} (hb : Below w.heap.size w w') (h : Pr.basementR ks i sec = none) : ItemsE w ks i sec (.returned (.tuple #[.slice none 0 0, .bool false])) w' :=
  ⟨hb, [], _, false, rfl, World.ownsRow_nil _ _ _ _, by simp, (nomatch ·), fun _ => h⟩
theorem none_of {α : Type} {o : Option α} {p : Prop} (h : o ≠ none → p) (hp : ¬ p) : o = none := by
  cases o with
  | none => rfl
  | some x => exact absurd (h (by simp)) hp
theorem fine_snoc {l : Pr.Its} {k v : List UInt8} (hf : Pr.Fine l) (h1 : Pg.isKey k.length = true) (h2 : v.length ≤ 16) (h3 : ∀ y ∈ l, y.1 < k) : Pr.Fine (l ++ [(k, v)]) := by
  refine ⟨fun y hy => ?_, ?_⟩
  · rcases List.mem_append.1 hy with h | h
    · exact hf.1 y h
    · rw [List.mem_singleton.1 h]; exact ⟨h1, h2⟩
  · rw [List.pairwise_append]
    refine ⟨hf.2, List.pairwise_singleton _ _, fun a ha b hb => ?_⟩
    rw [List.mem_singleton.1 hb]; exact h3 a ha
theorem Pg.le_last_lt {l : Pr.Its} (hf : Pr.Fine l) {y : List UInt8 × List UInt8} (hy : y ∈ l) {k : List UInt8} (h : Pg.lastK l < k) : y.1 < k := by
  have hne : l ≠ [] := fun e => by rw [e] at hy; simp at hy
  obtain ⟨r, z, rfl⟩ : ∃ r z, l = r ++ [z] := ⟨l.dropLast, l.getLast hne, (List.dropLast_concat_getLast hne).symm⟩
  obtain ⟨zk, zv⟩ := z
  rw [Pg.lastK_snoc] at h
  rcases List.mem_append.1 hy with hy | hy
  · have := hf.2
    rw [List.pairwise_append] at this
    exact Pr.lt_tr (this.2.2 y hy (zk, zv) (by simp)) h
  · rw [List.mem_singleton.1 hy]; exact h
set_option maxHeartbeats 4000000 in
set_option maxRecDepth 100000 in
theorem items_any (B : Nat) (vk vs : Value) (ks ss : List ByteArray) (i : Nat) (w : World) (hk : OwnsS B w vk ks) (hs : OwnsS B w vs ss) (hlen : ks.length = ss.length) (hi : i < ss.length) (h4 : ss.length ≤ 4) (hsz : ∀ s ∈ ss, s.size ≤ 1000000) :
    Calls Tryz.prog 153 #[.agg #[vk, vs], .int .i64 i] w fun r w' => ItemsE w (lists ks) i (ss[i]'hi).data.toList r w' := by
  have HLEN := hid hlen
  have hki : i < ks.length := by omega
  have hkl4 : ks.length ≤ 4 := by omega
  obtain ⟨gk, ck, rfl, hgk1, hgk2, hgk3⟩ := hk.shape_pos (by omega)
  obtain ⟨gs, cs, rfl, hgs1, hgs2, hgs3⟩ := hs.shape_pos (by omega)
  have HK := hid hk
  have HS := hid hs
  have hsec := hsz (ss[i]'hi) (List.getElem_mem hi)
  have cse := hs.cellAt i (ss[i]'hi) (List.getElem?_eq_getElem hi)
  generalize ss[i]'hi = sec at *
  have HH0 : Hid ((w.alloc (.cells #[.slice (some ⟨gk, 0, none⟩) ks.length ck, .slice (some ⟨gs, 0, none⟩) ss.length cs] 205)).heap[w.heap.size]? = some (.cells #[.slice (some ⟨gk, 0, none⟩) ks.length ck, .slice (some ⟨gs, 0, none⟩) ss.length cs] 205 (0, 0))) := heap_alloc_new _ _
  have HB0 := hid ((Below.refl w.heap.size w).alloc (Nat.le_refl _) (.cells #[.slice (some ⟨gk, 0, none⟩) ks.length ck, .slice (some ⟨gs, 0, none⟩) ss.length cs] 205))
  have hs0 : w.heap.size < (w.alloc (.cells #[.slice (some ⟨gk, 0, none⟩) ks.length ck, .slice (some ⟨gs, 0, none⟩) ss.length cs] 205)).heap.size := by simp
  have cs0 := (HB0.out.cell (p := ⟨gs, i, none⟩) hgs2).trans cse
  have hx1 : (i : Int) < (ss.length : Int) := by omega
  have hx2 : (0 : Int) ≤ (i : Int) := by omega
  clear hk hs hlen hsz cse
  go_enter Tryz.func153, Tryz.ntmps153
  go_wp2_with fail
  generalize w.alloc (.cells #[.slice (some ⟨gk, 0, none⟩) ks.length ck, .slice (some ⟨gs, 0, none⟩) ss.length cs] 205) = w0 at *
  have hcl := Pg.content_le [98] sec.data.toList
  rw [len_size] at hcl
  refine (content_any ⟨#[98]⟩ sec w0 (by decide) (by omega)).mono ?_
  rintro r w1 ⟨rfl, hb1⟩
  rw [show (⟨#[98]⟩ : ByteArray).data.toList = [98] from rfl]
  have HCO : Hid (∃ t, t = (Pg.content [98] sec.data.toList).1) := ⟨_, rfl⟩
  obtain ⟨t, ht⟩ := HCO.out
  obtain ⟨okc, hok⟩ : ∃ okc, okc = (Pg.content [98] sec.data.toList).2 := ⟨_, rfl⟩
  rw [← ht] at hcl ⊢
  rw [← hok]
  have HT := hid ht
  have HOK := hid hok
  have hzt := size_mk t
  have HB1 := hid (HB0.out.trans (hb1.mono (by omega)))
  have HH1 := hid ((hb1.block w.heap.size hs0).trans HH0.out)
  have hs1 := hb1.size
  clear ht hok hb1 HB0 HH0 cs0 HCO
  have HC2 := hid (curs_new ⟨t.toArray⟩ w1 (by rw [hzt]; omega))
  have HA2 := (Below.refl w1.heap.size w1).alloc (Nat.le_refl _) (.cells #[.string ⟨t.toArray⟩, .int .i64 0, .bool false] 259)
  have HB2 := hid (HB1.out.trans (HA2.mono (by omega)))
  have HH2 := hid ((HA2.block w.heap.size (by omega)).trans HH1.out)
  have hs2 : w1.heap.size < (w1.alloc (.cells #[.string ⟨t.toArray⟩, .int .i64 0, .bool false] 259)).heap.size := by simp
  clear HA2
  go_wp2_with fail
  generalize w1.alloc (.cells #[.string ⟨t.toArray⟩, .int .i64 0, .bool false] 259) = w2 at *
  have hcb : w.heap.size < w1.heap.size := by omega
  generalize w1.heap.size = cb at *
  have HST := hid (Pg.can_start (ks := lists ks) (i := i) (sec := sec.data.toList) ⟨t, false⟩ (by rw [HT.out]))
  refine (take_any cb 1 ⟨t, false⟩ w2 HC2.out (by omega)).mono ?_
  rintro r w3 ⟨rfl, hc3, hb3⟩
  have HC3 := hid hc3
  have HU3 := hid hb3
  clear hc3 hb3
  go_wp2_with fail
  refine (high_any _ _ (by rw [byte_any]; omega)).mono ?_
  rintro r w4 ⟨rfl, rfl⟩
  rw [show Pg.high (⟨((⟨t, false⟩ : Pg.Cur).take 1).1.toArray⟩ : ByteArray).data.toList = (⟨t, false⟩ : Pg.Cur).byte from rfl]
  have hn := Pg.byte_lt ⟨t, false⟩
  generalize (⟨t, false⟩ : Pg.Cur).byte = n at *
  generalize ((⟨t, false⟩ : Pg.Cur).take 1).2 = c1 at *
  go_wp2_with fail
  go_loopw [10, 11, 12] (fun l last k wr => ∃ (j : Nat) (il : List (ByteArray × ByteArray)) (lb : ByteArray) (c : Pg.Cur), j ≤ 5 ∧ j ≤ n ∧ k = .int .i64 j ∧ il.length = j ∧ last = .string lb ∧ lb.data.toList = Pg.lastK (plain il) ∧ lb.size ≤ 12 ∧ Pr.Fine (plain il) ∧ OwnsI w2.heap.size wr l il ∧ Curs wr cb c ∧ But cb w2 wr ∧ Pg.ItCan (lists ks) i sec.data.toList n j (plain il) c) (fun _ _ k _ => n - (intOf k).toNat)
  case atStart => exact ⟨0, [], ⟨#[]⟩, c1, by omega, Nat.zero_le _, rfl, rfl, rfl, rfl, by decide, ⟨by simp [plain], by simp [plain]⟩, World.ownsRow_nil _ _ _ _, HC3.out, HU3.out, HST.out⟩
  case round =>
    clear HC3 HU3 HST HC2
    obtain ⟨j, il, lb, c, hj5, hjn, rfl, hil, rfl, hlb, hlb12, hf, ho, hc, hu, hcan⟩ := hrel
    have HIL := hid hil
    have HLB := hid hlb
    have HF := hid hf
    have HO := hid ho
    have HC := hid hc
    have HU := hid hu
    have HCAN := hid hcan
    have hsr := hu.size
    have HBW := hid (but_to_below HB2.out hu (by omega) (by omega))
    obtain ⟨d2, z2⟩ := hc.cells
    obtain ⟨la, lc, rfl⟩ := rowShape ho
    have hill : il.length ≤ 5 := by omega
    clear hil hlb hf ho hc hu hcan
    by_cases hgo : j < n ∧ j < 5 ∧ c.bad = false
    · obtain ⟨hjn', hj5', hbad⟩ := hgo
      rw [hbad] at d2
      have HNX := hid (Pg.can_next HCAN.out hjn' (by have := HIL.out; simpa [plain] using this))
      rw [← HLB.out] at HNX
      go_wp2_with fail
      refine (take_any cb 1 c wr HC.out (by omega)).mono ?_
      rintro r w3 ⟨rfl, hc3, hb3⟩
      have HC3 := hid hc3
      have HU3 := hid (but_trans HU.out hb3)
      have HO3 : Hid (OwnsI w2.heap.size w3 (.slice la il.length lc) il) := row_but HO.out hb3 (by omega)
      clear hc3 hb3 d2 z2
      go_wp2_with fail
      refine (high_any _ _ (by rw [byte_any]; omega)).mono ?_
      rintro r w5 ⟨rfl, rfl⟩
      rw [show Pg.high (⟨(c.take 1).1.toArray⟩ : ByteArray).data.toList = c.byte from rfl]
      have hm := Pg.byte_lt c
      by_cases hlm : lb.size < c.byte
      · have HN : Hid (Pr.basementR (lists ks) i sec.data.toList = none) := none_of HNX.out.2 (fun h => by have := h.1; rw [len_size] at this; omega)
        have HBF := hid (but_to_below HB2.out HU3.out (by omega) (by omega))
        generalize c.byte = m at *
        clear HNX
        go_wp2_with fail
        go_ret2
        exact itemsE_nil HBF.out HN.out
      · have hmi : (c.byte : Int) ≤ (lb.size : Int) := by omega
        have hmi0 : (0 : Int) ≤ (c.byte : Int) := by omega
        have hx12 := Pg.text_le2 (c.take 1).2 12
        have hv16 := Pg.text_le2 ((c.take 1).2.text 12).2 16
        have HCT := hid (text_c cb 12 (c.take 1).2 (World.drew w5) HC3.out (by omega))
        have HCV := hid (fun W h => text_c cb 16 ((c.take 1).2.text 12).2 W h (by omega))
        generalize c.byte = m at *
        generalize (c.take 1).2 = cA at *
        generalize (cA.text 12).1 = x at *
        generalize (cA.text 12).2 = cB at *
        generalize (cB.text 16).1 = v at *
        generalize (cB.text 16).2 = cC at *
        have hzx := size_mk x
        have hzl : (lb.extract 0 m).size = m := by rw [ByteArray.size_extract]; omega
        have e1 : ∀ w, (Op.stringOp .add (lb.extract 0 m) ⟨x.toArray⟩).run Tryz.prog w = .ok (.string (lb.extract 0 m ++ ⟨x.toArray⟩)) w := fun w => run_string_add_sum w _ _ (by omega)
        go_wp2_with fail
        go_region_law (go_simp; refine HCT.out.mono ?_; rintro r w6 ⟨rfl, hc6, hb6⟩; have HC6 := hid hc6; have HU6 := hid (but_trans HU3.out (but_drew hb6)); have HO6 : Hid (OwnsI w2.heap.size w6 (.slice la il.length lc) il) := row_but HO3.out (but_drew hb6) (by omega); clear hc6 hb6)
        all_goals
          have HKD : Hid ((lb.extract 0 m ++ ⟨x.toArray⟩ : ByteArray).data.toList = lb.data.toList.take m ++ x) := by
            show _ = _; rw [ByteArray.data_append, Array.toList_append, Lib.extract_data]; simp
          rw [← HKD.out] at HNX
          have hkz : (lb.extract 0 m ++ ⟨x.toArray⟩ : ByteArray).size ≤ 24 := by rw [ByteArray.size_append']; omega
          clear HKD e1
          generalize (lb.extract 0 m ++ ⟨x.toArray⟩ : ByteArray) = kb at *
          go_wp2_with fail
          refine (HCV.out w6 HC6.out).mono ?_
          rintro r w7 ⟨rfl, hc7, hb7⟩
          have HC7 := hid hc7
          have HU7 := hid (but_trans HU6.out hb7)
          have HO7 : Hid (OwnsI w2.heap.size w7 (.slice la il.length lc) il) := row_but HO6.out hb7 (by omega)
          have hs7 := HU7.out.size
          clear hc7 hb7 HC6 HU6 HO6 HC3 HU3 HO3 HCT HCV
          go_wp2_with (first
            | (at_builtin; refine wpApG w7 rfl (.tmp 61) (.tmp 66) 30 51 Tryz.underlying30 _ 2 32 info_item rfl (by decide) (by decide) rfl w2.heap.size (.slice la il.length lc) il.length (icells il) rfl HO7.out [.string kb, .string ⟨v.toArray⟩] rfl (by intro u hu; simp at hu; rcases hu with rfl | rfl <;> rfl) rfl (by omega) (by omega) ?_))
          intro v8 w8 ho8 hg8 hat8
          have HO8 : Hid (OwnsI w2.heap.size w8 v8 (il ++ [(kb, ⟨v.toArray⟩)])) := by
            show OwnsI _ _ _ _; unfold OwnsI; rw [List.length_append, icells_snoc]; exact ho8
          have HC8 := hid (HC7.out.other (hg8.block cb (by obtain ⟨s, a, h, _⟩ := HC7.out; exact h.lt) (fun e => by have := (World.ownsRow.lt HO7.out cb e.symm).1; omega)))
          have HU8 := hid (but_grown HU7.out HO7.out (Nat.le_refl _) hg8)
          obtain ⟨la', lc', rfl⟩ := rowShape ho8
          have hl8 : il.length + 1 ≤ 6 := by omega
          clear ho8 hg8 hat8 HC7 HU7 HO7
          rw [show il.length + 1 = (il ++ [(kb, (⟨v.toArray⟩ : ByteArray))]).length by simp] at HO8 hl8 ⊢
          have HPS : Hid (plain (il ++ [(kb, (⟨v.toArray⟩ : ByteArray))]) = plain il ++ [(kb.data.toList, v)]) := by show _ = _; rw [plain_snoc]
          have HLS : Hid (kb.data.toList = Pg.lastK (plain (il ++ [(kb, (⟨v.toArray⟩ : ByteArray))]))) := by show _ = _; rw [HPS.out, Pg.lastK_snoc]
          have HIS : Hid ((il ++ [(kb, (⟨v.toArray⟩ : ByteArray))]).length = j + 1) := by show _ = _; rw [List.length_append, HIL.out]; rfl
          rw [← HPS.out] at HNX
          have HBF := hid (but_to_below HB2.out HU8.out (by omega) (by omega))
          have HFN : Hid (Pg.isKey kb.size = true → (0 < j → lb.data.toList < kb.data.toList) → Pr.Fine (plain (il ++ [(kb, (⟨v.toArray⟩ : ByteArray))]))) := fun h1 h2 => by
            rw [HPS.out]
            refine fine_snoc HF.out (by rw [len_size]; exact h1) hv16 fun y hy => ?_
            have hj0 : 0 < j := by
              rcases Nat.eq_zero_or_pos j with h | h
              · have := HIL.out; rw [h] at this; rw [List.length_eq_zero_iff.1 this] at hy; simp [plain] at hy
              · exact h
            have := h2 hj0
            rw [HLB.out] at this
            exact Pg.le_last_lt HF.out hy this
          generalize hilx : il ++ [(kb, (⟨v.toArray⟩ : ByteArray))] = il8 at *
          clear hilx
          go_wp2_with fail
          refine (key_any kb w8).mono ?_
          rintro r w9 ⟨rfl, rfl⟩
          by_cases hkey : Pg.isKey kb.size = true
          · rw [hkey]
            have hk12 : kb.size ≤ 12 := Pg.isKey_le hkey
            by_cases hj0 : j = 0
            · have hd0 : decide ((0 : Int) < (j : Int)) = false := by simp; omega
              have hd1 : decide (0 < j) = false := by simp; omega
              have hj0' : ¬ 0 < j := by omega
              have HF9 := hid (HFN.out hkey (fun h => by omega))
              clear hj0
              go_wp2_with fail
              go_roundw
              case rel => exact ⟨j + 1, il8, kb, cC, by omega, by omega, by go_num, HIS.out, rfl, HLS.out, hk12, HF9.out, HO8.out, HC8.out, HU8.out, HNX.out.1⟩
              case measure => simp [intOf]; omega
            · have hd0 : decide ((0 : Int) < (j : Int)) = true := by simp; omega
              have hd1 : decide (0 < j) = true := by simp; omega
              have hj0' : 0 < j := by omega
              clear hj0
              by_cases hlt : lb.data.toList < kb.data.toList
              · have hcmp : Op.bytesLess lb.toList kb.toList = true := by rw [toList_is, toList_is, less_is]; exact decide_eq_true hlt
                have HF9 := hid (HFN.out hkey (fun _ => hlt))
                clear hlt
                go_wp2_with fail
                go_roundw
                case rel => exact ⟨j + 1, il8, kb, cC, by omega, by omega, by go_num, HIS.out, rfl, HLS.out, hk12, HF9.out, HO8.out, HC8.out, HU8.out, HNX.out.1⟩
                case measure => simp [intOf]; omega
              · have hcmp : Op.bytesLess lb.toList kb.toList = false := by rw [toList_is, toList_is, less_is]; exact decide_eq_false hlt
                have HN : Hid (Pr.basementR (lists ks) i sec.data.toList = none) := none_of HNX.out.2 (fun h => hlt (h.2.2 hj0'))
                clear hlt
                go_wp2_with fail
                go_ret2
                exact itemsE_nil HBF.out HN.out
          · have hkf : Pg.isKey kb.size = false := by simpa using hkey
            have HN : Hid (Pr.basementR (lists ks) i sec.data.toList = none) := none_of HNX.out.2 (fun h => hkey (by have := h.2.1; rwa [len_size] at this))
            rw [hkf]
            clear hkey hkf
            go_wp2_with fail
            go_ret2
            exact itemsE_nil HBF.out HN.out
    · have HEX : Hid (j < n → j < 5 → c.bad = true) := fun h1 h2 => by
        cases hb : c.bad with
        | true => rfl
        | false => exact absurd ⟨h1, h2, hb⟩ hgo
      have hsp : (¬ (j : Int) < (n : Int)) ∨ ((j : Int) < (n : Int) ∧ ¬ (j : Int) < 5) ∨ ((j : Int) < (n : Int) ∧ (j : Int) < 5 ∧ c.bad = true) := by
        rcases Nat.lt_or_ge j n with h1 | h1
        · rcases Nat.lt_or_ge j 5 with h2 | h2
          · exact .inr (.inr ⟨by omega, by omega, HEX.out h1 h2⟩)
          · exact .inr (.inl ⟨by omega, by omega⟩)
        · exact .inl (by omega)
      clear hgo
      go_upto_region 7 with fail
      go_cut [45] (fun b wx => b = .bool false ∧ wx = wr)
      case first =>
        rcases hsp with hx | ⟨hx, hy⟩ | ⟨hx, hy, hz⟩
        · go_wp2_with fail
          go_meet
          exact ⟨rfl, rfl⟩
        · go_wp2_with fail
          go_meet
          exact ⟨rfl, rfl⟩
        · rw [hz] at d2
          go_wp2_with fail
          go_meet
          exact ⟨rfl, rfl⟩
      case rest =>
        obtain ⟨rfl, rfl⟩ := hcut
        clear hsp
        go_wp2_with fail
        refine (ends_c cb c wc HC.out).mono ?_
        rintro r w3 ⟨rfl, q, rfl⟩
        have HJN : Hid (c.ends = true → n ≤ 4 → j = n) := fun he h4 => by
          have hb : c.bad = false := by unfold Pg.Cur.ends at he; simp only [Bool.and_eq_true, Bool.not_eq_true'] at he; exact he.1
          rcases Nat.lt_or_ge j n with h1 | h1
          · have := HEX.out h1 (by omega); rw [hb] at this; cases this
          · omega
        have HBAD := hid (Pg.can_bad HCAN.out HEX.out hj5 hjn)
        have HNOT := hid (Pg.can_not HCAN.out HEX.out hj5 hjn)
        have HEND := hid (fun (h : (plain il).length = n) => Pg.can_end (ks := lists ks) (i := i) (sec := sec.data.toList) (ck := c) h HF.out)
        have HHD := hid ((HU.out.block w.heap.size (by omega) (by simp; omega)).trans HH2.out)
        have HKW : Hid (OwnsS B wc (.slice (some ⟨gk, 0, none⟩) ks.length ck) ks) := HK.out.below HBW.out (Nat.le_refl _)
        rw [← HOK.out] at HBAD HEND
        rw [← HT.out] at HEND HNOT
        clear HCAN HEX HU HC
        generalize c.ends = en at *
        have HBQ := hid (below_drewN HBW.out q)
        have HHQ : Hid ((wc.drewN q).heap[w.heap.size]? = some (.cells #[.slice (some ⟨gk, 0, none⟩) ks.length ck, .slice (some ⟨gs, 0, none⟩) ss.length cs] 205 (0, 0))) := HHD.out
        have HKQ : Hid (OwnsS B (wc.drewN q) (.slice (some ⟨gk, 0, none⟩) ks.length ck) ks) := HKW.out
        have HOQ : Hid (OwnsI w2.heap.size (wc.drewN q) (.slice la il.length lc) il) := HO.out
        have hsq : w2.heap.size ≤ (wc.drewN q).heap.size := hsr
        clear HBW HHD HKW HO hsr d2 z2
        generalize wc.drewN q = wz at *
        have dh0 : wz.cell? ⟨w.heap.size, 0, none⟩ = some (.slice (some ⟨gk, 0, none⟩) ks.length ck) := by unfold World.cell?; rw [HHQ.out]; rfl
        obtain ⟨ki, hki2⟩ : ∃ ki, ki = ks[i]'hki := ⟨_, rfl⟩
        have dk := HKQ.out.cellAt i ki (by rw [hki2]; exact List.getElem?_eq_getElem hki)
        have HKI : Hid ((lists ks).getD i [] = ki.data.toList) := by show _ = _; rw [hki2, List.getD_eq_getElem?_getD, lists, List.getElem?_map, List.getElem?_eq_getElem hki]; rfl
        clear hki2
        go_upto_region 19 with fail
        go_cut [127] (fun b wx => b = .bool (Pg.itBad okc en n (lists ks) i (plain il)) ∧ ∃ q, wx = wz.drewN q)
        case first =>
          cases okc with
          | false =>
            go_quiet (fail)
            go_wp2_with fail
            go_meet
            exact ⟨rfl, _, rfl⟩
          | true =>
            cases en with
            | false =>
              go_quiet (fail)
              go_wp2_with fail
              go_meet
              exact ⟨rfl, _, rfl⟩
            | true =>
              by_cases hn1 : n < 1
              · have hd1 : decide ((n : Int) < 1) = true := by simp; omega
                have HV : Hid (Pg.itBad true true n (lists ks) i (plain il) = true) := by show _ = _; unfold Pg.itBad; rw [decide_eq_true hn1]; rfl
                clear hn1
                go_quiet (fail)
                go_wp2_with fail
                go_meet
                exact ⟨by rw [HV.out], _, rfl⟩
              · have hd1 : decide ((n : Int) < 1) = false := by simp; omega
                by_cases hn4 : 4 < n
                · have hd4 : decide ((4 : Int) < (n : Int)) = true := by simp; omega
                  have HV : Hid (Pg.itBad true true n (lists ks) i (plain il) = true) := by show _ = _; unfold Pg.itBad; rw [decide_eq_true hn4]; simp
                  have hn4' : (4 : Int) < (n : Int) := by omega
                  clear hn4
                  go_quiet (fail)
                  go_wp2_with fail
                  go_meet
                  exact ⟨by rw [HV.out], _, rfl⟩
                · have hd4 : decide ((4 : Int) < (n : Int)) = false := by simp; omega
                  have hjn2 : j = n := HJN.out rfl (by omega)
                  have hil1 : 0 < il.length := by have := HIL.out; omega
                  obtain ⟨g, cap, hge, hgc, hgb, hgw, hia⟩ := HOQ.out.isItems.resolve_left (by rintro ⟨_, _, _, rfl⟩; simp at hil1)
                  injection hge with q1 q2 q3
                  subst q1 q3
                  obtain ⟨k0, -⟩ := hia 0 hil1
                  simp only [Nat.zero_add, Nat.zero_mul] at k0
                  clear hia
                  have HFK : Hid (((plain il).map (·.1)).getD 0 [] = (il[0]'hil1).1.data.toList) := by
                    show _ = _; rw [List.getD_eq_getElem?_getD, plain, List.map_map, List.getElem?_map, List.getElem?_eq_getElem hil1]; rfl
                  have HIB : Hid (Pg.itBad true true n (lists ks) i (plain il) = (decide ((il[0]'hil1).1.data.toList ≠ ki.data.toList) || (decide (i + 1 < ks.length) && !decide (lb.data.toList < (lists ks).getD (i + 1) [])))) := by
                    show _ = _; unfold Pg.itBad; rw [decide_eq_false hn1, decide_eq_false hn4, HFK.out, HKI.out, HLB.out, show (lists ks).length = ks.length by simp [lists]]; rfl
                  generalize (il[0]'hil1).1 = kf at *
                  have hpi : (0 : Int) < (il.length : Int) := by omega
                  clear HFK hjn2 hn1 hn4
                  by_cases hfe : kf = ki
                  · subst hfe
                    have hw1 : IntKind.i64.wrap ((i : Int) + 1) = (i : Int) + 1 := IntWalk.i64_in _ ⟨by omega, by omega⟩
                    by_cases hnx : i + 1 < ks.length
                    · have dn := HKQ.out.cellAt (i + 1) (ks[i + 1]'hnx) (List.getElem?_eq_getElem hnx)
                      have HKN : Hid ((lists ks).getD (i + 1) [] = (ks[i + 1]'hnx).data.toList) := by show _ = _; rw [List.getD_eq_getElem?_getD, lists, List.getElem?_map, List.getElem?_eq_getElem hnx]; rfl
                      generalize ks[i + 1]'hnx = kn at *
                      have dn' : wz.cell? ⟨gk, ((i : Int) + 1).toNat, none⟩ = some (.string kn) := by rw [show ((i : Int) + 1).toNat = i + 1 by omega]; exact dn
                      have hd5 : decide ((i : Int) + 1 < (ks.length : Int)) = true := by simp; omega
                      have hd6 : (i : Int) + 1 < (ks.length : Int) := by omega
                      have hd7 : (0 : Int) ≤ (i : Int) + 1 := by omega
                      have hdn : decide (i + 1 < ks.length) = true := by simp; omega
                      rw [hdn, HKN.out] at HIB
                      by_cases hlt : lb.data.toList < kn.data.toList
                      · have hcmp : Op.bytesLess lb.toList kn.toList = true := by rw [toList_is, toList_is, less_is]; exact decide_eq_true hlt
                        have HV : Hid (Pg.itBad true true n (lists ks) i (plain il) = false) := by show _ = _; rw [HIB.out, decide_eq_true hlt]; simp
                        clear hlt hnx
                        go_quiet (fail)
                        go_wp2_with fail
                        go_meet
                        exact ⟨by rw [HV.out], _, rfl⟩
                      · have hcmp : Op.bytesLess lb.toList kn.toList = false := by rw [toList_is, toList_is, less_is]; exact decide_eq_false hlt
                        have HV : Hid (Pg.itBad true true n (lists ks) i (plain il) = true) := by show _ = _; rw [HIB.out, decide_eq_false hlt]; simp
                        clear hlt hnx
                        go_quiet (fail)
                        go_wp2_with fail
                        go_meet
                        exact ⟨by rw [HV.out], _, rfl⟩
                    · have hd5 : decide ((i : Int) + 1 < (ks.length : Int)) = false := by simp; omega
                      have hdn : decide (i + 1 < ks.length) = false := by simp; omega
                      have HV : Hid (Pg.itBad true true n (lists ks) i (plain il) = false) := by show _ = _; rw [HIB.out, hdn]; simp
                      clear hnx
                      go_quiet (fail)
                      go_wp2_with fail
                      go_meet
                      exact ⟨by rw [HV.out], _, rfl⟩
                  · have hne : (kf.toList == ki.toList) = false := by rw [toList_is, toList_is]; simpa using fun e => hfe (bytes_ext e)
                    have HV : Hid (Pg.itBad true true n (lists ks) i (plain il) = true) := by show _ = _; rw [HIB.out, decide_eq_true (p := kf.data.toList ≠ ki.data.toList) (fun e => hfe (bytes_ext e))]; rfl
                    clear HIB
                    go_quiet (fail)
                    go_wp2_with fail
                    go_meet
                    exact ⟨by rw [HV.out], _, rfl⟩
        case rest =>
          obtain ⟨rfl, q2, rfl⟩ := hcut
          have HBF := hid (below_drewN HBQ.out q2)
          cases hbd : Pg.itBad okc en n (lists ks) i (plain il) with
          | true =>
            have HN : Hid (Pr.basementR (lists ks) i sec.data.toList = none) := none_of HBAD.out (by rw [hbd]; simp)
            clear hbd
            go_wp2_with fail
            go_ret2
            exact itemsE_nil HBF.out HN.out
          | false =>
            have hbd2 := hbd
            unfold Pg.itBad at hbd2
            simp only [Bool.or_eq_false_iff, Bool.not_eq_false', decide_eq_false_iff_not] at hbd2
            have hjn2 : j = n := HJN.out hbd2.1.1.1.1.2 (by have := hbd2.1.1.2; omega)
            have hil1 : 0 < il.length := by have := HIL.out; have := hbd2.1.1.1.2; omega
            obtain ⟨g, cap, hge, hgc, hgb, hgw, hia⟩ := HOQ.out.isItems.resolve_left (by rintro ⟨_, _, _, rfl⟩; simp at hil1)
            injection hge with q1 q2' q3
            subst q1 q3
            have HIA := hid hia
            have HE2 := hid (HEND.out (by have := HIL.out; rw [show (plain il).length = il.length by simp [plain]]; omega) hbd)
            have HOF : Hid (OwnsI w2.heap.size (wz.drewN q2) (.slice (some ⟨g, 0, none⟩) il.length lc) il) := HOQ.out
            have HCB := hid (basement_any g 0 lc il (wz.drewN q2) (by omega) HIA.out hgw (fun x hx => by
              have := HF.out.1 (x.1.data.toList, x.2.data.toList) (by unfold plain; exact List.mem_map.2 ⟨x, hx, rfl⟩)
              have h1 := Pg.isKey_le this.1
              have h2 := this.2
              simp only [len_size] at h1 h2
              exact ⟨by omega, by omega⟩))
            have hsf : w2.heap.size ≤ (wz.drewN q2).heap.size := hsq
            clear hbd hbd2 hia hjn2
            generalize wz.drewN q2 = wy at *
            go_wp2_with fail
            refine HCB.out.mono ?_
            rintro r w5 ⟨rfl, hb5⟩
            have HB5 := hid (HBF.out.trans (hb5.mono HBF.out.size))
            have HO5 : Hid (OwnsI w.heap.size w5 (.slice (some ⟨g, 0, none⟩) il.length lc) il) := row_shrink (row_below HOF.out hb5 (Nat.le_refl _)) (by omega)
            clear hb5 HCB
            by_cases heq : Pg.basement (plain il) = t
            · have HR := hid (HE2.out heq)
              rw [heq]
              clear heq
              go_wp2_with fail
              go_ret2
              exact ⟨HB5.out, il, _, true, rfl, HO5.out, hill, fun _ => HR.out, (nomatch ·)⟩
            · have HR := hid (HNOT.out heq)
              have hne : ((⟨(Pg.basement (plain il)).toArray⟩ : ByteArray).toList == (⟨t.toArray⟩ : ByteArray).toList) = false := by rw [toList_is, toList_is]; simpa using heq
              have hbs : (Pg.basement (plain il) == t) = false := by simpa using heq
              generalize Pg.basement (plain il) = bs at *
              go_wp2_with fail
              go_ret2
              exact ⟨HB5.out, il, _, false, rfl, HO5.out, hill, (nomatch ·), fun _ => HR.out⟩
end Go.Proofs.YtolgpnaoaodepaaGreat
/- The walk of the reference's Fetch. -/
namespace Go.Proofs.YtolgpnaoaodepaaGreat
open Go.RowKit

/-- What the reference's Fetch answers, in the program's own terms. -/
theorem fetch_head {l : List UInt8} {ks ss : List (List UInt8)} (h : Pg.header l = some (ks, ss)) (key : List UInt8) : Pr.fetchR l key = if Pr.findN ks key ks.length < 0 then some none else (Pr.basementR ks (Pr.findN ks key ks.length).toNat (ss.getD (Pr.findN ks key ks.length).toNat [])).map fun x => Pr.valueOf key x := by
  obtain ⟨h1, h2⟩ := (Pr.header_iff l ks ss).1 h
  unfold Pr.fetchR
  rw [h1]; simp only [Option.bind_some]; rw [h2]; rfl
theorem fetch_none {l : List UInt8} (h : Pg.header l = none) (key : List UInt8) : Pr.fetchR l key = none := by
  unfold Pr.fetchR
  cases h1 : Pr.headR l with
  | none => rfl
  | some r =>
    simp only [Option.bind_some]
    cases h2 : Pr.cutR l r.1 with
    | none => rfl
    | some ss =>
      obtain ⟨-, -, h3⟩ := Pr.cutR_is h2
      have := (Pr.header_iff l r.2 ss).2 ⟨by rw [h3]; exact h1, by rw [h3]; exact h2⟩
      rw [h] at this; simp at this
theorem header_lens {l : List UInt8} {ks ss : List (List UInt8)} (h : Pg.header l = some (ks, ss)) : ks.length = ss.length ∧ ss.length ≤ 4 ∧ ∀ s ∈ ss, s.length < 65536 := by
  obtain ⟨h1, h2⟩ := (Pr.header_iff l ks ss).1 h
  obtain ⟨a1, a2, a3, a4, a5⟩ := Pr.headR_is h1
  simp only [List.length_map] at a4 a5
  exact ⟨by omega, a5, fun s hs => Pr.headR_sz h1 s.length (List.mem_map.2 ⟨s, hs, rfl⟩)⟩
set_option maxHeartbeats 2000000 in
set_option maxRecDepth 100000 in
theorem refFetch_any (s key : ByteArray) (w : World) (hs : s.size ≤ 1000000000) :
    Calls Tryz.prog 106 #[.string s, .string key] w fun r w' => r = .returned (.tuple #[.string (fetchV (Pr.fetchR s.data.toList key.data.toList)), .int .i64 (fetchN (Pr.fetchR s.data.toList key.data.toList))]) ∧ Below w.heap.size w w' := by
  generalize hE : (Ending.returned (.tuple #[.string (fetchV (Pr.fetchR s.data.toList key.data.toList)), .int .i64 (fetchN (Pr.fetchR s.data.toList key.data.toList))])) = E
  have HE := hid hE
  clear hE
  go_enter Tryz.func106, Tryz.ntmps106
  go_wp2_with fail
  refine (header_any s w hs).mono ?_
  rintro r w1 ⟨hb1, ⟨hn, a1, n1, c1, a2, n2, c2, rfl⟩ | ⟨ks, ss, vk, vs, B, hh, rfl, hk, hss⟩⟩
  · have HT : Hid (.returned (.tuple #[.string ⟨#[]⟩, .int .i64 2]) = E) := by show _ = _; rw [← HE.out, fetch_none hn]; rfl
    have HB2 := hid (hb1.alloc hb1.size (.cells #[.slice a1 n1 c1, .slice a2 n2 c2] 205))
    clear hb1 hn
    go_wp2_with fail
    go_ret2
    exact ⟨HT.out, HB2.out⟩
  · have HFE := hid (fetch_head hh key.data.toList)
    obtain ⟨hl1, hl4, hlz⟩ := header_lens hh
    have hlk : (lists ks).length = ks.length := by simp [lists]
    have hls : (lists ss).length = ss.length := by simp [lists]
    have HLZ : Hid (∀ x ∈ ss, x.size ≤ 1000000) := fun x hx => by have := hlz x.data.toList (by unfold lists; exact List.mem_map.2 ⟨x, hx, rfl⟩); rw [len_size] at this; omega
    have HKL : Hid (ks.length = ss.length) := by show _ = _; omega
    have h4 : ss.length ≤ 4 := by omega
    rw [hlk] at HFE
    obtain ⟨ka, kc, rfl⟩ := hk.shape
    obtain ⟨sa, sc, rfl⟩ := hss.shape
    have BA := (Below.refl w1.heap.size w1).alloc (Nat.le_refl _) (.cells #[.slice ka ks.length kc, .slice sa ss.length sc] 205)
    have HB2 := hid (hb1.trans (BA.mono hb1.size))
    have HK2 := hid (hk.below BA (Nat.le_refl _))
    have HS2 := hid (hss.below BA (Nat.le_refl _))
    have HD2 : Hid ((w1.alloc (.cells #[.slice ka ks.length kc, .slice sa ss.length sc] 205)).heap[w1.heap.size]? = some (.cells #[.slice ka ks.length kc, .slice sa ss.length sc] 205 (0, 0))) := heap_alloc_new _ _
    clear hb1 hh hk hss hl1 hl4 hlz BA hlk hls
    go_wp2_with fail
    generalize w1.alloc (.cells #[.slice ka ks.length kc, .slice sa ss.length sc] 205) = w2 at *
    have d0 : w2.cell? ⟨w1.heap.size, 0, none⟩ = some (.slice ka ks.length kc) := by unfold World.cell?; rw [HD2.out]; rfl
    have d1 : w2.cell? ⟨w1.heap.size, 1, none⟩ = some (.slice sa ss.length sc) := by unfold World.cell?; rw [HD2.out]; rfl
    have hk4 : ks.length ≤ 4 := by have := HKL.out; omega
    go_loop [8, 9] (fun wh i => ∃ j : Nat, j ≤ ks.length ∧ i = .int .i64 j ∧ wh = .int .i64 (Pr.findN (lists ks) key.data.toList j)) (fun _ i => ks.length - (intOf i).toNat)
    case atStart => exact ⟨0, Nat.zero_le _, rfl, rfl⟩
    case round =>
      obtain ⟨j, hj, rfl, rfl⟩ := hrel
      by_cases hjl : j < ks.length
      · obtain ⟨g, cap, hge, hg1, hg2, hg3⟩ := HK2.out.shape_pos (by omega)
        injection hge with e1 e2 e3
        subst e1 e3
        have c0 := HK2.out.cellAt j (ks[j]'hjl) (List.getElem?_eq_getElem hjl)
        have HG : Hid ((lists ks).getD j [] = (ks[j]'hjl).data.toList) := by show _ = _; rw [List.getD_eq_getElem?_getD, lists, List.getElem?_map, List.getElem?_eq_getElem hjl]; rfl
        generalize ks[j]'hjl = kj at *
        have hi1 : (0 : Int) ≤ (j : Int) := by omega
        have hi2 : (j : Int) < (ks.length : Int) := by omega
        by_cases hlt : key.data.toList < kj.data.toList
        · obtain ⟨t1, t2⟩ := (tri key kj).1 hlt
          have HF : Hid (Pr.findN (lists ks) key.data.toList (j + 1) = Pr.findN (lists ks) key.data.toList j) := by show _ = _; rw [Pr.findN, HG.out, if_pos hlt]
          generalize Pr.findN (lists ks) key.data.toList j = f at *
          clear hlt
          go_wp2_with fail
          go_round
          case rel => exact ⟨j + 1, by omega, by go_num, by rw [HF.out]⟩
          case measure => simp [intOf]; omega
        · have HF : Hid (Pr.findN (lists ks) key.data.toList (j + 1) = (j : Int)) := by show _ = _; rw [Pr.findN, HG.out, if_neg hlt]
          generalize Pr.findN (lists ks) key.data.toList j = f at *
          rcases (tri key kj).2 hlt with t1 | ⟨t1, t2⟩
          · clear hlt
            go_wp2_with fail
            go_round
            case rel => exact ⟨j + 1, by omega, by go_num, by rw [HF.out]⟩
            case measure => simp [intOf]; omega
          · clear hlt
            go_wp2_with fail
            go_round
            case rel => exact ⟨j + 1, by omega, by go_num, by rw [HF.out]⟩
            case measure => simp [intOf]; omega
      · have hje : j = ks.length := by omega
        rw [hje]
        have hfl := Pr.findN_lt (lists ks) key.data.toList ks.length
        by_cases hneg : Pr.findN (lists ks) key.data.toList ks.length < 0
        · have HT : Hid (.returned (.tuple #[.string ⟨#[]⟩, .int .i64 3]) = E) := by show _ = _; rw [← HE.out, HFE.out, if_pos hneg]; rfl
          generalize Pr.findN (lists ks) key.data.toList ks.length = f at *
          clear hje
          go_wp2_with fail
          go_ret2
          exact ⟨HT.out, HB2.out⟩
        · obtain ⟨i, hi⟩ : ∃ i : Nat, Pr.findN (lists ks) key.data.toList ks.length = (i : Int) := ⟨(Pr.findN (lists ks) key.data.toList ks.length).toNat, by omega⟩
          rw [hi] at HFE hfl ⊢
          have hneg' : ¬ (i : Int) < 0 := by omega
          have his : i < ss.length := by have := HKL.out; omega
          have HFE2 : Hid (Pr.fetchR s.data.toList key.data.toList = (Pr.basementR (lists ks) i (ss[i]'his).data.toList).map fun x => Pr.valueOf key.data.toList x) := by
            show _ = _; rw [HFE.out, if_neg hneg']
            rw [show ((i : Int)).toNat = i by omega, List.getD_eq_getElem?_getD, lists, lists, List.getElem?_map, List.getElem?_eq_getElem his]; rfl
          have HCI := hid (items_any B _ _ ks ss i w2 HK2.out HS2.out HKL.out his h4 HLZ.out)
          clear HFE hi hneg hje hfl
          go_wp2_with fail
          refine HCI.out.mono ?_
          rintro r w3 ⟨hb3, l, v3, b, rfl, ho3, hl5, hy, hn⟩
          have HB3 := hid (HB2.out.trans (hb3.mono HB2.out.size))
          have HO3 := hid ho3
          obtain ⟨la, lc, rfl⟩ := rowShape ho3
          cases b with
          | false =>
            have HT : Hid (.returned (.tuple #[.string ⟨#[]⟩, .int .i64 2]) = E) := by show _ = _; rw [← HE.out, HFE2.out, hn rfl]; rfl
            clear hy hn hb3 ho3 HCI
            go_wp2_with fail
            go_ret2
            exact ⟨HT.out, HB3.out⟩
          | true =>
            have HFV : Hid (Pr.fetchR s.data.toList key.data.toList = some (Pr.valueOf key.data.toList (plain l))) := by show _ = _; rw [HFE2.out, hy rfl]; rfl
            clear hy hn hb3 ho3 HCI HFE2
            go_wp2_with fail
            go_loop [11] (fun i => ∃ j : Nat, j ≤ l.length ∧ i = .int .i64 j ∧ Pr.valueOf key.data.toList (plain (l.drop j)) = Pr.valueOf key.data.toList (plain l)) (fun i => l.length - (intOf i).toNat)
            case atStart => exact ⟨0, Nat.zero_le _, rfl, rfl⟩
            case round =>
              obtain ⟨j, hj, rfl, heq⟩ := hrel
              have HEQ := hid heq
              clear heq
              by_cases hjl : j < l.length
              · obtain ⟨g, cap, hge, hgc, hgb, hgw, hia⟩ := HO3.out.isItems.resolve_left (by rintro ⟨_, _, _, rfl⟩; simp at hjl)
                injection hge with q1 q2 q3
                subst q1 q3
                obtain ⟨k0, k1⟩ := hia j hjl
                simp only [Nat.zero_add] at k0 k1
                clear hia
                have HNX : Hid (plain (l.drop j) = ((l[j]'hjl).1.data.toList, (l[j]'hjl).2.data.toList) :: plain (l.drop (j + 1))) := by
                  show _ = _; rw [List.drop_eq_getElem_cons hjl]; rfl
                generalize l[j]'hjl = x at *
                obtain ⟨kb, vb⟩ := x
                simp only at k0 k1
                rw [HNX.out, Pr.valueOf] at HEQ
                have hi1 : (0 : Int) ≤ (j : Int) := by omega
                have hi2 : (j : Int) < (l.length : Int) := by omega
                by_cases hke : kb.data.toList = key.data.toList
                · have hkk : kb = key := bytes_ext hke
                  have HT : Hid (.returned (.tuple #[.string vb, .int .i64 0]) = E) := by
                    show _ = _; rw [← HE.out, HFV.out, ← HEQ.out, if_pos hke]; show _ = Ending.returned (.tuple #[.string (⟨vb.data.toList.toArray⟩ : ByteArray), .int .i64 0]); rw [mk_data]
                  subst hkk
                  clear hke
                  go_wp2_with fail
                  go_ret2
                  exact ⟨HT.out, HB3.out⟩
                · simp only [if_neg hke] at HEQ
                  have hne : (kb.toList == key.toList) = false := by rw [toList_is, toList_is]; simpa using hke
                  have hne2 : ¬ kb = key := fun e => hke (by rw [e])
                  clear hke
                  go_wp2_with fail
                  go_round
                  case rel => exact ⟨j + 1, by omega, by go_num, HEQ.out⟩
                  case measure => simp [intOf]; omega
              · have HT : Hid (.returned (.tuple #[.string ⟨#[]⟩, .int .i64 3]) = E) := by
                  show _ = _; rw [← HE.out, HFV.out, ← HEQ.out, List.drop_eq_nil_of_le (by omega)]; rfl
                have hi2 : ¬ (j : Int) < (l.length : Int) := by omega
                go_wp2_with fail
                go_ret2
                exact ⟨HT.out, HB3.out⟩
end Go.Proofs.YtolgpnaoaodepaaGreat
