/- What Squeeze writes Spread reads; it is never much longer: the plain mathematics. -/
import Derived.Test.YtolgpnaoaodepaaGreatMathB
namespace Go.Proofs.YtolgpnaoaodepaaGreat.Sq

theorem com_same (l : List UInt8) : ∀ (m i j k : Nat), k < com l i j m → j + k < l.length ∧ l[i + k]? = l[j + k]?
  | 0, _, _, _, h => by simp [com] at h
  | m + 1, i, j, k, h => by
    unfold com at h
    split at h
    · rename_i hc
      match k with
      | 0 => exact ⟨by omega, by simpa using hc.2⟩
      | k + 1 =>
        have := com_same l m (i + 1) (j + 1) k (by omega)
        rw [show i + (k + 1) = i + 1 + k by omega, show j + (k + 1) = j + 1 + k by omega]
        exact this
    · omega
theorem copy_take (l : List UInt8) (at_ d : Nat) (hd : 1 ≤ d) (hda : d ≤ at_) (ha : at_ ≤ l.length) : ∀ n, (∀ k, k < n → at_ + k < l.length ∧ l[at_ - d + k]? = l[at_ + k]?) → copyN (l.take at_) d n = l.take (at_ + n)
  | 0, _ => rfl
  | n + 1, h => by
    have ih := copy_take l at_ d hd hda ha n (fun k hk => h k (by omega))
    rw [copyN_succ, ih]
    obtain ⟨h1, h2⟩ := h n (by omega)
    have hl : (l.take (at_ + n)).length = at_ + n := by rw [List.length_take]; omega
    rw [hl, List.getD_eq_getElem?_getD, List.getElem?_take_of_lt (by omega), show at_ + n - d = at_ - d + n by omega, h2, List.getElem?_eq_getElem h1, show at_ + (n + 1) = at_ + n + 1 by omega, List.take_succ_eq_append_getElem h1]
    rfl

theorem decode_runOf : ∀ (n : Nat) (p t out : List UInt8), p.length ≤ n → decode (runOf p ++ t) out = decode t (out ++ p)
  | 0, p, t, out, h => by have : p = [] := List.length_eq_zero_iff.1 (by omega); subst this; simp [runOf_nil]
  | n + 1, p, t, out, h => by
    by_cases e : p = []
    · subst e; simp [runOf_nil]
    · have hp : 0 < p.length := List.length_pos_iff.2 e
      rw [runOf_cons p e, List.cons_append, List.append_assoc]
      have hm : (UInt8.ofNat (min p.length 128 - 1)).toNat = min p.length 128 - 1 := by simp; omega
      have hk : min p.length 128 - 1 + 1 = (p.take 128).length := by rw [List.length_take]; omega
      rw [decode_run _ _ _ (by omega) (by rw [hm, List.length_append]; omega), hm, hk, List.drop_left, List.take_left, decode_runOf n (p.drop 128) t _ (by rw [List.length_drop]; omega), List.append_assoc, List.take_append_drop]

theorem mat_best (l : List UInt8) (at_ : Nat) (h : (best l at_).2 ≠ 0) : 1 ≤ (best l at_).2 ∧ (best l at_).2 ≤ at_ ∧ mat l at_ (best l at_).2 = (best l at_).1 := by
  have hs := (up_spec l at_ (min at_ 255)).2
  have hf := best_far l at_
  unfold best at *
  rcases hs with h' | h'
  · rw [h'] at h; simp at h
  · exact ⟨h'.1, hf.2, h'.2.2.1⟩

theorem decode_rest (l : List UInt8) : ∀ (f at_ : Nat) (p : List UInt8), l.length - at_ ≤ f → at_ ≤ l.length → p.length ≤ at_ → p = (l.drop (at_ - p.length)).take p.length → decode (rest l at_ p) (l.take (at_ - p.length)) = some l
  | 0, at_, p, hf, ha, hp, he => by
    rw [rest_end l at_ p (by omega)]
    have := decode_runOf p.length p [] (l.take (at_ - p.length)) (Nat.le_refl _)
    rw [List.append_nil] at this
    rw [this, decode_nil, he]
    simp only [List.length_take, List.length_drop]
    rw [show min p.length (l.length - (at_ - p.length)) = p.length by omega]
    rw [← List.take_add, show at_ - p.length + p.length = at_ by omega, List.take_of_length_le (by omega)]
  | f + 1, at_, p, hf, ha, hp, he => by
    by_cases hend : l.length ≤ at_
    · exact decode_rest l 0 at_ p (by omega) ha hp he
    · have hlt : at_ < l.length := by omega
      by_cases hb : (best l at_).2 = 0
      · rw [rest_single l at_ p hlt hb]
        have := decode_rest l f (at_ + 1) (p ++ [l[at_]]) (by omega) (by omega) (by simp; omega) (by
          rw [List.length_append, List.length_singleton, show at_ + 1 - (p.length + 1) = at_ - p.length by omega]
          rw [List.take_succ_eq_append_getElem (by rw [List.length_drop]; omega), ← he]
          simp [show at_ - p.length + p.length = at_ by omega])
        rw [List.length_append, List.length_singleton, show at_ + 1 - (p.length + 1) = at_ - p.length by omega] at this
        exact this
      · have hl := best_len l at_ hb
        obtain ⟨h1, h2, h3⟩ := mat_best l at_ hb
        have hf2 := (best_far l at_).1
        rw [rest_match l at_ p hlt hb, decode_runOf p.length p _ _ (Nat.le_refl _)]
        have hout : l.take (at_ - p.length) ++ p = l.take at_ := by
          rw [show l.take (at_ - p.length) ++ p = l.take (at_ - p.length) ++ (l.drop (at_ - p.length)).take p.length from congrArg _ he, ← List.take_add, show at_ - p.length + p.length = at_ by omega]
        rw [hout]
        have e1 : (UInt8.ofNat (125 + (best l at_).1)).toNat = 125 + (best l at_).1 := by simp; omega
        have e2 : (UInt8.ofNat (best l at_).2).toNat = (best l at_).2 := by simp; omega
        rw [decode_match _ _ _ _ (by rw [e1]; omega) (by rw [e1, e2, List.length_take]; omega), e1, e2, show 125 + (best l at_).1 - 125 = (best l at_).1 by omega]
        rw [copy_take l at_ (best l at_).2 h1 h2 ha (best l at_).1 (fun k hk => by rw [← h3] at hk; exact com_same l _ _ _ k hk)]
        have := decode_rest l f (at_ + (best l at_).1) [] (by omega) (by omega) (by simp) (by simp)
        simpa using this

theorem decode_squeeze (l : List UInt8) : decode (squeeze l) [] = some l := by
  have := decode_rest l l.length 0 [] (by omega) (by omega) (by simp) (by simp)
  simpa [squeeze] using this
/-- What Squeeze writes Spread reads. -/
theorem spread_squeeze (l : List UInt8) : spread (squeeze l) = some l := by
  unfold spread; rw [decode_squeeze]; simp
/-- Whatever Spread takes is what Squeeze writes. -/
theorem squeeze_spread {s l : List UInt8} (h : spread s = some l) : squeeze l = s := by
  unfold spread at h
  split at h
  · split at h
    · rename_i hq; simp at h; subst h; exact hq
    · simp at h
  · simp at h

theorem runOf_len : ∀ (n : Nat) (p : List UInt8), p.length ≤ n → (runOf p).length = p.length + (p.length + 127) / 128
  | 0, p, h => by have : p = [] := List.length_eq_zero_iff.1 (by omega); subst this; simp [runOf_nil]
  | n + 1, p, h => by
    by_cases e : p = []
    · subst e; simp [runOf_nil]
    · have hp : 0 < p.length := List.length_pos_iff.2 e
      rw [runOf_cons p e, List.length_cons, List.length_append, runOf_len n (p.drop 128) (by rw [List.length_drop]; omega)]
      rw [List.length_take, List.length_drop]; omega
theorem rest_short (l : List UInt8) : ∀ (f at_ : Nat) (p : List UInt8), l.length - at_ ≤ f → at_ ≤ l.length → (rest l at_ p).length ≤ (l.length - at_ + p.length) + (l.length - at_ + p.length + 127) / 128
  | 0, at_, p, hf, ha => by rw [rest_end l at_ p (by omega), runOf_len _ p (Nat.le_refl _)]; omega
  | f + 1, at_, p, hf, ha => by
    by_cases hend : l.length ≤ at_
    · exact rest_short l 0 at_ p (by omega) ha
    · have hlt : at_ < l.length := by omega
      by_cases hb : (best l at_).2 = 0
      · rw [rest_single l at_ p hlt hb]
        have := rest_short l f (at_ + 1) (p ++ [l[at_]]) (by omega) (by omega)
        simp only [List.length_append, List.length_singleton] at this
        omega
      · have hl := best_len l at_ hb
        rw [rest_match l at_ p hlt hb]
        have := rest_short l f (at_ + (best l at_).1) [] (by omega) (by omega)
        rw [List.length_append, runOf_len _ p (Nat.le_refl _), List.length_cons, List.length_cons]
        simp only [List.length_nil] at this
        omega
/-- It is never much longer. -/
theorem squeeze_short (l : List UInt8) : (squeeze l).length ≤ l.length + (l.length + 127) / 128 := by
  have := rest_short l l.length 0 [] (by omega) (by omega)
  simpa [squeeze] using this
end Go.Proofs.YtolgpnaoaodepaaGreat.Sq
