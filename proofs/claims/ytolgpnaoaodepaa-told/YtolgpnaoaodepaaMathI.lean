/- Plain mathematics of the program's reading of a leaf's first bytes. -/
import Derived.Test.YtolgpnaoaodepaaGen
import Derived.Test.YtolgpnaoaodepaaMathH
namespace Go.Proofs.Ytolgpnaoaodepaa.Pr
open Pg
def entsR : Nat → List UInt8 → Option (List Nat × List (List UInt8))
  | 0, _ => some ([], [])
  | n + 1, t => (shortR t).bind fun s => (byteR s.2).bind fun b => (takeR 12 b.2).bind fun p => if 12 < b.1.toNat then none else (entsR n p.2).map fun r => (s.1 :: r.1, p.1.take b.1.toNat :: r.2)
theorem ents_len : ∀ (n : Nat) (t : List UInt8) (x : List Nat × List (List UInt8)), entsR n t = some x → x.1.length = n ∧ x.2.length = n ∧ ∀ k ∈ x.2, k.length ≤ 12
  | 0, t, x, h => by simp [entsR] at h; subst h; simp
  | n + 1, t, x, h => by
    rw [entsR] at h
    cases h1 : shortR t with
    | none => rw [h1] at h; simp at h
    | some s =>
      rw [h1] at h; simp only [Option.bind_some] at h
      cases h2 : byteR s.2 with
      | none => rw [h2] at h; simp at h
      | some b =>
        rw [h2] at h; simp only [Option.bind_some] at h
        cases h3 : takeR 12 b.2 with
        | none => rw [h3] at h; simp at h
        | some p =>
          rw [h3] at h; simp only [Option.bind_some] at h
          split at h
          · simp at h
          · cases h4 : entsR n p.2 with
            | none => rw [h4] at h; simp at h
            | some r =>
              rw [h4] at h; simp only [Option.map_some, Option.some.injEq] at h
              obtain ⟨e1, e2, e3⟩ := ents_len n p.2 r h4
              subst h
              refine ⟨by simp [e1], by simp [e2], ?_⟩
              intro k hk
              rcases List.mem_cons.1 hk with rfl | hk
              · rw [List.length_take]; omega
              · exact e3 k hk
end Go.Proofs.Ytolgpnaoaodepaa.Pr
namespace Go.Proofs.Ytolgpnaoaodepaa.Pg
/-- What stands of a basement in a leaf's first bytes: its section's length, its first key. -/
def ent1 (s : Nat) (k : List UInt8) : List UInt8 := low s 2 ++ low k.length 1 ++ k ++ List.replicate (12 - k.length) 0
def heads : List Nat → List (List UInt8) → List UInt8
  | s :: ss, k :: ks => ent1 s k ++ heads ss ks
  | _, _ => []
/-- A leaf's first bytes. -/
def headW (ss : List Nat) (ks : List (List UInt8)) : List UInt8 := sealed ([83, 50, 76] ++ low ss.length 1 ++ heads ss ks ++ List.replicate (60 - (heads ss ks).length) 0)
theorem ent1_len (s : Nat) (k : List UInt8) (h : k.length ≤ 12) : (ent1 s k).length = 15 := by
  unfold ent1; simp only [List.length_append, low_len, List.length_replicate]; omega
theorem heads_len : ∀ (ss : List Nat) (ks : List (List UInt8)), ss.length = ks.length → (∀ k ∈ ks, k.length ≤ 12) → (heads ss ks).length = 15 * ss.length
  | [], [], _, _ => rfl
  | s :: ss, k :: ks, h, hk => by
    rw [heads, List.length_append, ent1_len s k (hk k (by simp)), heads_len ss ks (by simpa using h) (fun x hx => hk x (by simp [hx])), List.length_cons]; omega
  | [], k :: ks, h, _ => by simp at h
  | s :: ss, [], h, _ => by simp at h
end Go.Proofs.Ytolgpnaoaodepaa.Pg
namespace Go.Proofs.Ytolgpnaoaodepaa.Pr
open Pg
/-- A leaf's first bytes: the lengths of its sections, their first keys. -/
def headR (page : List UInt8) : Option (List Nat × List (List UInt8)) := (takeR 68 page).bind fun f => (takeR 3 f.1).bind fun a => (byteR a.2).bind fun c => if 4 < c.1.toNat then none else (entsR c.1.toNat c.2).bind fun r => if okPivots r.2 none = true then (if headW r.1 r.2 = f.1 then some r else none) else none
theorem entsR_heads : ∀ (ss : List Nat) (ks : List (List UInt8)) (t : List UInt8), ss.length = ks.length → (∀ s ∈ ss, s < 65536) → (∀ k ∈ ks, k.length ≤ 12) → entsR ss.length (heads ss ks ++ t) = some (ss, ks)
  | [], [], _, _, _, _ => rfl
  | s :: ss, k :: ks, t, h, hs, hk => by
    have hs1 := hs s (by simp)
    have hk1 := hk k (by simp)
    rw [heads, List.length_cons, entsR]
    have e : ent1 s k ++ heads ss ks ++ t = low s 2 ++ (UInt8.ofNat (k.length % 256) :: ((k ++ List.replicate (12 - k.length) 0) ++ (heads ss ks ++ t))) := by
      unfold ent1; simp [low]
    have h1 : shortR (ent1 s k ++ heads ss ks ++ t) = some (s, UInt8.ofNat (k.length % 256) :: ((k ++ List.replicate (12 - k.length) 0) ++ (heads ss ks ++ t))) := by
      unfold shortR
      rw [e]
      have := takeR_append (low s 2) (UInt8.ofNat (k.length % 256) :: ((k ++ List.replicate (12 - k.length) 0) ++ (heads ss ks ++ t)))
      rw [low_len] at this
      rw [this]
      simp only [Option.map_some]
      rw [high_low 2 s (by simpa using hs1)]
    have hb : (UInt8.ofNat (k.length % 256)).toNat = k.length := by rw [UInt8.toNat_ofNat']; omega
    rw [h1]
    simp only [Option.bind_some, byteR]
    have h2 := takeR_append (k ++ List.replicate (12 - k.length) 0) (heads ss ks ++ t)
    rw [show (k ++ List.replicate (12 - k.length) (0 : UInt8)).length = 12 by simp; omega] at h2
    rw [h2]
    simp only [Option.bind_some, hb]
    rw [if_neg (by omega), entsR_heads ss ks t (by simpa using h) (fun x hx => hs x (by simp [hx])) (fun x hx => hk x (by simp [hx])), List.take_left]
    rfl
  | [], k :: ks, _, h, _, _ => by simp at h
  | s :: ss, [], _, h, _, _ => by simp at h
theorem headW_len (ss : List Nat) (ks : List (List UInt8)) (h : ss.length = ks.length) (h4 : ss.length ≤ 4) (hk : ∀ k ∈ ks, k.length ≤ 12) : (headW ss ks).length = 68 := by
  unfold headW
  rw [seal_len]
  simp only [List.length_append, low_len, List.length_replicate, heads_len ss ks h hk]
  simp; omega
/-- What is written there is read. -/
theorem headR_headW (ss : List Nat) (ks : List (List UInt8)) (t : List UInt8) (h : ss.length = ks.length) (h4 : ss.length ≤ 4) (hs : ∀ s ∈ ss, s < 65536) (hk : okPivots ks none = true) : headR (headW ss ks ++ t) = some (ss, ks) := by
  have hk2 := okPivots_sz ks none hk
  have hl := headW_len ss ks h h4 hk2
  unfold headR
  have h1 := takeR_append (headW ss ks) t
  rw [hl] at h1
  rw [h1]
  simp only [Option.bind_some]
  have e : headW ss ks = [83, 50, 76] ++ (UInt8.ofNat (ss.length % 256) :: (heads ss ks ++ (List.replicate (60 - (heads ss ks).length) 0 ++ low (crc ([83, 50, 76] ++ low ss.length 1 ++ heads ss ks ++ List.replicate (60 - (heads ss ks).length) 0)) 4))) := by
    unfold headW sealed; simp [low]
  have h2 : takeR 3 (headW ss ks) = some ([83, 50, 76], UInt8.ofNat (ss.length % 256) :: (heads ss ks ++ (List.replicate (60 - (heads ss ks).length) 0 ++ low (crc ([83, 50, 76] ++ low ss.length 1 ++ heads ss ks ++ List.replicate (60 - (heads ss ks).length) 0)) 4))) := by
    have := takeR_append [83, 50, 76] (UInt8.ofNat (ss.length % 256) :: (heads ss ks ++ (List.replicate (60 - (heads ss ks).length) 0 ++ low (crc ([83, 50, 76] ++ low ss.length 1 ++ heads ss ks ++ List.replicate (60 - (heads ss ks).length) 0)) 4)))
    rw [← e] at this
    exact this
  have hb : (UInt8.ofNat (ss.length % 256)).toNat = ss.length := by rw [UInt8.toNat_ofNat']; omega
  rw [h2]
  simp only [Option.bind_some, byteR, hb]
  rw [if_neg (by omega), entsR_heads ss ks _ h hs hk2]
  simp [hk]
/-- What is read there is written so. -/
theorem headR_is {page : List UInt8} {r : List Nat × List (List UInt8)} (h : headR page = some r) : 68 ≤ page.length ∧ headW r.1 r.2 = page.take 68 ∧ okPivots r.2 none = true ∧ r.1.length = r.2.length ∧ r.1.length ≤ 4 := by
  unfold headR at h
  cases h1 : takeR 68 page with
  | none => rw [h1] at h; simp at h
  | some f =>
    rw [h1] at h; simp only [Option.bind_some] at h
    cases h2 : takeR 3 f.1 with
    | none => rw [h2] at h; simp at h
    | some a =>
      rw [h2] at h; simp only [Option.bind_some] at h
      cases h3 : byteR a.2 with
      | none => rw [h3] at h; simp at h
      | some c =>
        rw [h3] at h; simp only [Option.bind_some] at h
        split at h
        · simp at h
        · cases h4 : entsR c.1.toNat c.2 with
          | none => rw [h4] at h; simp at h
          | some x =>
            rw [h4] at h; simp only [Option.bind_some] at h
            split at h
            · split at h
              · rename_i hc _ hw
                simp only [Option.some.injEq] at h
                subst h
                obtain ⟨e1, e2, e3⟩ := ents_len _ _ _ h4
                obtain ⟨e4, e5⟩ := takeR_len h1
                refine ⟨by rw [e5, List.length_append]; omega, ?_, by assumption, by omega, by omega⟩
                rw [hw, e5, ← e4, List.take_left]
              · simp at h
            · simp at h
end Go.Proofs.Ytolgpnaoaodepaa.Pr
