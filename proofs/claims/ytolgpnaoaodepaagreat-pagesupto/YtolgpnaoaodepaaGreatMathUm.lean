/- Plain mathematics: what the reference reads of a branch. -/
import Derived.Test.YtolgpnaoaodepaaGreatMathTm
namespace Go.Proofs.YtolgpnaoaodepaaGreat.Pg
open Pr
theorem dropL {a b : List UInt8} {n : Nat} (h : a.length = n) : (a ++ b).drop n = b := by subst h; exact List.drop_left
theorem takeL {a b : List UInt8} {n : Nat} (h : a.length = n) : (a ++ b).take n = a := by subst h; exact List.take_left
def rdNums : Nat → Cur → List Nat × Cur
  | 0, c => ([], c)
  | n + 1, c => if c.bad = true then ([], c) else (c.number.1 :: (rdNums n c.number.2).1, (rdNums n c.number.2).2)
def rdTexts : Nat → Cur → List (List UInt8) × Cur
  | 0, c => ([], c)
  | n + 1, c => if c.bad = true then ([], c) else ((c.text 12).1 :: (rdTexts n (c.text 12).2).1, (rdTexts n (c.text 12).2).2)
theorem rdNums_len : ∀ (n : Nat) (c : Cur), (rdNums n c).1.length ≤ n
  | 0, c => by simp [rdNums]
  | n + 1, c => by
    rw [rdNums]; split
    · simp
    · have := rdNums_len n c.number.2; simp; omega
theorem rdTexts_len : ∀ (n : Nat) (c : Cur), (rdTexts n c).1.length ≤ n
  | 0, c => by simp [rdTexts]
  | n + 1, c => by
    rw [rdTexts]; split
    · simp
    · have := rdTexts_len n (c.text 12).2; simp; omega
theorem rdNums_is : ∀ (l : List Nat) (t : List UInt8), (∀ c ∈ l, c ≤ 2147483647) → rdNums l.length ⟨l.flatMap num ++ t, false⟩ = (l, ⟨t, false⟩)
  | [], t, _ => rfl
  | x :: r, t, h => by
    rw [List.length_cons, rdNums, if_neg (by simp), List.flatMap_cons, List.append_assoc, cur_number x _ (h x (by simp))]
    simp only
    rw [rdNums_is r t fun y hy => h y (by simp [hy])]
theorem rdTexts_is : ∀ (l : List (List UInt8)) (t : List UInt8), (∀ c ∈ l, c.length ≤ 12) → rdTexts l.length ⟨l.flatMap text ++ t, false⟩ = (l, ⟨t, false⟩)
  | [], t, _ => rfl
  | x :: r, t, h => by
    have hx := h x (by simp)
    rw [List.length_cons, rdTexts, if_neg (by simp), List.flatMap_cons, List.append_assoc, cur_text x _ 12 hx (by omega)]
    simp only
    rw [rdTexts_is r t fun y hy => h y (by simp [hy])]
theorem rdChange_is (c : Int × List UInt8 × List UInt8) (t : List UInt8) (h : okChange c = true) : rdChange ⟨change1 c ++ t, false⟩ = (c, ⟨t, false⟩) := by
  obtain ⟨k, s, v⟩ := c
  simp only [okChange, isChange, Bool.and_eq_true, Bool.or_eq_true, decide_eq_true_eq] at h
  have hk := isKey_le h.1.1
  have hk3 : k = 1 ∨ k = 2 ∨ k = 3 := by omega
  obtain ⟨kn, rfl, hkn⟩ : ∃ kn : Nat, k = (kn : Int) ∧ kn < 256 := ⟨k.toNat, by omega, by omega⟩
  have hb : (UInt8.ofNat (kn % 256)).toNat = kn := by rw [UInt8.toNat_ofNat']; omega
  have e : change1 ((kn : Int), s, v) ++ t = UInt8.ofNat (kn % 256) :: (text s ++ ((if (kn : Int) = 2 then [] else text v) ++ t)) := by
    unfold change1; simp [low]
  have b1 : (⟨change1 ((kn : Int), s, v) ++ t, false⟩ : Cur).byte = kn := by unfold Cur.byte; rw [e, cur_byte, high_one, hb]
  have b2 : ((⟨change1 ((kn : Int), s, v) ++ t, false⟩ : Cur).take 1).2 = ⟨text s ++ ((if (kn : Int) = 2 then [] else text v) ++ t), false⟩ := by rw [e, cur_byte]
  unfold rdChange
  rw [b1, b2, cur_text s _ 12 hk (by omega)]
  simp only
  by_cases h2 : kn = 2
  · rw [if_pos h2, if_pos (by omega)]
    have : v = [] := List.length_eq_zero_iff.1 (by rcases h.2 with (h | h) | h <;> omega)
    rw [this]; rfl
  · rw [if_neg h2, if_neg (by omega), cur_text v _ 16 h.1.2 (by omega)]
theorem rdChanges_is : ∀ (l : List (Int × List UInt8 × List UInt8)) (t : List UInt8), (∀ c ∈ l, okChange c = true) → rdChanges l.length ⟨l.flatMap change1 ++ t, false⟩ = (l, ⟨t, false⟩)
  | [], t, _ => rfl
  | x :: r, t, h => by
    rw [List.length_cons, rdChanges, if_neg (by simp), List.flatMap_cons, List.append_assoc, rdChange_is x _ (h x (by simp))]
    simp only
    rw [rdChanges_is r t fun y hy => h y (by simp [hy])]
/-- The changes that stand at a cursor. -/
def chAt (c : Cur) : List (Int × List UInt8 × List UInt8) × Cur := rdChanges c.byte (c.take 1).2
theorem chAt_is (l : List (Int × List UInt8 × List UInt8)) (t : List UInt8) (h8 : l.length ≤ 255) (h : ∀ c ∈ l, okChange c = true) : chAt ⟨changes l ++ t, false⟩ = (l, ⟨t, false⟩) := by
  have hb : (UInt8.ofNat (l.length % 256)).toNat = l.length := by rw [UInt8.toNat_ofNat']; omega
  have e : changes l ++ t = UInt8.ofNat (l.length % 256) :: (l.flatMap change1 ++ t) := by unfold changes; simp [low]
  unfold chAt
  have b1 : (⟨changes l ++ t, false⟩ : Cur).byte = l.length := by unfold Cur.byte; rw [e, cur_byte, high_one, hb]
  rw [b1, e, cur_byte]
  exact rdChanges_is l t h
def brA (t : List UInt8) : Nat := high ((t.drop 4).take 2)
def brB (t : List UInt8) : Nat := high ((t.drop 6).take 2)
def brN (t : List UInt8) : Nat := (t.getD 3 0).toNat
def brP (t : List UInt8) : List UInt8 × Bool := content [112] ((t.drop 68).take (brA t))
def brM (t : List UInt8) : List UInt8 × Bool := content [109] (t.drop (68 + brA t))
def brC (t : List UInt8) : List Nat × Cur := rdNums (brN t) ⟨(brP t).1, false⟩
def brV (t : List UInt8) : List (List UInt8) × Cur := rdTexts (brN t - 1) (brC t).2
def brH (t : List UInt8) : List (Int × List UInt8 × List UInt8) × Cur := chAt ⟨(brM t).1, false⟩
/-- May this be a branch's page, by its length? -/
def brL (t : List UInt8) : Bool := decide (68 ≤ t.length) && decide (t.length = 68 + brA t + brB t)
def brOk (t : List UInt8) : Bool := (brP t).2 && (brM t).2 && (brV t).2.ends && (brH t).2.ends
/-- What the reference's branch tells. -/
def refBranch (t : List UInt8) : (List Nat × List (List UInt8) × List (Int × List UInt8 × List UInt8)) × Bool :=
  if brL t = true then (((brC t).1, (brV t).1, (brH t).1), brOk t) else (([], [], []), false)
theorem refBranch_is (cl : List Nat) (pl : List (List UInt8)) (ml : List (Int × List UInt8 × List UInt8)) (hc : ∀ c ∈ cl, c ≤ 2147483647) (hp : ∀ p ∈ pl, p.length ≤ 12) (hm : ∀ c ∈ ml, okChange c = true) (h4 : cl.length ≤ 4) (hl : pl.length + 1 = cl.length) (h8 : ml.length ≤ 8) : refBranch (branch cl pl ml) = ((cl, pl, ml), true) := by
  have s1 := pivotsC_small cl pl hc hp
  have s2 := changes_small ml hm
  have l1 := section_len [112] (pivotsC cl pl) (by omega)
  have l2 := section_len [109] (changes ml) (by omega)
  have q1 : ([112] : List UInt8).length = 1 := rfl
  have q2 : ([109] : List UInt8).length = 1 := rfl
  have hP : branchP cl pl = section_ [112] (pivotsC cl pl) := rfl
  have hM : branchM ml = section_ [109] (changes ml) := rfl
  obtain ⟨rest, e2, hr⟩ : ∃ rest, branch cl pl ml = [83, 50, 73] ++ (UInt8.ofNat (cl.length % 256) :: (low (branchP cl pl).length 2 ++ (low (branchM ml).length 2 ++ (rest ++ (branchP cl pl ++ branchM ml))))) ∧ rest.length = 60 := by
    refine ⟨List.replicate 56 0 ++ low (crc ([83, 50, 73] ++ low cl.length 1 ++ low (branchP cl pl).length 2 ++ low (branchM ml).length 2 ++ List.replicate 56 0)) 4, ?_, by simp [low_len]⟩
    unfold branch sealed
    generalize crc ([83, 50, 73] ++ low cl.length 1 ++ low (branchP cl pl).length 2 ++ low (branchM ml).length 2 ++ List.replicate 56 0) = c
    generalize branchP cl pl = P
    generalize branchM ml = M
    simp [low]
  have hb : (UInt8.ofNat (cl.length % 256)).toNat = cl.length := by rw [UInt8.toNat_ofNat']; omega
  have r1 := content_section 112 (pivotsC cl pl) (by omega)
  have r2 := content_section 109 (changes ml) (by omega)
  generalize branch cl pl ml = t at *
  have g2 := low_len 2 (branchP cl pl).length
  have g3 := low_len 2 (branchM ml).length
  have d4 : t.drop 4 = low (branchP cl pl).length 2 ++ (low (branchM ml).length 2 ++ (rest ++ (branchP cl pl ++ branchM ml))) := by rw [e2]; rfl
  have d6 : t.drop 6 = low (branchM ml).length 2 ++ (rest ++ (branchP cl pl ++ branchM ml)) := by
    rw [show 6 = 4 + 2 from rfl, ← List.drop_drop, d4, dropL g2]
  have d68 : t.drop 68 = branchP cl pl ++ branchM ml := by
    rw [show 68 = 6 + (2 + 60) from rfl, ← List.drop_drop, d6, ← List.drop_drop, dropL g3, dropL hr]
  have hA : brA t = (branchP cl pl).length := by
    unfold brA; rw [d4, takeL g2, high_low 2 _ (by rw [hP]; omega)]
  have hB : brB t = (branchM ml).length := by
    unfold brB; rw [d6, takeL g3, high_low 2 _ (by rw [hM]; omega)]
  have hN : brN t = cl.length := by unfold brN; rw [e2]; simpa using hb
  have hlen : t.length = 68 + (branchP cl pl).length + (branchM ml).length := by
    have := congrArg List.length d68
    rw [List.length_drop, List.length_append] at this
    have h68 : 68 ≤ t.length := by rw [e2]; simp only [List.length_append, List.length_cons, g2, g3, hr]; simp; omega
    omega
  have hPP : brP t = (pivotsC cl pl, true) := by unfold brP; rw [hA, d68, List.take_left, hP, r1]
  have hMM : brM t = (changes ml, true) := by unfold brM; rw [hA, ← List.drop_drop, d68, List.drop_left, hM, r2]
  have hC : brC t = (cl, ⟨pl.flatMap text ++ [], false⟩) := by
    unfold brC; rw [hN, hPP]; unfold pivotsC
    have := rdNums_is cl (pl.flatMap text ++ []) hc
    rw [List.append_nil] at this ⊢
    exact this
  have hV : brV t = (pl, ⟨[], false⟩) := by
    unfold brV; rw [hC, hN, show cl.length - 1 = pl.length by omega]
    exact rdTexts_is pl [] hp
  have hH : brH t = (ml, ⟨[], false⟩) := by
    unfold brH; rw [hMM]
    have := chAt_is ml [] (by omega) hm
    rw [List.append_nil] at this
    exact this
  unfold refBranch brL brOk
  rw [decide_eq_true (by omega : 68 ≤ t.length), decide_eq_true (by rw [hA, hB]; omega : t.length = 68 + brA t + brB t), hC, hV, hH, hPP, hMM]
  simp [Cur.ends]
end Go.Proofs.YtolgpnaoaodepaaGreat.Pg
/- A node that is being made in a block of its own, with rows that the call owns. -/
namespace Go.Proofs.YtolgpnaoaodepaaGreat
open Go.RowKit

structure NdB (nb B : Nat) (wr : World) (kd : Value) (il : List (ByteArray × ByteArray)) (cl : List Nat) (pl : List ByteArray) (ml : List (Int × ByteArray × ByteArray)) (vi vc vp vm : Value) : Prop where
  var : NodeB wr nb kd vi vc vp vm
  its : OwnsI B wr vi il
  kids : wr.ownsRow B 3 1 vc cl.length (ncells cl)
  pivs : OwnsS B wr vp pl
  chgs : OwnsC B wr vm ml
  ic : Apart vi vc
  ip : Apart vi vp
  im : Apart vi vm
  cp : Apart vc vp
  cm : Apart vc vm
  pm : Apart vp vm
  lt : nb < B
  le : B ≤ wr.heap.size
theorem NdB.below {nb B : Nat} {wr wx : World} {kd : Value} {il : List (ByteArray × ByteArray)} {cl : List Nat} {pl : List ByteArray} {ml : List (Int × ByteArray × ByteArray)} {vi vc vp vm : Value} (h : NdB nb B wr kd il cl pl ml vi vc vp vm) (hb : Below wr.heap.size wr wx) : NdB nb B wx kd il cl pl ml vi vc vp vm :=
  ⟨h.var.keep hb, row_below h.its hb (Nat.le_refl _), row_below h.kids hb (Nat.le_refl _), row_below h.pivs hb (Nat.le_refl _), row_below h.chgs hb (Nat.le_refl _), h.ic, h.ip, h.im, h.cp, h.cm, h.pm, h.lt, Nat.le_trans h.le hb.size⟩
theorem NdB.but {nb B c : Nat} {wr wx : World} {kd : Value} {il : List (ByteArray × ByteArray)} {cl : List Nat} {pl : List ByteArray} {ml : List (Int × ByteArray × ByteArray)} {vi vc vp vm : Value} (h : NdB nb B wr kd il cl pl ml vi vc vp vm) (hb : But c wr wx) (hn : nb ≠ c) (h1 : vi.ownBlock ≠ some c) (h2 : vc.ownBlock ≠ some c) (h3 : vp.ownBlock ≠ some c) (h4 : vm.ownBlock ≠ some c) : NdB nb B wx kd il cl pl ml vi vc vp vm :=
  ⟨h.var.but hb hn, World.ownsRow.kept h.its hb (.inr h1), World.ownsRow.kept h.kids hb (.inr h2), World.ownsRow.kept h.pivs hb (.inr h3), World.ownsRow.kept h.chgs hb (.inr h4), h.ic, h.ip, h.im, h.cp, h.cm, h.pm, h.lt, Nat.le_trans h.le hb.size⟩
theorem own_ne {B : Nat} {w : World} {v : Value} {T : TypeId} {s n : Nat} {xs : List Value} (h : w.ownsRow B T s v n xs) {c : Nat} (hc : c < B) : v.ownBlock ≠ some c := fun e => by have := (World.ownsRow.lt h c e).1; omega
theorem own_ne2 {B : Nat} {w : World} {v : Value} {T : TypeId} {s n : Nat} {xs : List Value} (h : w.ownsRow B T s v n xs) {c : Nat} (hc : w.heap.size ≤ c) : v.ownBlock ≠ some c := fun e => by have := (World.ownsRow.lt h c e).2; omega
theorem NdB.butLow {nb B c : Nat} {wr wx : World} {kd : Value} {il : List (ByteArray × ByteArray)} {cl : List Nat} {pl : List ByteArray} {ml : List (Int × ByteArray × ByteArray)} {vi vc vp vm : Value} (h : NdB nb B wr kd il cl pl ml vi vc vp vm) (hb : But c wr wx) (hn : nb ≠ c) (hc : c < B) : NdB nb B wx kd il cl pl ml vi vc vp vm :=
  h.but hb hn (own_ne h.its hc) (own_ne h.kids hc) (own_ne h.pivs hc) (own_ne h.chgs hc)
theorem ndB_new {nb B : Nat} {w' : World} {kd : Value} (hb : NodeB w' nb kd (.slice none 0 0) (.slice none 0 0) (.slice none 0 0) (.slice none 0 0)) (h1 : nb < B) (h2 : B ≤ w'.heap.size) : NdB nb B w' kd [] [] [] [] (.slice none 0 0) (.slice none 0 0) (.slice none 0 0) (.slice none 0 0) :=
  ⟨hb, World.ownsRow_nil _ _ _ _, World.ownsRow_nil _ _ _ _, World.ownsRow_nil _ _ _ _, World.ownsRow_nil _ _ _ _, fun k _ => by simp [Value.ownBlock], fun k _ => by simp [Value.ownBlock], fun k _ => by simp [Value.ownBlock], fun k _ => by simp [Value.ownBlock], fun k _ => by simp [Value.ownBlock], fun k _ => by simp [Value.ownBlock], h1, h2⟩
theorem NdB.drewN {nb B : Nat} {wr : World} {kd : Value} {il : List (ByteArray × ByteArray)} {cl : List Nat} {pl : List ByteArray} {ml : List (Int × ByteArray × ByteArray)} {vi vc vp vm : Value} (h : NdB nb B wr kd il cl pl ml vi vc vp vm) (q : Nat) : NdB nb B (wr.drewN q) kd il cl pl ml vi vc vp vm :=
  ⟨h.var, h.its, h.kids, h.pivs, h.chgs, h.ic, h.ip, h.im, h.cp, h.cm, h.pm, h.lt, h.le⟩
/-- The frame of a call whose result, a node, lies empty in its first block. -/
def ResF (w wr : World) : Prop := NodeB wr w.heap.size (.int .i64 0) (.slice none 0 0) (.slice none 0 0) (.slice none 0 0) (.slice none 0 0) ∧ Below w.heap.size w wr
theorem ResF.below {w wr wx : World} (h : ResF w wr) (hb : Below wr.heap.size wr wx) : ResF w wx := ⟨h.1.keep hb, h.2.trans (hb.mono h.2.size)⟩
theorem ResF.belowB {w wr wx : World} {B : Nat} (h : ResF w wr) (hb : Below B wr wx) (hB : w.heap.size < B) : ResF w wx := ⟨h.1.below hb hB, h.2.trans (hb.mono (by omega))⟩
theorem ResF.but {w wr wx : World} {c : Nat} (h : ResF w wr) (hb : But c wr wx) (hc : w.heap.size < c) : ResF w wx := ⟨h.1.but hb (by omega), but_to_below h.2 hb (by omega) h.2.size⟩
theorem ResF.drewN {w wr : World} (h : ResF w wr) (q : Nat) : ResF w (wr.drewN q) := ⟨h.1, below_drewN h.2 q⟩
theorem NdB.apC {nb B n : Nat} {wr w' : World} {kd : Value} {il : List (ByteArray × ByteArray)} {cl : List Nat} {pl : List ByteArray} {ml : List (Int × ByteArray × ByteArray)} {vi vc vp vm v' : Value} (h : NdB nb B wr kd il cl pl ml vi vc vp vm) (ho : w'.ownsRow B 3 1 v' (cl.length + 1) (ncells cl ++ [.int .i64 (n : Int)])) (hg : wr.grownBy w' vc.ownBlock) (hat : v'.ownBlock = vc.ownBlock ∨ ∃ k, wr.heap.size ≤ k ∧ v'.ownBlock = some k) :
    NodeB w' nb kd vi vc vp vm ∧ NdB nb B (w'.setCell ⟨nb, 2, none⟩ v') kd il (cl ++ [n]) pl ml vi v' vp vm ∧ Below B wr w' := by
  obtain ⟨o1, a1, b1⟩ := rows_apart h.its h.kids h.le h.ic hg hat
  obtain ⟨o2, a2, -⟩ := rows_apart h.pivs h.kids h.le h.cp.symm hg hat
  obtain ⟨o3, a3, -⟩ := rows_apart h.chgs h.kids h.le h.cm.symm hg hat
  have hv : NodeB w' nb kd vi vc vp vm := h.var.below b1 h.lt
  have hlt := h.lt
  have hle := h.le
  have hsz := b1.size
  refine ⟨hv, ⟨hv.set2 v', row_set o1 hlt _, ?_, row_set o2 hlt _, row_set o3 hlt _, a1, h.ip, h.im, a2.symm, a3.symm, h.pm, hlt, by simp [World.setCell]; omega⟩, b1⟩
  have e : ncells (cl ++ [n]) = ncells cl ++ [.int .i64 (n : Int)] := by simp [ncells]
  rw [e, List.length_append]
  exact row_set ho hlt _
theorem NdB.apP {nb B : Nat} {s : ByteArray} {wr w' : World} {kd : Value} {il : List (ByteArray × ByteArray)} {cl : List Nat} {pl : List ByteArray} {ml : List (Int × ByteArray × ByteArray)} {vi vc vp vm v' : Value} (h : NdB nb B wr kd il cl pl ml vi vc vp vm) (ho : OwnsS B w' v' (pl ++ [s])) (hg : wr.grownBy w' vp.ownBlock) (hat : v'.ownBlock = vp.ownBlock ∨ ∃ k, wr.heap.size ≤ k ∧ v'.ownBlock = some k) :
    NodeB w' nb kd vi vc vp vm ∧ NdB nb B (w'.setCell ⟨nb, 3, none⟩ v') kd il cl (pl ++ [s]) ml vi vc v' vm ∧ Below B wr w' := by
  obtain ⟨o1, a1, b1⟩ := rows_apart h.its h.pivs h.le h.ip hg hat
  obtain ⟨o2, a2, -⟩ := rows_apart h.kids h.pivs h.le h.cp hg hat
  obtain ⟨o3, a3, -⟩ := rows_apart h.chgs h.pivs h.le h.pm.symm hg hat
  have hv : NodeB w' nb kd vi vc vp vm := h.var.below b1 h.lt
  have hlt := h.lt
  have hle := h.le
  have hsz := b1.size
  exact ⟨hv, ⟨hv.set3 v', row_set o1 hlt _, row_set o2 hlt _, row_set ho hlt _, row_set o3 hlt _, h.ic, a1, h.im, a2, h.cm, a3.symm, hlt, by simp [World.setCell]; omega⟩, b1⟩
theorem NdB.apI {nb B : Nat} {x : List (ByteArray × ByteArray)} {wr w' : World} {kd : Value} {il : List (ByteArray × ByteArray)} {cl : List Nat} {pl : List ByteArray} {ml : List (Int × ByteArray × ByteArray)} {vi vc vp vm v' : Value} (h : NdB nb B wr kd il cl pl ml vi vc vp vm) (ho : OwnsI B w' v' (il ++ x)) (hg : wr.grownBy w' vi.ownBlock) (hat : v'.ownBlock = vi.ownBlock ∨ ∃ k, wr.heap.size ≤ k ∧ v'.ownBlock = some k) :
    NodeB w' nb kd vi vc vp vm ∧ NdB nb B (w'.setCell ⟨nb, 1, none⟩ v') kd (il ++ x) cl pl ml v' vc vp vm ∧ Below B wr w' := by
  obtain ⟨o1, a1, b1⟩ := rows_apart h.kids h.its h.le h.ic.symm hg hat
  obtain ⟨o2, a2, -⟩ := rows_apart h.pivs h.its h.le h.ip.symm hg hat
  obtain ⟨o3, a3, -⟩ := rows_apart h.chgs h.its h.le h.im.symm hg hat
  have hv : NodeB w' nb kd vi vc vp vm := h.var.below b1 h.lt
  have hlt := h.lt
  have hle := h.le
  have hsz := b1.size
  exact ⟨hv, ⟨hv.set1 v', row_set ho hlt _, row_set o1 hlt _, row_set o2 hlt _, row_set o3 hlt _, a1.symm, a2.symm, a3.symm, h.cp, h.cm, h.pm, hlt, by simp [World.setCell]; omega⟩, b1⟩
/-- The changes, made in one go. -/
theorem NdB.setM {nb B S : Nat} {wr : World} {kd : Value} {il : List (ByteArray × ByteArray)} {cl : List Nat} {pl : List ByteArray} {ml mx : List (Int × ByteArray × ByteArray)} {vi vc vp vm v' : Value} (h : NdB nb B wr kd il cl pl ml vi vc vp vm) (ho : OwnsC S wr v' mx) (hS : B ≤ S) (h1 : ∀ k, vi.ownBlock = some k → k < S) (h2 : ∀ k, vc.ownBlock = some k → k < S) (h3 : ∀ k, vp.ownBlock = some k → k < S) : NdB nb B (wr.setCell ⟨nb, 4, none⟩ v') kd il cl pl mx vi vc vp v' := by
  have hlt := h.lt
  have hle := h.le
  have ap : ∀ u : Value, (∀ k, u.ownBlock = some k → k < S) → Apart u v' := fun u hu k hk e => by have := (World.ownsRow.lt ho k e).1; have := hu k hk; omega
  exact ⟨h.var.set4 v', row_set h.its hlt _, row_set h.kids hlt _, row_set h.pivs hlt _, row_set (row_shrink ho hS) hlt _, h.ic, h.ip, ap vi h1, h.cp, ap vc h2, ap vp h3, hlt, by simp [World.setCell]; omega⟩
theorem NdB.nodeV {nb B : Nat} {wr : World} {kd : Int} {il : List (ByteArray × ByteArray)} {cl : List Nat} {pl : List ByteArray} {ml : List (Int × ByteArray × ByteArray)} {vi vc vp vm : Value} (h : NdB nb B wr (.int .i64 kd) il cl pl ml vi vc vp vm) (h1 : il.length ≤ 1020) (h2 : cl.length ≤ 255) (h3 : pl.length ≤ 255) (h4 : ml.length ≤ 255) : NodeV B wr (.agg #[.int .i64 kd, vi, vc, vp, vm]) kd il cl pl ml :=
  ⟨_, _, _, _, rfl, h.its, h.kids, h.pivs, h.chgs, h1, h2, h3, h4⟩
end Go.Proofs.YtolgpnaoaodepaaGreat
/- The walk of the reference's branch. -/
namespace Go.Proofs.YtolgpnaoaodepaaGreat
open Go.RowKit

theorem w64 (x : Int) (h : -9223372036854775808 ≤ x) (h2 : x ≤ 9223372036854775807) : wrap64 x = x := by unfold wrap64; omega
/-- What the reference's branch ends in. -/
def BranchE (w : World) (t : List UInt8) (r : Ending) (w' : World) : Prop :=
  Below w.heap.size w w' ∧ ∃ cl pl ml v, r = .returned (.tuple #[v, .bool (Pg.refBranch t).2]) ∧ (Pg.refBranch t).1 = (cl, lists pl, plainCh ml) ∧ NodeV w.heap.size w' v 2 [] cl pl ml
theorem branchE_no {w wr : World} {t : List UInt8} {nb B : Nat} (hr : ResF w wr) (hn : NdB nb B wr (.int .i64 2) [] [] [] [] (.slice none 0 0) (.slice none 0 0) (.slice none 0 0) (.slice none 0 0)) (hB : w.heap.size < B) (h : Pg.brL t = false) :
    BranchE w t (.returned (.tuple #[.agg #[.int .i64 2, .slice none 0 0, .slice none 0 0, .slice none 0 0, .slice none 0 0], .bool false])) (put5 wr w.heap.size (.int .i64 2) (.slice none 0 0) (.slice none 0 0) (.slice none 0 0) (.slice none 0 0)) := by
  have e : Pg.refBranch t = (([], [], []), false) := by unfold Pg.refBranch; rw [if_neg (by rw [h]; decide)]
  refine ⟨below_put hr.2 (Nat.le_refl _) _ _ _ _ _, [], [], [], _, by rw [e], by rw [e]; rfl, ?_⟩
  exact ((hn.nodeV (by simp) (by simp) (by simp) (by simp)).put hB _ _ _ _ _).shrink (by omega)
theorem nodeB_res {w : World} {b : Nat} {v0 v1 v2 v3 v4 : Value} (h : NodeB w b v0 v1 v2 v3 v4) (u0 u1 u2 u3 u4 : Value) : (put5 w b u0 u1 u2 u3 u4).cell? ⟨b, 0, none⟩ = some u0 ∧ (put5 w b u0 u1 u2 u3 u4).cell? ⟨b, 1, none⟩ = some u1 ∧ (put5 w b u0 u1 u2 u3 u4).cell? ⟨b, 2, none⟩ = some u2 ∧ (put5 w b u0 u1 u2 u3 u4).cell? ⟨b, 3, none⟩ = some u3 ∧ (put5 w b u0 u1 u2 u3 u4).cell? ⟨b, 4, none⟩ = some u4 := by
  obtain ⟨a, b, c, d, e, -⟩ := (h.put u0 u1 u2 u3 u4).cells
  exact ⟨a, b, c, d, e⟩
set_option maxHeartbeats 2000000 in
set_option maxRecDepth 100000 in
theorem branch_any (s : ByteArray) (w : World) (hs : s.size ≤ 10000000) :
    Calls Tryz.prog 154 #[.string s] w fun r w' => BranchE w s.data.toList r w' := by
  have HLS := hid (len_size s)
  have HR0 : Hid (ResF w ((w.alloc (.cells #[.int .i64 0, .slice none 0 0, .slice none 0 0, .slice none 0 0, .slice none 0 0] 79)).alloc (.cells #[.int .i64 2, .slice none 0 0, .slice none 0 0, .slice none 0 0, .slice none 0 0] 79))) :=
    ⟨(nodeB_new w _ _ _ _ _).keep ((Below.refl _ _).alloc (Nat.le_refl _) _), ((Below.refl _ w).alloc (Nat.le_refl _) _).alloc (by simp) _⟩
  have HN0 : Hid (NodeB ((w.alloc (.cells #[.int .i64 0, .slice none 0 0, .slice none 0 0, .slice none 0 0, .slice none 0 0] 79)).alloc (.cells #[.int .i64 2, .slice none 0 0, .slice none 0 0, .slice none 0 0, .slice none 0 0] 79)) (w.heap.size + 1) (.int .i64 2) (.slice none 0 0) (.slice none 0 0) (.slice none 0 0) (.slice none 0 0)) := by
    have := nodeB_new (w.alloc (.cells #[.int .i64 0, .slice none 0 0, .slice none 0 0, .slice none 0 0, .slice none 0 0] 79)) (.int .i64 2) (.slice none 0 0) (.slice none 0 0) (.slice none 0 0) (.slice none 0 0)
    rw [show (w.alloc (.cells #[.int .i64 0, .slice none 0 0, .slice none 0 0, .slice none 0 0, .slice none 0 0] 79)).heap.size = w.heap.size + 1 by simp] at this
    exact this
  have hz0 : w.heap.size + 2 ≤ ((w.alloc (.cells #[.int .i64 0, .slice none 0 0, .slice none 0 0, .slice none 0 0, .slice none 0 0] 79)).alloc (.cells #[.int .i64 2, .slice none 0 0, .slice none 0 0, .slice none 0 0, .slice none 0 0] 79)).heap.size := by simp
  by_cases h68 : s.size < 68
  · have HL : Hid (Pg.brL s.data.toList = false) := by show _ = _; unfold Pg.brL; rw [HLS.out, decide_eq_false (by omega)]; rfl
    have hd : (s.size : Int) < 68 := by omega
    go_enter Tryz.func154, Tryz.ntmps154
    go_upto_if 20 with fail
    generalize (w.alloc (.cells #[.int .i64 0, .slice none 0 0, .slice none 0 0, .slice none 0 0, .slice none 0 0] 79)).alloc (.cells #[.int .i64 2, .slice none 0 0, .slice none 0 0, .slice none 0 0, .slice none 0 0] 79) = w0 at *
    obtain ⟨n0, n1, n2, n3, n4, -⟩ := HN0.out.cells
    obtain ⟨r0, r1, r2, r3, r4, y0, y1, y2, y3, y4⟩ := HR0.out.1.cells
    go_wp2_with fail
    refine bodyPost_ret (v := .tuple #[.agg #[.int .i64 2, .slice none 0 0, .slice none 0 0, .slice none 0 0, .slice none 0 0], .bool false]) ?_ rfl (branchE_no HR0.out (ndB_new HN0.out (by omega) hz0) (by omega) HL.out)
    obtain ⟨q0, q1, q2, q3, q4⟩ := nodeB_res HR0.out.1 (.int .i64 2) (.slice none 0 0) (.slice none 0 0) (.slice none 0 0) (.slice none 0 0)
    unfold put5 at q0 q1 q2 q3 q4
    simp [results, Tryz.results154, go_sem, q0, q1, q2, q3, q4]
  · have hd : ¬ (s.size : Int) < 68 := by omega
    have hi1 : (6 : Int) ≤ (s.size : Int) := by omega
    have hi2 : (8 : Int) ≤ (s.size : Int) := by omega
    have HA : Hid (Pg.high (s.extract 4 6).data.toList = Pg.brA s.data.toList) := by show _ = _; unfold Pg.brA; rw [Lib.extract_data]
    have HBB : Hid (Pg.high (s.extract 6 8).data.toList = Pg.brB s.data.toList) := by show _ = _; unfold Pg.brB; rw [Lib.extract_data]
    have hA64 : Pg.brA s.data.toList < 65536 := Pg.high_lt _ 2 (by rw [List.length_take]; omega)
    have hB64 : Pg.brB s.data.toList < 65536 := Pg.high_lt _ 2 (by rw [List.length_take]; omega)
    go_enter Tryz.func154, Tryz.ntmps154
    go_wp2_with fail
    generalize (w.alloc (.cells #[.int .i64 0, .slice none 0 0, .slice none 0 0, .slice none 0 0, .slice none 0 0] 79)).alloc (.cells #[.int .i64 2, .slice none 0 0, .slice none 0 0, .slice none 0 0, .slice none 0 0] 79) = w0 at *
    refine (high_any _ _ (by rw [ByteArray.size_extract]; omega)).mono ?_
    rintro r w1 ⟨rfl, rfl⟩
    rw [HA.out]
    go_wp2_with fail
    refine (high_any _ _ (by rw [ByteArray.size_extract]; omega)).mono ?_
    rintro r w2 ⟨rfl, rfl⟩
    rw [HBB.out]
    clear HA HBB
    by_cases hlen : s.size = 68 + Pg.brA s.data.toList + Pg.brB s.data.toList
    · have HL : Hid (Pg.brL s.data.toList = true) := by show _ = _; unfold Pg.brL; rw [HLS.out, decide_eq_true hlen, decide_eq_true (by omega : 68 ≤ s.size)]; rfl
      have HRB : Hid (Pg.refBranch s.data.toList = (((Pg.brC s.data.toList).1, (Pg.brV s.data.toList).1, (Pg.brH s.data.toList).1), Pg.brOk s.data.toList)) := by show _ = _; unfold Pg.refBranch; rw [if_pos HL.out]
      have HPD : Hid (Pg.content [112] (s.extract 68 (68 + Pg.brA s.data.toList)).data.toList = Pg.brP s.data.toList) := by show _ = _; unfold Pg.brP; rw [Lib.extract_data, Nat.add_sub_cancel_left]
      have HMD : Hid (Pg.content [109] (s.extract (68 + Pg.brA s.data.toList) s.size).data.toList = Pg.brM s.data.toList) := by
        show _ = _; unfold Pg.brM; rw [Lib.extract_data, List.take_of_length_le (by rw [List.length_drop, HLS.out]; omega)]
      have HND : Hid ((s.data.toList.getD 3 0).toNat = Pg.brN s.data.toList) := rfl
      have hPl := Pg.content_le [112] (s.extract 68 (68 + Pg.brA s.data.toList)).data.toList
      have hMl := Pg.content_le [109] (s.extract (68 + Pg.brA s.data.toList) s.size).data.toList
      rw [HPD.out, len_size, ByteArray.size_extract] at hPl
      rw [HMD.out, len_size, ByteArray.size_extract] at hMl
      have hN : Pg.brN s.data.toList < 256 := (s.data.toList.getD 3 0).toNat_lt
      have HOKD : Hid (Pg.brOk s.data.toList = ((Pg.brP s.data.toList).2 && (Pg.brM s.data.toList).2 && (Pg.brV s.data.toList).2.ends && (Pg.brH s.data.toList).2.ends)) := rfl
      generalize hga : Pg.brA s.data.toList = a at *
      generalize Pg.brB s.data.toList = b at *
      have hd2 : (s.size : Int) = 68 + (a : Int) + (b : Int) := by omega
      have HD2 := hid hd2
      clear hga hd2
      have hd3 : ((s.size : Int) != wrap64 (68 + (a : Int) + (b : Int))) = false := by have := HD2.out; rw [w64 _ (by omega) (by omega)]; simp; omega
      have hx1 : (68 : Int) ≤ 68 + (a : Int) := by omega
      have hx2 : (68 : Int) + (a : Int) ≤ (s.size : Int) := by omega
      have hx3 : (0 : Int) ≤ 68 + (a : Int) := by omega
      have HLN := hid hlen
      clear hlen HL
      have HPL := hid hPl
      have HML := hid hMl
      have HAL := hid hA64
      have HBL := hid hB64
      clear hPl hMl hA64 hB64
      go_wp2_with fail
      refine (content_any ⟨#[112]⟩ (s.extract 68 (68 + a)) w2 (by decide) (by rw [ByteArray.size_extract]; omega)).mono ?_
      rintro r w3 ⟨rfl, hb3⟩
      rw [show (⟨#[112]⟩ : ByteArray).data.toList = [112] from rfl, HPD.out]
      have HR3 := hid (HR0.out.below hb3)
      have HN3 := hid (HN0.out.keep hb3)
      have hs3 := hb3.size
      clear hb3 HPD hd3
      go_wp2_with fail
      refine (content_any ⟨#[109]⟩ (s.extract (68 + a) s.size) w3 (by decide) (by rw [ByteArray.size_extract]; omega)).mono ?_
      rintro r w4 ⟨rfl, hb4⟩
      rw [show (⟨#[109]⟩ : ByteArray).data.toList = [109] from rfl, HMD.out]
      have HR4 := hid (HR3.out.below hb4)
      have HN4 := hid (HN3.out.keep hb4)
      have hs4 := hb4.size
      clear hb4 HMD HR3 HN3 HR0 HN0
      obtain ⟨tp, htp⟩ : ∃ tp, tp = (Pg.brP s.data.toList).1 := ⟨_, rfl⟩
      obtain ⟨tm, htm⟩ : ∃ tm, tm = (Pg.brM s.data.toList).1 := ⟨_, rfl⟩
      have HTP := hid htp
      have HTM := hid htm
      have htpl : tp.length ≤ 1000000000 := by rw [htp]; have := HPL.out; omega
      have html : tm.length ≤ 1000000000 := by rw [htm]; have := HML.out; omega
      rw [← htp, ← htm]
      generalize (Pg.brP s.data.toList).2 = xo at *
      generalize (Pg.brM s.data.toList).2 = yo at *
      clear htp htm HPL HML
      have hzp := size_mk tp
      have hzm := size_mk tm
      have HC5 := hid (curs_new ⟨tp.toArray⟩ w4 (by rw [hzp]; omega))
      have HA5 := (Below.refl w4.heap.size w4).alloc (Nat.le_refl _) (.cells #[.string ⟨tp.toArray⟩, .int .i64 0, .bool false] 259)
      have HR5 := hid (HR4.out.below HA5)
      have HN5 := hid (HN4.out.keep HA5)
      have hs5 : w4.heap.size < (w4.alloc (.cells #[.string ⟨tp.toArray⟩, .int .i64 0, .bool false] 259)).heap.size := by simp
      clear HA5 HR4 HN4
      have hl3 : 3 < s.size := by omega
      have hl3' : (3 : Int) < (s.size : Int) := by omega
      have HB3 : Hid (((s[3]'hl3).toNat : Nat) = Pg.brN s.data.toList) := by
        show _ = _; unfold Pg.brN
        rw [List.getD_eq_getElem?_getD, at_list s 3 hl3]; rfl
      go_wp2_with fail
      generalize w4.alloc (.cells #[.string ⟨tp.toArray⟩, .int .i64 0, .bool false] 259) = w5 at *
      have hcb : w.heap.size + 2 ≤ w4.heap.size := by omega
      generalize w4.heap.size = cb at *
      have HND0 := hid (ndB_new (B := w5.heap.size) HN5.out (by omega) (Nat.le_refl _))
      have HCD : Hid (Pg.brC s.data.toList = Pg.rdNums (Pg.brN s.data.toList) ⟨tp, false⟩) := by show _ = _; unfold Pg.brC; rw [HTP.out]
      have HVD : Hid (Pg.brV s.data.toList = Pg.rdTexts (Pg.brN s.data.toList - 1) (Pg.brC s.data.toList).2) := rfl
      have HHD : Hid (Pg.brH s.data.toList = Pg.chAt ⟨tm, false⟩) := by show _ = _; unfold Pg.brH; rw [HTM.out]
      obtain ⟨N, hNe⟩ : ∃ N, N = Pg.brN s.data.toList := ⟨_, rfl⟩
      rw [← hNe] at HCD HVD hN HB3
      have hb3 : ((s[3]'hl3).toNat : Int) = (N : Int) := by rw [HB3.out]
      clear hNe HND HB3
      go_loopw [12] (fun i wr => ∃ (k : Nat) (cl : List Nat) (c : Pg.Cur) (vc : Value), k ≤ N ∧ i = .int .i64 k ∧ cl.length = k ∧ Curs wr cb c ∧ NdB (w.heap.size + 1) w5.heap.size wr (.int .i64 2) [] cl [] [] (.slice none 0 0) vc (.slice none 0 0) (.slice none 0 0) ∧ ResF w wr ∧ cl ++ (Pg.rdNums (N - k) c).1 = (Pg.brC s.data.toList).1 ∧ (Pg.rdNums (N - k) c).2 = (Pg.brC s.data.toList).2) (fun i _ => N - (intOf i).toNat)
      case atStart => exact ⟨0, [], _, _, Nat.zero_le _, rfl, rfl, HC5.out, HND0.out, HR5.out, by rw [HCD.out]; rfl, by rw [HCD.out]; rfl⟩
      case round =>
        clear HC5 HND0 HR5 HN5
        obtain ⟨k, cl, c, vc, hk, rfl, hcl, hc, hnd, hrf, heq1, heq2⟩ := hrel
        have HCL := hid hcl
        have HC := hid hc
        have HNB := hid hnd
        have HRF := hid hrf
        have HE1 := hid heq1
        have HE2 := hid heq2
        obtain ⟨ca, cc, rfl⟩ := rowShape hnd.kids
        obtain ⟨d2, z2⟩ := hc.cells
        obtain ⟨n0, n1, n2, n3, n4, x0, x1, x2, x3, x4⟩ := hnd.var.cells
        have hlr := hnd.le
        have hcll : cl.length ≤ 255 := by omega
        clear hcl hc hnd hrf heq1 heq2
        by_cases hgo : k < N ∧ c.bad = false
        · obtain ⟨hkn, hbad⟩ := hgo
          rw [hbad] at d2
          obtain ⟨m, hm⟩ : ∃ m, N - k = m + 1 := ⟨N - k - 1, by omega⟩
          have HMK : Hid (m = N - (k + 1)) := by show _ = _; omega
          rw [hm, Pg.rdNums, if_neg (by rw [hbad]; decide)] at HE1 HE2
          have HCN := hid (number_c cb c (World.drew wr) HC.out)
          generalize hc1 : c.number.1 = nv at *
          generalize hc2 : c.number.2 = c' at *
          have hi1 : (k : Int) < (N : Int) := by omega
          clear hm hc1 hc2 hbad
          go_wp2_with fail
          go_region_law (first
            | (refine stepApN _ (by rfl) (.tmp 70) (.tmp 73) (by rfl) w5.heap.size (.slice ca cl.length cc) cl (by simp [Act.eval]) H9.out.kids nv w8.heap.size (by simp [Act.eval]) HCE9.out (by omega) H9.out.le ?_
               intro v9 w9 ho9 hg9 hat9
               obtain ⟨a9, c9, rfl⟩ := rowShape ho9
               have HAP := hid (H9.out.apC ho9 hg9 hat9)
               obtain ⟨e0, e1, e2, e3, e4, y0, y1, y2, y3, y4⟩ := HAP.out.1.cells
               clear ho9 hg9 hat9)
            | (go_simp
               refine HCN.out.mono ?_
               rintro r w8 ⟨rfl, hc8, hb8⟩
               have hb8' := but_drew hb8
               have HC8 := hid hc8
               have HN8 := hid (HNB.out.butLow hb8' (by omega) (by omega))
               have HR8 := hid (HRF.out.but hb8' (by omega))
               have BAL := (Below.refl w8.heap.size w8).alloc (Nat.le_refl _) (.cells #[.int .i64 (nv : Int)] 3)
               have H9 := hid (HN8.out.below BAL)
               have HC9 := hid (HC8.out.below BAL)
               have HR9 := hid (HR8.out.below BAL)
               have HCE9 : Hid ((w8.alloc (.cells #[.int .i64 (nv : Int)] 3)).cell? ⟨w8.heap.size, 0, none⟩ = some (.int .i64 (nv : Int))) := by show _ = _; simp
               obtain ⟨g0, g1, g2, g3, g4, f0, f1, f2, f3, f4⟩ := HN8.out.var.cells
               obtain ⟨-, -, g2a, -, -, -, -, f2a, -, -⟩ := H9.out.var.cells
               clear hc8 hb8 hb8' BAL))
          all_goals
            have HNZ := hid HAP.out.2.1
            have HRZ := hid ((HR9.out.belowB HAP.out.2.2 (by omega)).but (but_set (w.heap.size + 1) 2 w9 (.slice a9 (cl.length + 1) c9)) (by omega))
            have HCZ := hid ((HC9.out.other (HAP.out.2.2.block cb (by omega))).other (Below.heap_setCell w9 (⟨w.heap.size + 1, 2, none⟩ : Addr) (.slice a9 (cl.length + 1) c9) cb (by show cb ≠ w.heap.size + 1; omega)))
            clear HAP H9 HC9 HR9 HCE9
            go_wp2_with fail
            go_roundw
            case rel => exact ⟨k + 1, cl ++ [nv], c', _, by omega, by go_num, by rw [List.length_append, HCL.out]; rfl, HCZ.out, HNZ.out, HRZ.out, by rw [← HMK.out, ← HE1.out]; simp, by rw [← HMK.out, ← HE2.out]⟩
            case measure => simp [intOf]; omega
        · have HSX : Hid (Pg.rdNums (N - k) c = ([], c)) := by
            show _ = _
            rcases Nat.lt_or_ge k N with h | h
            · have hb : c.bad = true := by
                cases hbb : c.bad with
                | true => rfl
                | false => exact absurd ⟨h, hbb⟩ hgo
              rw [show N - k = (N - k - 1) + 1 by omega, Pg.rdNums, if_pos hb]
            · rw [show N - k = 0 by omega]; rfl
          have hsp : (¬ (k : Int) < (N : Int)) ∨ ((k : Int) < (N : Int) ∧ c.bad = true) := by
            rcases Nat.lt_or_ge k N with h | h
            · refine .inr ⟨by omega, ?_⟩
              cases hbb : c.bad with
              | true => rfl
              | false => exact absurd ⟨h, hbb⟩ hgo
            · exact .inl (by omega)
          rw [HSX.out] at HE1 HE2
          have HCF : Hid (cl = (Pg.brC s.data.toList).1) := by show _ = _; rw [← HE1.out]; simp
          have HCS : Hid (c = (Pg.brC s.data.toList).2) := HE2.out
          clear hgo HE1 HE2 HSX
          go_upto_region 12 with fail
          go_cut [66] (fun b wx => b = .bool false ∧ wx = wr)
          case first =>
            rcases hsp with hx | ⟨hx, hy⟩
            · go_wp2_with fail
              go_meet
              exact ⟨rfl, rfl⟩
            · rw [hy] at d2
              go_wp2_with fail
              go_meet
              exact ⟨rfl, rfl⟩
          case rest =>
            obtain ⟨rfl, rfl⟩ := hcut
            clear hsp d2 z2 n0 n1 n2 n3 n4 x0 x1 x2 x3 x4
            rw [← HCS.out] at HVD
            clear HCS
            obtain ⟨M, hM⟩ : ∃ M, M = N - 1 := ⟨_, rfl⟩
            rw [← hM] at HVD
            have hMN : N ≤ M + 1 ∧ (M = 0 ∨ M + 1 ≤ N) := by omega
            clear hM
            go_wp2_with fail
            go_loopw [13] (fun i wr => ∃ (k : Nat) (pl : List ByteArray) (c : Pg.Cur) (vp : Value), k ≤ M ∧ i = .int .i64 k ∧ pl.length = k ∧ Curs wr cb c ∧ NdB (w.heap.size + 1) w5.heap.size wr (.int .i64 2) [] cl pl [] (.slice none 0 0) (.slice ca cl.length cc) vp (.slice none 0 0) ∧ ResF w wr ∧ lists pl ++ (Pg.rdTexts (M - k) c).1 = (Pg.brV s.data.toList).1 ∧ (Pg.rdTexts (M - k) c).2 = (Pg.brV s.data.toList).2) (fun i _ => N - (intOf i).toNat)
            case atStart => exact ⟨0, [], c, _, Nat.zero_le _, rfl, rfl, HC.out, HNB.out, HRF.out, by rw [HVD.out]; rfl, by rw [HVD.out]; rfl⟩
            case round =>
              clear HC HNB HRF HVD hlr hk HCL
              obtain ⟨k, pl, c, vp, hk, rfl, hpl, hc, hnd, hrf, heq1, heq2⟩ := hrel
              have HPLL := hid hpl
              have HC := hid hc
              have HNB := hid hnd
              have HRF := hid hrf
              have HE1 := hid heq1
              have HE2 := hid heq2
              obtain ⟨pa, pc, rfl⟩ := rowShape hnd.pivs
              obtain ⟨d2, z2⟩ := hc.cells
              obtain ⟨n0, n1, n2, n3, n4, x0, x1, x2, x3, x4⟩ := hnd.var.cells
              have hlr := hnd.le
              have hpll : pl.length ≤ 255 := by omega
              clear hpl hc hnd hrf heq1 heq2
              by_cases hgo : k < M ∧ c.bad = false
              · obtain ⟨hkn, hbad⟩ := hgo
                rw [hbad] at d2
                obtain ⟨m, hm⟩ : ∃ m, M - k = m + 1 := ⟨M - k - 1, by omega⟩
                have HMK : Hid (m = M - (k + 1)) := by show _ = _; omega
                rw [hm, Pg.rdTexts, if_neg (by rw [hbad]; decide)] at HE1 HE2
                have HCN := hid (text_c cb 12 c (World.drew wr) HC.out (by omega))
                generalize hc1 : (c.text 12).1 = nv at *
                generalize hc2 : (c.text 12).2 = c' at *
                have hi1 : (k : Int) + 1 < (N : Int) := by omega
                clear hm hc1 hc2 hbad
                go_wp2_with fail
                go_region_law (first
                  | (refine stepApT _ (by rfl) (.tmp 92) (.tmp 95) (by rfl) w5.heap.size (.slice pa pl.length pc) pl (by simp [Act.eval]) H9.out.pivs ⟨nv.toArray⟩ w8.heap.size (by simp [Act.eval]) HCE9.out (by omega) H9.out.le ?_
                     intro v9 w9 ho9 hg9 hat9
                     obtain ⟨a9, c9, rfl⟩ := ho9.shape
                     generalize hl9 : (pl ++ [(⟨nv.toArray⟩ : ByteArray)]).length = l9 at *
                     have HAP := hid (H9.out.apP ho9 hg9 hat9)
                     obtain ⟨e0, e1, e2, e3, e4, y0, y1, y2, y3, y4⟩ := HAP.out.1.cells
                     clear ho9 hg9 hat9 hl9)
                  | (go_simp
                     refine HCN.out.mono ?_
                     rintro r w8 ⟨rfl, hc8, hb8⟩
                     have hb8' := but_drew hb8
                     have HC8 := hid hc8
                     have HN8 := hid (HNB.out.butLow hb8' (by omega) (by omega))
                     have HR8 := hid (HRF.out.but hb8' (by omega))
                     have BAL := (Below.refl w8.heap.size w8).alloc (Nat.le_refl _) (.cells #[.string ⟨nv.toArray⟩] 9)
                     have H9 := hid (HN8.out.below BAL)
                     have HC9 := hid (HC8.out.below BAL)
                     have HR9 := hid (HR8.out.below BAL)
                     have HCE9 : Hid ((w8.alloc (.cells #[.string ⟨nv.toArray⟩] 9)).cell? ⟨w8.heap.size, 0, none⟩ = some (.string ⟨nv.toArray⟩)) := by show _ = _; simp
                     obtain ⟨g0, g1, g2, g3, g4, f0, f1, f2, f3, f4⟩ := HN8.out.var.cells
                     obtain ⟨-, -, -, g3a, -, -, -, -, f3a, -⟩ := H9.out.var.cells
                     clear hc8 hb8 hb8' BAL))
                all_goals
                  have HNZ := hid HAP.out.2.1
                  have HRZ := hid ((HR9.out.belowB HAP.out.2.2 (by omega)).but (but_set (w.heap.size + 1) 3 w9 (.slice a9 l9 c9)) (by omega))
                  have HCZ := hid ((HC9.out.other (HAP.out.2.2.block cb (by omega))).other (Below.heap_setCell w9 (⟨w.heap.size + 1, 3, none⟩ : Addr) (.slice a9 l9 c9) cb (by show cb ≠ w.heap.size + 1; omega)))
                  clear HAP H9 HC9 HR9 HCE9
                  go_wp2_with fail
                  go_roundw
                  case rel => exact ⟨k + 1, pl ++ [⟨nv.toArray⟩], c', _, by omega, by go_num, by rw [List.length_append, HPLL.out]; rfl, HCZ.out, HNZ.out, HRZ.out, by rw [← HMK.out, ← HE1.out, lists_snoc]; simp, by rw [← HMK.out, ← HE2.out]⟩
                  case measure => simp [intOf]; omega
              · have HSX : Hid (Pg.rdTexts (M - k) c = ([], c)) := by
                  show _ = _
                  rcases Nat.lt_or_ge k M with h | h
                  · have hb : c.bad = true := by
                      cases hbb : c.bad with
                      | true => rfl
                      | false => exact absurd ⟨h, hbb⟩ hgo
                    rw [show M - k = (M - k - 1) + 1 by omega, Pg.rdTexts, if_pos hb]
                  · rw [show M - k = 0 by omega]; rfl
                have hsp : (¬ (k : Int) + 1 < (N : Int)) ∨ ((k : Int) + 1 < (N : Int) ∧ c.bad = true) := by
                  rcases Nat.lt_or_ge k M with h | h
                  · refine .inr ⟨by omega, ?_⟩
                    cases hbb : c.bad with
                    | true => rfl
                    | false => exact absurd ⟨h, hbb⟩ hgo
                  · exact .inl (by omega)
                rw [HSX.out] at HE1 HE2
                have HPF : Hid (lists pl = (Pg.brV s.data.toList).1) := by show _ = _; rw [← HE1.out]; simp
                have HPS : Hid (c = (Pg.brV s.data.toList).2) := HE2.out
                clear hgo HE1 HE2 HSX
                go_upto_region 16 with fail
                go_cut [88] (fun b wx => b = .bool false ∧ wx = wr)
                case first =>
                  rcases hsp with hx | ⟨hx, hy⟩
                  · go_wp2_with fail
                    go_meet
                    exact ⟨rfl, rfl⟩
                  · rw [hy] at d2
                    go_wp2_with fail
                    go_meet
                    exact ⟨rfl, rfl⟩
                case rest =>
                  obtain ⟨rfl, rfl⟩ := hcut
                  clear hsp d2 z2 n0 n1 n2 n3 n4 x0 x1 x2 x3 x4
                  have HC6 := hid (curs_new ⟨tm.toArray⟩ wc (by rw [hzm]; omega))
                  have HA6 := (Below.refl wc.heap.size wc).alloc (Nat.le_refl _) (.cells #[.string ⟨tm.toArray⟩, .int .i64 0, .bool false] 259)
                  have HR6 := hid (HRF.out.below HA6)
                  have HN6 := hid (HNB.out.below HA6)
                  have HD6 := hid (HC.out.below HA6)
                  have hs6 : wc.heap.size < (wc.alloc (.cells #[.string ⟨tm.toArray⟩, .int .i64 0, .bool false] 259)).heap.size := by simp
                  have hne1 := own_ne2 HNB.out.kids (Nat.le_refl wc.heap.size)
                  have hne2 := own_ne2 HNB.out.pivs (Nat.le_refl wc.heap.size)
                  have hcl2 : cb < wc.heap.size := by omega
                  clear HA6 HRF HNB HC
                  go_wp2_with fail
                  generalize wc.alloc (.cells #[.string ⟨tm.toArray⟩, .int .i64 0, .bool false] 259) = w6 at *
                  generalize wc.heap.size = db at *
                  refine (changesR_any db ⟨tm, false⟩ w6 HC6.out).mono ?_
                  rintro r w7 ⟨v7, ml, rfl, hml, hml255, ho7, hc7, hb7⟩
                  have HCH : Hid (plainCh ml = (Pg.brH s.data.toList).1) := by show _ = _; rw [HHD.out]; exact hml
                  have HD7 : Hid (Curs w7 db (Pg.brH s.data.toList).2) := by rw [HHD.out]; exact hc7
                  have HN7 := hid (HN6.out.but hb7 (by omega) (by simp [Value.ownBlock]) hne1 hne2 (by simp [Value.ownBlock]))
                  have HR7 := hid (HR6.out.but hb7 (by omega))
                  have HC7 := hid (HD6.out.other (hb7.block cb (by omega) (by simp; omega)))
                  have HO7 := hid ho7
                  obtain ⟨ma, mc, rfl⟩ := rowShape ho7
                  have hs7 := hb7.size
                  have HN8 := hid (HN7.out.setM HO7.out (by have := HN6.out.le; omega) (fun k hk => by simp [Value.ownBlock] at hk) (fun k hk => (World.ownsRow.lt HN6.out.kids k hk).2) (fun k hk => (World.ownsRow.lt HN6.out.pivs k hk).2))
                  have HR8 := hid (HR7.out.but (but_set (w.heap.size + 1) 4 w7 (.slice ma ml.length mc)) (by omega))
                  have HC8 := hid (HC7.out.other (Below.heap_setCell w7 (⟨w.heap.size + 1, 4, none⟩ : Addr) (.slice ma ml.length mc) cb (by show cb ≠ w.heap.size + 1; omega)))
                  have HD8 := hid (HD7.out.other (Below.heap_setCell w7 (⟨w.heap.size + 1, 4, none⟩ : Addr) (.slice ma ml.length mc) db (by show db ≠ w.heap.size + 1; omega)))
                  obtain ⟨n0, n1, n2, n3, n4, x0, x1, x2, x3, x4⟩ := HN7.out.var.cells
                  clear hml ho7 hc7 hb7 HN6 HR6 HD6 HC6 HO7
                  go_wp2_with fail
                  generalize w7.setCell ⟨w.heap.size + 1, 4, none⟩ (.slice ma ml.length mc) = w8 at *
                  clear HN7 HR7 HC7 HD7 n0 n1 n2 n3 n4 x0 x1 x2 x3 x4
                  refine (ends_c cb c w8 HC8.out).mono ?_
                  rintro r w9 ⟨rfl, q, rfl⟩
                  have HN9 := hid (HN8.out.drewN q)
                  have HR9 := hid (HR8.out.drewN q)
                  have HD9 := hid (HD8.out.drewN q)
                  clear HN8 HR8 HC8 HD8
                  rw [HPS.out]
                  go_wp2_with fail
                  generalize w8.drewN q = w9 at *
                  refine (ends_c db _ w9 HD9.out).mono ?_
                  rintro r w10 ⟨rfl, q2, rfl⟩
                  have HN10 := hid (HN9.out.drewN q2)
                  have HR10 := hid (HR9.out.drewN q2)
                  clear HN9 HR9 HD9
                  generalize (Pg.brV s.data.toList).2.ends = vo at *
                  generalize (Pg.brH s.data.toList).2.ends = mo at *
                  generalize w9.drewN q2 = w10 at *
                  have HFIN : Hid (BranchE w s.data.toList (.returned (.tuple #[.agg #[.int .i64 2, .slice none 0 0, .slice ca cl.length cc, .slice pa pl.length pc, .slice ma ml.length mc], .bool (xo && yo && vo && mo)])) (put5 w10 w.heap.size (.int .i64 2) (.slice none 0 0) (.slice ca cl.length cc) (.slice pa pl.length pc) (.slice ma ml.length mc))) := by
                    refine ⟨below_put HR10.out.2 (Nat.le_refl _) _ _ _ _ _, cl, pl, ml, _, by rw [HRB.out, HOKD.out], by rw [HRB.out, HCF.out, HPF.out, HCH.out], ?_⟩
                    exact ((HN10.out.nodeV (by simp) hcll hpll hml255).put (by omega) _ _ _ _ _).shrink (by omega)
                  have h5 : (xo = false) ∨ (xo = true ∧ yo = false) ∨ (xo = true ∧ yo = true ∧ vo = false) ∨ (xo = true ∧ yo = true ∧ vo = true) := by cases xo <;> cases yo <;> cases vo <;> simp
                  obtain ⟨n0, n1, n2, n3, n4, -⟩ := HN10.out.var.cells
                  obtain ⟨r0, r1, r2, r3, r4, y0, y1, y2, y3, y4⟩ := HR10.out.1.cells
                  obtain ⟨q0, q1, q2, q3, q4⟩ := nodeB_res HR10.out.1 (.int .i64 2) (.slice none 0 0) (.slice ca cl.length cc) (.slice pa pl.length pc) (.slice ma ml.length mc)
                  unfold put5 at q0 q1 q2 q3 q4
                  rcases h5 with rfl | ⟨rfl, rfl⟩ | ⟨rfl, rfl, rfl⟩ | ⟨rfl, rfl, rfl⟩
                  · go_wp2_with fail
                    refine bodyPost_ret (v := .tuple #[.agg #[.int .i64 2, .slice none 0 0, .slice ca cl.length cc, .slice pa pl.length pc, .slice ma ml.length mc], .bool false]) ?_ rfl HFIN.out
                    simp [results, Tryz.results154, go_sem, q0, q1, q2, q3, q4]
                  · go_wp2_with fail
                    refine bodyPost_ret (v := .tuple #[.agg #[.int .i64 2, .slice none 0 0, .slice ca cl.length cc, .slice pa pl.length pc, .slice ma ml.length mc], .bool false]) ?_ rfl HFIN.out
                    simp [results, Tryz.results154, go_sem, q0, q1, q2, q3, q4]
                  · go_wp2_with fail
                    refine bodyPost_ret (v := .tuple #[.agg #[.int .i64 2, .slice none 0 0, .slice ca cl.length cc, .slice pa pl.length pc, .slice ma ml.length mc], .bool false]) ?_ rfl HFIN.out
                    simp [results, Tryz.results154, go_sem, q0, q1, q2, q3, q4]
                  · simp only [Bool.true_and] at HFIN
                    go_wp2_with fail
                    refine bodyPost_ret (v := .tuple #[.agg #[.int .i64 2, .slice none 0 0, .slice ca cl.length cc, .slice pa pl.length pc, .slice ma ml.length mc], .bool mo]) ?_ rfl HFIN.out
                    simp [results, Tryz.results154, go_sem, q0, q1, q2, q3, q4]
    · have HL : Hid (Pg.brL s.data.toList = false) := by show _ = _; unfold Pg.brL; rw [HLS.out, decide_eq_false hlen, Bool.and_false]
      generalize Pg.brA s.data.toList = a at *
      generalize Pg.brB s.data.toList = b at *
      have hd2 : ¬ (s.size : Int) = 68 + (a : Int) + (b : Int) := by omega
      have hd3 : ((s.size : Int) == 68 + (a : Int) + (b : Int)) = false := by simp; omega
      obtain ⟨n0, n1, n2, n3, n4, -⟩ := HN0.out.cells
      obtain ⟨r0, r1, r2, r3, r4, y0, y1, y2, y3, y4⟩ := HR0.out.1.cells
      clear hlen
      go_wp2_with fail
      refine bodyPost_ret (v := .tuple #[.agg #[.int .i64 2, .slice none 0 0, .slice none 0 0, .slice none 0 0, .slice none 0 0], .bool false]) ?_ rfl (branchE_no HR0.out (ndB_new HN0.out (by omega) hz0) (by omega) HL.out)
      obtain ⟨q0, q1, q2, q3, q4⟩ := nodeB_res HR0.out.1 (.int .i64 2) (.slice none 0 0) (.slice none 0 0) (.slice none 0 0) (.slice none 0 0)
      unfold put5 at q0 q1 q2 q3 q4
      simp [results, Tryz.results154, go_sem, q0, q1, q2, q3, q4]
end Go.Proofs.YtolgpnaoaodepaaGreat
