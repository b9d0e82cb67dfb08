/- Two rows that a call owns. -/
import Derived.Test.YtolgpnaoaodepaaGreatOwnAm
import Derived.Deep.RegionLaw
namespace Go.Proofs.YtolgpnaoaodepaaGreat
open Go.RowKit
/-- Two rows that are not one. -/
def Apart (u v : Value) : Prop := ∀ k, u.ownBlock = some k → v.ownBlock ≠ some k
theorem Owns.kept {B : Nat} {w w' : World} {v : Value} {l : List UInt8} {row : Option Nat} (h : Owns B w v l) (hg : w.grownBy w' row) (hne : v.ownBlock = none ∨ v.ownBlock ≠ row) : Owns B w' v l := World.ownsRow.kept h hg hne

theorem grown_after_alloc {w w' : World} {ob : Obj} {r : Option Nat} (h : (w.alloc ob).grownBy w' r) : w.grownBy w' r :=
  ⟨h.os, h.tape, h.output, by have := h.size; simp at this; omega, fun k hk hr => (h.block k (by simp; omega) hr).trans (Below.heap_alloc _ _ _ hk)⟩
theorem Owns.shape_pos {B : Nat} {w : World} {v : Value} {l : List UInt8} (h : Owns B w v l) (hp : 0 < l.length) : ∃ g cap, v = .slice (some ⟨g, 0, none⟩) l.length cap ∧ B ≤ g ∧ g < w.heap.size := by
  rcases h.2 with ⟨rfl, hn⟩ | ⟨g, cap, cur, rfl, hb, hg, _⟩
  · omega
  · exact ⟨g, cap, rfl, hb, (Array.getElem?_eq_some_iff.1 hg).1⟩
theorem Owns.cells {B : Nat} {w : World} {g n c : Nat} {l : List UInt8} (h : Owns B w (.slice (some ⟨g, 0, none⟩) n c) l) : ∀ j u, (Lib.byteCells l)[j]? = some u → w.cell? ((⟨g, 0, none⟩ : Addr).add j) = some u := World.ownsRow.cells h rfl
/-- One of two rows is appended to: the other one stays, and they stay apart. -/
theorem app_apart {B : Nat} {w w' : World} {u v v' : Value} {lu lv : List UInt8} (hu : Owns B w u lu) (hv : Owns B w v lv) (hB : B ≤ w.heap.size) (hap : Apart u v) (hg : w.grownBy w' v.ownBlock) (hat : v'.ownBlock = v.ownBlock ∨ ∃ k, w.heap.size ≤ k ∧ v'.ownBlock = some k) : Owns B w' u lu ∧ Apart u v' ∧ Below B w w' := by
  refine ⟨hu.kept hg ?_, ?_, (Below.refl B w).grown hg hB fun k hk => (World.ownsRow.lt hv k hk).1⟩
  · cases h : u.ownBlock with
    | none => exact .inl rfl
    | some k => exact .inr (fun e => hap k h e.symm)
  · intro k hk e
    have hlt := (World.ownsRow.lt hu k hk).2
    rcases hat with h | ⟨j, hj, h⟩
    · rw [h] at e; exact hap k hk e
    · rw [h] at e; have : j = k := by simpa using e
      omega
theorem Apart.symm {u v : Value} (h : Apart u v) : Apart v u := fun k hk e => h k e hk
theorem apart_nil (u : Value) : Apart u (.slice none 0 0) := fun k _ e => by simp [Value.ownBlock] at e
end Go.Proofs.YtolgpnaoaodepaaGreat
/- What append does to bytes that a call owns, as a step of a region that draws its order. -/
namespace Go.Proofs.YtolgpnaoaodepaaGreat
open Go.RowKit

/-- append(v, s...), s a string, as a step of a region that draws. -/
theorem stepApS (w : World) {ops : Array Oper} {o : Oper} {a : Act} {K : Act → World → Prop} {Q : Exit → Act → World → Prop} {E : Prop} (hgd : o.guard = none) (sl x : Operand)
    (ho : o.op = Op.call { callee := Callee.builtin Builtin.append, args := #[sl, x], argTypes := #[108, 9] }) (B : Nat) (v : Value) (l : List UInt8) (hs : a.eval sl = v) (hown : Owns B w v l)
    (s : ByteArray) (hx : a.eval x = .string s) (hb : l.length + s.size ≤ 140737488355328) (hB : B ≤ w.heap.size)
    (h : ∀ (v' : Value) (w' : World), Owns B w' v' (l ++ s.data.toList) → Below B w w' → K (a.put o.dst v') w') : if Region.wanted o (yielded ops a.tmps) = true then Oper.wp Tryz.prog o a w K Q else E := by
  have hw : Region.wanted o (yielded ops a.tmps) = true := by simp [Region.wanted, hgd]
  rw [if_pos hw]
  obtain ⟨i, hi, hz0, hz1, hz2⟩ := info_parts info_u8
  obtain ⟨v', w', hrun, ho', hg, _⟩ := Lib.run_append_own_string w B 108 9 o.type 5 i Tryz.underlying108 Tryz.underlying9 hi hz0 hz1 hz2 v l.length (Lib.byteCells l) hown s (by unfold maxLen; omega) hb hB
  have e1 : Lib.byteCells (l ++ s.data.toList) = Lib.byteCells l ++ Lib.strCells s := by rw [Lib.byteCells_append]; rfl
  have hK : K (a.put o.dst v') w' := by
    refine h v' w' ?_ ((Below.refl B w).grown hg hB fun k hk => (World.ownsRow.lt hown k hk).1)
    unfold Owns
    rw [e1, List.length_append, show s.data.toList.length = s.size by simp]
    exact ho'
  unfold Oper.wp
  simp [execOp, ho, resolve, invoke, builtin, hs, hx, hrun, Result.andThen]
  exact hK
end Go.Proofs.YtolgpnaoaodepaaGreat
/- The walks of giveup.Unless, unpackRun, unpackMatch. -/
namespace Go.Proofs.YtolgpnaoaodepaaGreat
open Go.RowKit

theorem Owns.cellAt {B : Nat} {w : World} {g n c : Nat} {l : List UInt8} (h : Owns B w (.slice (some ⟨g, 0, none⟩) n c) l) (j : Nat) (b : UInt8) (hj : l[j]? = some b) : w.cell? ⟨g, j, none⟩ = some (.int .u8 (b.toNat : Int)) := by
  have := h.cells j (.int .u8 (b.toNat : Int)) (by simp [Lib.byteCells, hj])
  by_cases h0 : j = 0
  · subst h0; simpa [Addr.add] using this
  · simpa [Addr.add, h0] using this
/-- How reading gives up. -/
def gaveUp : Ending := .panicked [{ v := .iface 148 (.agg #[]), recovered := false }]

set_option maxHeartbeats 400000 in
theorem unless_yes (w : World) : Calls Tryz.prog 73 #[.bool true] w fun r w' => r = .returned (.tuple #[]) ∧ w' = w := by
  go_enter Tryz.func73, Tryz.ntmps73
  go_wp2
  go_end0
  exact ⟨rfl, rfl⟩
set_option maxHeartbeats 400000 in
theorem unless_no (w : World) : Calls Tryz.prog 73 #[.bool false] w fun r w' => r = gaveUp ∧ w' = w := by
  go_enter Tryz.func73, Tryz.ntmps73
  go_wp2
  simp [bodyPost, gaveUp]
set_option maxHeartbeats 1000000 in
theorem unrun_no (s : ByteArray) (v : Value) (w : World) (h0 : 0 < s.size) (hn : s.size < (s[0]'h0).toNat + 2) :
    Calls Tryz.prog 253 #[v, .string s] w fun r w' => r = gaveUp ∧ w' = w := by
  have hc : ((s[0]'h0).toNat : Int) < 256 := by have := (s[0]'h0).toNat_lt; omega
  go_enter Tryz.func253, Tryz.ntmps253
  go_wp2_with fail
  rw [show decide ((((s[0]'h0).toNat : Nat) : Int) + 2 ≤ (s.size : Int)) = false by simp; omega]
  refine (unless_no _).mono ?_
  rintro r w1 ⟨rfl, rfl⟩
  unfold gaveUp
  go_wp2_with fail
  simp [bodyPost, gaveUp]
set_option maxHeartbeats 1000000 in
theorem unrun_yes (B : Nat) (s : ByteArray) (v : Value) (l : List UInt8) (w : World) (hs : s.size ≤ 35184372088832) (h0 : 0 < s.size) (hn : (s[0]'h0).toNat + 2 ≤ s.size) (hown : Owns B w v l) (hB : B ≤ w.heap.size) (hl : l.length ≤ 70368744177664) :
    Calls Tryz.prog 253 #[v, .string s] w fun r w' => ∃ v', r = .returned (.tuple #[v', .string (s.extract ((s[0]'h0).toNat + 2) s.size)]) ∧ Owns B w' v' (l ++ (s.data.toList.drop 1).take ((s[0]'h0).toNat + 1)) ∧ Below B w w' := by
  have hc : ((s[0]'h0).toNat : Int) < 256 := by have := (s[0]'h0).toNat_lt; omega
  have HOWN := hid hown
  clear hown
  go_enter Tryz.func253, Tryz.ntmps253
  go_wp2_with fail
  rw [show decide ((((s[0]'h0).toNat : Nat) : Int) + 2 ≤ (s.size : Int)) = true by simp; omega]
  refine (unless_yes _).mono ?_
  rintro r w1 ⟨rfl, rfl⟩
  generalize hn0 : (s[0]'h0).toNat = n at *
  have HN0 := hid hn0
  clear hn0
  have h1 : (1 : Int) ≤ (n : Int) + 2 := by omega
  have h2 : (n : Int) + 2 ≤ (s.size : Int) := by omega
  have h3 : (0 : Int) ≤ (n : Int) + 2 := by omega
  go_wp2_with fail
  go_region_law (refine stepApS _ (by rfl) (.tmp 16) (.tmp 19) (by rfl) B v l (by simp [Act.eval, Act.put]) (by first | exact HOWN.out | exact HOWN.out.drew) (s.extract 1 ((n : Int) + 2).toNat) (by simp [Act.eval, Act.put]) (by rw [ByteArray.size_extract]; omega) (by first | exact hB | exact (show B ≤ (World.drew w1).heap.size from hB)) ?_; intro v' w' ho' hb')
  all_goals go_wp2_with fail
  go_ret2
  refine ⟨v', ?_, ?_, (Below.refl B w1).drew.trans hb'⟩
  · rw [HN0.out]; rfl
  · rw [HN0.out]
    rw [Lib.extract_data] at ho'
    rw [show ((n : Int) + 2).toNat - 1 = n + 1 by omega] at ho'
    exact ho'

theorem sub_int (n : Nat) (h : 128 ≤ n) : ((n : Int) - 125) = ((n - 125 : Nat) : Int) := by omega
set_option maxHeartbeats 1000000 in
theorem unmat_short (s : ByteArray) (v : Value) (w : World) (h : s.size < 2) :
    Calls Tryz.prog 254 #[v, .string s] w fun r w' => r = gaveUp ∧ w' = w := by
  go_enter Tryz.func254, Tryz.ntmps254
  go_wp2_with fail
  rw [show decide ((2 : Int) ≤ (s.size : Int)) = false by simp; omega]
  refine (unless_no _).mono ?_
  rintro r w1 ⟨rfl, rfl⟩
  unfold gaveUp
  go_wp2_with fail
  simp [bodyPost, gaveUp]
set_option maxHeartbeats 1000000 in
theorem unmat_no (B : Nat) (s : ByteArray) (v : Value) (l : List UInt8) (w : World) (hown : Owns B w v l) (h1 : 1 < s.size) (h128 : 128 ≤ (s[0]'(by omega)).toNat) (hn : ¬ ((s[0]'(by omega)).toNat ≤ 191 ∧ 1 ≤ (s[1]'h1).toNat ∧ (s[1]'h1).toNat ≤ l.length)) :
    Calls Tryz.prog 254 #[v, .string s] w fun r w' => r = gaveUp ∧ ∃ q, w' = w.drewN q := by
  obtain ⟨va, vc, rfl⟩ := hown.shape
  have hc0 := (s[0]'(by omega)).toNat_lt
  have hc1 := (s[1]'h1).toNat_lt
  go_enter Tryz.func254, Tryz.ntmps254
  go_wp2_with fail
  rw [show decide ((2 : Int) ≤ (s.size : Int)) = true by simp; omega]
  refine (unless_yes _).mono ?_
  rintro r w1 ⟨rfl, rfl⟩
  have hi0 : (0 : Int) < (s.size : Int) := by omega
  have hi2 : 0 < s.size := by omega
  have hi1 : (1 : Int) < (s.size : Int) := by omega
  go_wp2_with fail
  go_quiet (fail)
  generalize hn0 : (s[0]'(by omega)).toNat = n at *
  generalize hd0 : (s[1]'h1).toNat = d at *
  clear hn0 hd0
  go_wp2_with fail
  by_cases h191 : n ≤ 191
  · rw [show decide ((n : Int) - 125 ≤ 66) = true by simp; omega]
    refine (unless_yes _).mono ?_
    rintro r w2 ⟨rfl, rfl⟩
    by_cases hd1 : 1 ≤ d
    · go_wp2_with fail
      rw [show decide (d ≤ l.length) = false by simp; omega]
      refine (unless_no _).mono ?_
      rintro r w1 ⟨rfl, rfl⟩
      unfold gaveUp
      go_wp2_with fail
      simp [bodyPost, gaveUp]
      exact ⟨nq, rfl⟩
    · have hd2 : decide ((1 : Int) ≤ (d : Int)) = false := by simp; omega
      go_wp2_with fail
      refine (unless_no _).mono ?_
      rintro r w1 ⟨rfl, rfl⟩
      unfold gaveUp
      go_wp2_with fail
      simp [bodyPost, gaveUp]
      exact ⟨nq, rfl⟩
  · rw [show decide ((n : Int) - 125 ≤ 66) = false by simp; omega]
    refine (unless_no _).mono ?_
    rintro r w1 ⟨rfl, rfl⟩
    unfold gaveUp
    go_wp2_with fail
    simp [bodyPost, gaveUp]
    exact ⟨nq, rfl⟩

set_option maxHeartbeats 2000000 in
theorem unmat_yes (B : Nat) (s : ByteArray) (v : Value) (l : List UInt8) (w : World) (hs : s.size ≤ 35184372088832) (hown : Owns B w v l) (hB : B ≤ w.heap.size) (hl : l.length ≤ 70368744177664) (h1 : 1 < s.size) (h128 : 128 ≤ (s[0]'(by omega)).toNat) (hn : (s[0]'(by omega)).toNat ≤ 191 ∧ 1 ≤ (s[1]'h1).toNat ∧ (s[1]'h1).toNat ≤ l.length) :
    Calls Tryz.prog 254 #[v, .string s] w fun r w' => ∃ v', r = .returned (.tuple #[v', .string (s.extract 2 s.size)]) ∧ Owns B w' v' (Sq.copyN l (s[1]'h1).toNat ((s[0]'(by omega)).toNat - 125)) ∧ Below B w w' := by
  obtain ⟨va, vc, rfl⟩ := hown.shape
  have HOWN := hid hown
  clear hown
  have hc0 := (s[0]'(by omega)).toNat_lt
  have hc1 := (s[1]'h1).toNat_lt
  go_enter Tryz.func254, Tryz.ntmps254
  go_wp2_with fail
  rw [show decide ((2 : Int) ≤ (s.size : Int)) = true by simp; omega]
  refine (unless_yes _).mono ?_
  rintro r w1 ⟨rfl, rfl⟩
  have hi0 : (0 : Int) < (s.size : Int) := by omega
  have hi2 : 0 < s.size := by omega
  have hi1 : (1 : Int) < (s.size : Int) := by omega
  go_wp2_with fail
  go_quiet (fail)
  generalize hn0 : (s[0]'(by omega)).toNat = n at *
  generalize hd0 : (s[1]'h1).toNat = d at *
  have HN0 := hid hn0
  have HD0 := hid hd0
  clear hn0 hd0
  go_wp2_with fail
  rw [show decide ((n : Int) - 125 ≤ 66) = true by simp; omega]
  refine (unless_yes _).mono ?_
  rintro r w2 ⟨rfl, rfl⟩
  go_wp2_with fail
  refine (unless_yes _).mono ?_
  rintro r w2 ⟨rfl, rfl⟩
  go_wp2_with fail
  go_loopw [0, 32] (fun u i wr => ∃ k : Nat, k + 125 ≤ n ∧ i = .int .i64 k ∧ Owns B wr u (Sq.copyN l d k) ∧ Below B w1 wr) (fun _ i _ => n - (intOf i).toNat)
  case atStart => exact ⟨0, by omega, rfl, HOWN.out.drewN _, below_drewN (Below.refl _ _) _⟩
  case round =>
    obtain ⟨k, hk, rfl, ho, hb⟩ := hrel
    have HLEN := hid (Sq.copyN_len k l d)
    have HO := hid ho
    have HB := hid hb
    have hsz := hb.size
    clear ho hb
    by_cases hlt : k + 125 < n
    · have HS := hid (Sq.copyN_succ k l d)
      generalize hcy : Sq.copyN l d k = cy at *
      have hl1 : d ≤ cy.length ∧ cy.length ≤ 140737488355000 ∧ 1 ≤ cy.length := by have := HLEN.out; omega
      obtain ⟨b, hb⟩ : ∃ b, cy[cy.length - d]? = some b := ⟨cy[cy.length - d]'(by omega), List.getElem?_eq_getElem _⟩
      obtain ⟨g, c, hv, hg1, hg2⟩ := HO.out.shape_pos (by omega)
      subst hv
      have hcell := HO.out.cellAt (cy.length - d) b hb
      have HBB := hid hb
      clear hb hcy
      generalize hcl : cy.length = m at *
      have HCL := hid hcl
      clear hcl
      have hi3 : (0 : Int) ≤ (m : Int) - (d : Int) := by omega
      have hi4 : (m : Int) - (d : Int) < (m : Int) := by omega
      go_wp2_with (first
        | (at_builtin; refine wpAp1 wr rfl (.tmp 34) (.tmp 42) rfl B (.slice (some ⟨g, 0, none⟩) m c) cy rfl HO.out b _ rfl rfl (by rw [HCL.out]; omega) (by omega) ?_))
      intro v2 w2 ho2 hg2 _
      have HO2 := hid ho2
      have HB2 := hid (HB.out.trans (below_of_grown HO.out (by omega) hg2))
      clear ho2 hg2
      go_wp2_with fail
      go_roundw
      case rel =>
        refine ⟨k + 1, by omega, by go_num, ?_, HB2.out⟩
        rw [HS.out, List.getD_eq_getElem?_getD, HBB.out]
        exact HO2.out
      case measure => simp [intOf]; omega
    · go_wp2_with fail
      have hi5 : (2 : Int) ≤ (s.size : Int) := by omega
      go_quiet (fail)
      go_wp2_with fail
      go_ret2
      refine ⟨_, rfl, ?_, below_drewN HB.out _⟩
      rw [HN0.out, HD0.out, show n - 125 = k by omega]
      exact HO.out.drewN _
end Go.Proofs.YtolgpnaoaodepaaGreat
