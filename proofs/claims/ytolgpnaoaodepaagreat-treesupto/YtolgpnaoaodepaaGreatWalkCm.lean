/- The walk of appendRun. -/
import Derived.Test.YtolgpnaoaodepaaGreatMathAm
import Derived.Deep.RegionLaw
namespace Go.Proofs.YtolgpnaoaodepaaGreat
open Go.RowKit

theorem len_size (t : ByteArray) : t.data.toList.length = t.size := by simp
theorem drop_data (t : ByteArray) (n : Nat) : (t.extract n t.size).data.toList = t.data.toList.drop n := by
  rw [Lib.extract_data, List.take_of_length_le (by rw [List.length_drop, len_size]; exact Nat.le_refl _)]
end Go.Proofs.YtolgpnaoaodepaaGreat
/- The walk of the program's Squeeze. -/
namespace Go.Proofs.YtolgpnaoaodepaaGreat
open Go.RowKit

end Go.Proofs.YtolgpnaoaodepaaGreat
/- Two rows that a call owns. -/
namespace Go.Proofs.YtolgpnaoaodepaaGreat
open Go.RowKit
/-- Two rows that are not one. -/
def Apart (u v : Value) : Prop := ∀ k, u.ownBlock = some k → v.ownBlock ≠ some k
theorem Owns.kept {B : Nat} {w w' : World} {v : Value} {l : List UInt8} {row : Option Nat} (h : Owns B w v l) (hg : w.grownBy w' row) (hne : v.ownBlock = none ∨ v.ownBlock ≠ row) : Owns B w' v l := World.ownsRow.kept h hg hne

theorem grown_after_alloc {w w' : World} {ob : Obj} {r : Option Nat} (h : (w.alloc ob).grownBy w' r) : w.grownBy w' r :=
  ⟨h.os, h.tape, h.output, by have := h.size; simp at this; omega, fun k hk hr => (h.block k (by simp; omega) hr).trans (Below.heap_alloc _ _ _ hk)⟩
theorem Owns.shape_pos {B : Nat} {w : World} {v : Value} {l : List UInt8} (h : Owns B w v l) (hp : 0 < l.length) : ∃ g cap, v = .slice (some ⟨g, 0, none⟩) l.length cap ∧ B ≤ g ∧ g < w.heap.size := by
  rcases h.2 with ⟨rfl, hn⟩ | ⟨g, cap, cur, rfl, hb, hg, _⟩
  · omega
  · exact ⟨g, cap, rfl, hb, (Array.getElem?_eq_some_iff.1 hg).1⟩
theorem Owns.cells {B : Nat} {w : World} {g n c : Nat} {l : List UInt8} (h : Owns B w (.slice (some ⟨g, 0, none⟩) n c) l) : ∀ j u, (Lib.byteCells l)[j]? = some u → w.cell? ((⟨g, 0, none⟩ : Addr).add j) = some u := World.ownsRow.cells h rfl
/-- One of two rows is appended to: the other one stays, and they stay apart. -/
theorem app_apart {B : Nat} {w w' : World} {u v v' : Value} {lu lv : List UInt8} (hu : Owns B w u lu) (hv : Owns B w v lv) (hB : B ≤ w.heap.size) (hap : Apart u v) (hg : w.grownBy w' v.ownBlock) (hat : v'.ownBlock = v.ownBlock ∨ ∃ k, w.heap.size ≤ k ∧ v'.ownBlock = some k) : Owns B w' u lu ∧ Apart u v' ∧ Below B w w' := by
  refine ⟨hu.kept hg ?_, ?_, (Below.refl B w).grown hg hB fun k hk => (World.ownsRow.lt hv k hk).1⟩
  · cases h : u.ownBlock with
    | none => exact .inl rfl
    | some k => exact .inr (fun e => hap k h e.symm)
  · intro k hk e
    have hlt := (World.ownsRow.lt hu k hk).2
    rcases hat with h | ⟨j, hj, h⟩
    · rw [h] at e; exact hap k hk e
    · rw [h] at e; have : j = k := by simpa using e
      omega
theorem Apart.symm {u v : Value} (h : Apart u v) : Apart v u := fun k hk e => h k e hk
theorem apart_nil (u : Value) : Apart u (.slice none 0 0) := fun k _ e => by simp [Value.ownBlock] at e
end Go.Proofs.YtolgpnaoaodepaaGreat
/- What append does to bytes that a call owns, as a step of a region that draws its order. -/
namespace Go.Proofs.YtolgpnaoaodepaaGreat
open Go.RowKit

end Go.Proofs.YtolgpnaoaodepaaGreat
