/- The walk of Old, of branches. -/
import Derived.Test.YtolgpnaoaodepaaGreatRefKm
import Derived.Test.YtolgpnaoaodepaaGreatRefCm
import Derived.Test.YtolgpnaoaodepaaGreatGenm
import Derived.Maps.AppendAt
namespace Go.Proofs.YtolgpnaoaodepaaGreat
open Go.RowKit
end Go.Proofs.YtolgpnaoaodepaaGreat
/- The walk of Write of the reference. -/
namespace Go.Proofs.YtolgpnaoaodepaaGreat
open Go.RowKit
end Go.Proofs.YtolgpnaoaodepaaGreat
/- The walk of the cursor's changes. -/
namespace Go.Proofs.YtolgpnaoaodepaaGreat
open Go.RowKit
end Go.Proofs.YtolgpnaoaodepaaGreat
/- Lists that are written full with a mark, and grow by it: what is recorded of them stays. -/
namespace Go.Proofs.YtolgpnaoaodepaaGreat
open Go.RowKit

/-- So many marks. -/
def marks (mc : List Value) (n : Nat) : List Value := (List.replicate n mc).flatten
theorem marks_len (mc : List Value) (n : Nat) : (marks mc n).length = n * mc.length := by
  unfold marks; simp [List.length_flatten]
theorem marks_add (mc : List Value) (n m : Nat) : marks mc (n + m) = marks mc n ++ marks mc m := by
  unfold marks; rw [← List.flatten_append, List.replicate_append_replicate]
theorem marks_zero (mc : List Value) : marks mc 0 = [] := rfl
/-- A list that reads as its mark throughout. -/
def Marked (e : TypeId) (mc : List Value) (w : World) (v : Value) : Prop := ∃ a n cap, v = .slice a n cap ∧ n ≤ cap ∧ cap ≤ maxLen ∧ (n = 0 ∨ ∃ g cur, a = some ⟨g, 0, none⟩ ∧ w.heap[g]? = some (.cells cur e (0, 0)) ∧ cur.toList.take (n * mc.length) = marks mc n)
/-- The block that a list lies in, if it has elements. -/
def atBlock : Value → Option Nat
  | .slice (some ⟨g, _, _⟩) (_ + 1) _ => some g
  | _ => none
theorem marked_of {B : Nat} {e : TypeId} {mc : List Value} {w : World} {v : Value} {n : Nat} (h : w.ownsRow B e mc.length v n (marks mc n)) : Marked e mc w v := by
  rcases h.2 with ⟨rfl, hn⟩ | ⟨g, cap, cur, rfl, hbg, hg, hnc, hcm, hcs, ht⟩
  · exact ⟨none, 0, 0, rfl, Nat.le_refl _, Nat.zero_le _, .inl rfl⟩
  · exact ⟨_, _, _, rfl, hnc, hcm, .inr ⟨g, cur, rfl, hg, ht⟩⟩
theorem Marked.keep {e : TypeId} {mc : List Value} {w w' : World} {v : Value} (h : Marked e mc w v) (hb : ∀ g, atBlock v = some g → w'.heap[g]? = w.heap[g]?) : Marked e mc w' v := by
  obtain ⟨a, n, cap, rfl, h1, h2, h3⟩ := h
  refine ⟨a, n, cap, rfl, h1, h2, ?_⟩
  rcases h3 with h3 | ⟨g, cur, rfl, hg, ht⟩
  · exact .inl h3
  · match n, ht with
    | 0, _ => exact .inl rfl
    | n + 1, ht => exact .inr ⟨g, cur, rfl, (hb g rfl).trans hg, ht⟩
theorem Marked.lt {e : TypeId} {mc : List Value} {w : World} {v : Value} (h : Marked e mc w v) {g : Nat} (hg : atBlock v = some g) : g < w.heap.size := by
  obtain ⟨a, n, cap, rfl, -, -, h3⟩ := h
  match n, h3 with
  | 0, _ => simp [atBlock] at hg
  | n + 1, .inl h => omega
  | n + 1, .inr ⟨k, cur, ha, hk, _⟩ =>
    subst ha
    have : k = g := by simpa [atBlock] using hg
    subst this
    exact (Array.getElem?_eq_some_iff.1 hk).1
theorem Marked.below {e : TypeId} {mc : List Value} {w w' : World} {v : Value} (h : Marked e mc w v) (hb : Below w.heap.size w w') : Marked e mc w' v := h.keep fun g hg => hb.block g (h.lt hg)
theorem take_marks {l : List Value} {mc : List Value} {n k : Nat} (h : l.take (n * mc.length) = marks mc n) (hk : k ≤ n) : l.take (k * mc.length) = marks mc k := by
  have : l.take (k * mc.length) = (l.take (n * mc.length)).take (k * mc.length) := by rw [List.take_take, Nat.min_eq_left (Nat.mul_le_mul_right _ hk)]
  rw [this, h, show n = k + (n - k) by omega, marks_add, ← marks_len mc k, List.take_left]
section
variable {P : Program}
/-- append of marks to a row of marks: the new row, the old one, and all that was recorded read as marks. -/
theorem run_append_marks (w : World) (B : Nat) (t ty e : TypeId) (i : TypeInfo) (z : Value) (size bytes : Nat) (ht : P.underlying t = some (.slice e)) (hi : P.info? e = some i) (hz : i.zero = some z)
    (hsize : i.size = size) (hby : i.bytes = bytes) (hzs : z.cells.size = size) (hsz : 0 < size)
    (mc : List Value) (hmc : mc.length = size) (h1 : ∀ u ∈ mc, u.oneCell' = true)
    (v : Value) (n : Nat) (hown : w.ownsRow B e size v n (marks mc n))
    (a : Addr) (m c : Nat) (hnews : ∀ j u, (marks mc m)[j]? = some u → w.cell? (a.add j) = some u)
    (h63 : n + m ≤ maxLen) (hbytes : (n + m) * bytes ≤ 140737488355328) (hbase : B ≤ w.heap.size) :
    ∃ v' w', (Builtin.append_ #[t, t] ty #[v, .slice (some a) m c]).run P w = .ok v' w' ∧ w'.ownsRow B e size v' (n + m) (marks mc (n + m)) ∧ w'.ownsRow B e size v n (marks mc n) ∧ w.grownBy w' v.ownBlock ∧
      (v'.ownBlock = v.ownBlock ∨ v'.ownBlock = some w.heap.size) ∧ (∀ u, Marked e mc w u → Marked e mc w' u) := by
  have hm1 : ∀ u ∈ marks mc m, u.oneCell' = true := by
    intro u hu
    unfold marks at hu
    obtain ⟨l, hl, hul⟩ := List.mem_flatten.1 hu
    rw [(List.mem_replicate.1 hl).2] at hul
    exact h1 u hul
  have hl : (marks mc m).length = m * size := by rw [marks_len, hmc]
  obtain ⟨v', w', hrun, ho, hg, _, hat⟩ := run_append_own_at (P := P) w B t ty e i z size bytes ht hi hz hsize hby hzs hsz v n (marks mc n) hown a m c (marks mc m) hl hnews hm1 h63 hbytes hbase
  rw [← marks_add] at ho
  subst hsize
  subst hby
  rcases hown.2 with ⟨rfl, rfl⟩ | ⟨g, cap, cur, rfl, hbg, hgc, hnc, hcm, hcs, htake⟩
  · exact ⟨v', w', hrun, ho, by rw [marks_zero]; exact World.ownsRow_nil _ _ _ _, hg, hat, fun u hu => hu.keep fun k hk => hg.block k (hu.lt hk) (by simp [Value.ownBlock])⟩
  · by_cases hroom : n + m ≤ cap
    · have hfit : n * i.size + (marks mc m).length ≤ cur.size := by rw [hl, hcs, ← Nat.add_mul]; exact Nat.mul_le_mul_right _ hroom
      have hr := run_append_room (P := P) w t ty e i ht hi g n cap cur hgc a m c (marks mc m) hl hnews hm1 hroom hfit
      rw [hrun] at hr
      simp only [Result.ok.injEq] at hr
      obtain ⟨rfl, rfl⟩ := hr
      have hheap := setRow_heap w g cur (cur.toList.take (n * i.size) ++ marks mc m ++ cur.toList.drop (n * i.size + (marks mc m).length)).toArray e _ hgc
      have hcur : (cur.toList.take (n * i.size) ++ marks mc m ++ cur.toList.drop (n * i.size + (marks mc m).length)).take ((n + m) * i.size) = marks mc (n + m) := by
        rw [htake, ← marks_add]
        have : (marks mc (n + m)).length = (n + m) * i.size := by rw [marks_len, hmc]
        rw [← this]; exact List.take_left
      refine ⟨_, _, hrun, ho, ?_, hg, hat, fun u hu => ?_⟩
      · refine ⟨hown.1, .inr ⟨g, cap, _, rfl, hbg, hheap, hnc, hcm, ?_, ?_⟩⟩
        · simp only [List.size_toArray, List.length_append, List.length_take, List.length_drop, Array.length_toList]
          omega
        · have := take_marks (n := n + m) (k := n) (by rw [hmc]; exact hcur) (by omega)
          rw [hmc] at this
          exact this
      · obtain ⟨au, k, capu, rfl, u1, u2, u3⟩ := hu
        rcases u3 with u3 | ⟨gu, curu, rfl, hgu, htu⟩
        · exact ⟨_, _, _, rfl, u1, u2, .inl u3⟩
        · by_cases he : gu = g
          · subst he
            rw [hgc] at hgu
            simp only [Option.some.injEq, Obj.cells.injEq, and_true] at hgu
            obtain ⟨rfl, -⟩ := hgu
            refine ⟨_, _, _, rfl, u1, u2, .inr ⟨gu, _, rfl, hheap, ?_⟩⟩
            by_cases hk : k ≤ n + m
            · exact take_marks (n := n + m) (by rw [hmc]; exact hcur) hk
            · have hk2 : n + m ≤ k := by omega
              show (cur.toList.take (n * i.size) ++ marks mc m ++ cur.toList.drop (n * i.size + (marks mc m).length)).take (k * mc.length) = _
              rw [htake, ← marks_add, hl, ← Nat.add_mul]
              have e1 : cur.toList.take ((n + m) * i.size) = marks mc (n + m) := by
                have := take_marks htu hk2
                rw [hmc] at this
                exact this
              rw [← e1, List.take_append_drop]
              exact htu
          · exact ⟨_, _, _, rfl, u1, u2, .inr ⟨gu, curu, rfl, (setRow_other w g gu _ he).trans hgu, htu⟩⟩
    · have holds : ∀ j u, (marks mc n)[j]? = some u → w.cell? ((⟨g, 0, none⟩ : Addr).add j) = some u := hown.cells (g := g) rfl
      have hsmall : n + m ≤ 9223372036854775807 := by simp only [maxLen] at h63; omega
      have hr := run_append_grow (P := P) w t ty e i z ht hi hz ⟨g, 0, none⟩ n cap (marks mc n) hown.1 holds a m c (marks mc m) hl hnews (by omega) (by omega) (growslice_fits (by omega) hbytes)
      rw [hrun] at hr
      simp only [Result.ok.injEq] at hr
      obtain ⟨rfl, rfl⟩ := hr
      refine ⟨_, _, hrun, ho, ?_, hg, hat, fun u hu => hu.keep fun k hk => Below.heap_alloc w.drew _ k (hu.lt hk)⟩
      exact ⟨hown.1, .inr ⟨g, cap, cur, rfl, hbg, (Below.heap_alloc w.drew _ g (Array.getElem?_eq_some_iff.1 hgc).1).trans hgc, hnc, hcm, hcs, htake⟩⟩
end
end Go.Proofs.YtolgpnaoaodepaaGreat
