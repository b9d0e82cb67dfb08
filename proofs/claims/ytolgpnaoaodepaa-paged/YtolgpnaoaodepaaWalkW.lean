/- The walks of package wire's Reader. -/
import Derived.Test.YtolgpnaoaodepaaWalkV
import Derived.Test.YtolgpnaoaodepaaMathH
namespace Go.Proofs.Ytolgpnaoaodepaa
open Go.RowKit

/-- Block b holds a reader with these bytes left. -/
def Rd (w : World) (b : Nat) (t : List UInt8) : Prop := w.heap[b]? = some (.cells #[.string ⟨t.toArray⟩] 104 (0, 0))
theorem Rd.cells {w : World} {b : Nat} {t : List UInt8} (h : Rd w b t) : w.cell? ⟨b, 0, none⟩ = some (.string ⟨t.toArray⟩) ∧ w.frozen? ⟨b, 0, none⟩ = false := by
  unfold Rd at h; constructor <;> simp [World.cell?, World.frozen?, h]
theorem Rd.lt {w : World} {b : Nat} {t : List UInt8} (h : Rd w b t) : b < w.heap.size := (Array.getElem?_eq_some_iff.1 h).1
theorem Rd.below {w w' : World} {b B : Nat} {t : List UInt8} (h : Rd w b t) (hb : Below B w w') (hlt : b < B) : Rd w' b t := (hb.block b hlt).trans h
theorem Rd.set {w : World} {b : Nat} {t : List UInt8} (h : Rd w b t) (u : List UInt8) : Rd (w.setCell ⟨b, 0, none⟩ (.string ⟨u.toArray⟩)) b u := by
  unfold Rd at *; rw [heap_setCell_at (i := 0) h]; rfl
theorem Rd.drewN {w : World} {b : Nat} {t : List UInt8} (h : Rd w b t) (q : Nat) : Rd (w.drewN q) b t := h
theorem rd_new (w : World) (t : List UInt8) : Rd (w.alloc (.cells #[.string ⟨t.toArray⟩] 104)) w.heap.size t := heap_alloc_new _ _
/-- How a reader ends: it gave up, or tells something, and this is left. -/
def RdQ {α : Type} (f : α → Value) (b : Nat) (w : World) (o : Option (α × List UInt8)) (r : Ending) (w' : World) : Prop := But b w w' ∧ ((o = none ∧ r = gaveUp) ∨ ∃ x u, o = some (x, u) ∧ r = .returned (f x) ∧ Rd w' b u)
def sv (x : List UInt8) : Value := .string ⟨x.toArray⟩
def nv (n : Nat) : Value := .int .i64 (n : Int)
def bv (b : UInt8) : Value := .int .u8 (b.toNat : Int)
theorem ext_take (t : List UInt8) (n : Nat) : (⟨t.toArray⟩ : ByteArray).extract 0 n = ⟨(t.take n).toArray⟩ := bytes_ext (by rw [Lib.extract_data]; simp)
theorem ext_drop (t : List UInt8) (n m : Nat) (h : m = t.length) : (⟨t.toArray⟩ : ByteArray).extract n m = ⟨(t.drop n).toArray⟩ := by
  have := drop_data ⟨t.toArray⟩ n
  rw [size_mk] at this
  subst h
  exact bytes_ext (by rw [this])

set_option maxHeartbeats 1000000 in
theorem newReader_any (t : List UInt8) (w : World) :
    Calls Try.prog 64 #[.string ⟨t.toArray⟩] w fun r w' => r = .returned (.pointer (some ⟨w.heap.size, 0, none⟩)) ∧ w' = w.alloc (.cells #[.string ⟨t.toArray⟩] 104) := by
  go_enter Try.func64, Try.ntmps64
  go_wp2_with fail
  go_ret
  exact ⟨rfl, rfl⟩

set_option maxHeartbeats 1000000 in
set_option maxRecDepth 20000 in
theorem rtake_any (b n : Nat) (t : List UInt8) (w : World) (hr : Rd w b t) :
    Calls Try.prog 65 #[.pointer (some ⟨b, 0, none⟩), .int .i64 n] w fun r w' => RdQ sv b w (Pr.takeR n t) r w' := by
  obtain ⟨c0, z0⟩ := hr.cells
  have HR := hid hr
  clear hr
  have hzz := size_mk t
  go_enter Try.func65, Try.ntmps65
  by_cases hn : n ≤ t.length
  · have HT := hid (Pr.takeR_yes hn)
    have HE1 := hid (ext_take t n)
    have HE2 := hid (ext_drop t n t.length rfl)
    go_wp2_with fail
    refine (unless_yes _).mono ?_
    rintro r w1 ⟨rfl, rfl⟩
    have hi1 : (0 : Int) ≤ (n : Int) := by omega
    have hi2 : (n : Int) ≤ (t.length : Int) := by omega
    go_wp2_with fail
    go_ret
    refine ⟨but_set _ _ _ _, .inr ⟨_, _, HT.out, ?_, ?_⟩⟩
    · unfold sv; rw [← HE1.out]; rfl
    · rw [HE2.out]; exact HR.out.set _
  · have HT := hid (Pr.takeR_no hn)
    go_wp2_with fail
    refine (unless_no _).mono ?_
    rintro r w1 ⟨rfl, rfl⟩
    unfold gaveUp
    go_wp2_with fail
    exact ⟨rfl, but_refl _ _, .inl ⟨HT.out, rfl⟩⟩

set_option maxHeartbeats 1000000 in
set_option maxRecDepth 20000 in
theorem rbyte_any (b : Nat) (t : List UInt8) (w : World) (hr : Rd w b t) :
    Calls Try.prog 66 #[.pointer (some ⟨b, 0, none⟩)] w fun r w' => RdQ bv b w (Pr.byteR t) r w' := by
  go_enter Try.func66, Try.ntmps66
  have HC := hid (rtake_any b 1 t w hr)
  clear hr
  go_wp2_with fail
  refine HC.out.mono ?_
  rintro r w1 ⟨hb1, ⟨hn, rfl⟩ | ⟨x, u, hs, rfl, hr1⟩⟩
  · have HT : Hid (Pr.byteR t = none) := by
      show _ = _
      cases t with
      | nil => rfl
      | cons a r => simp [Pr.takeR] at hn
    have HB := hid hb1
    clear hb1 hn
    unfold gaveUp
    go_wp2_with fail
    exact ⟨rfl, HB.out, .inl ⟨HT.out, rfl⟩⟩
  · obtain ⟨a, rfl, HT⟩ : ∃ a, x = [a] ∧ Hid (Pr.byteR t = some (a, u)) := by
      obtain ⟨h1, h2⟩ := Pr.takeR_len hs
      match x, h1 with
      | [a], _ => exact ⟨a, rfl, by rw [h2]; exact rfl⟩
    have HB := hid hb1
    have HR := hid hr1
    clear hb1 hr1 hs
    unfold sv
    go_wp2_with fail
    go_ret
    exact ⟨HB.out, .inr ⟨_, _, HT.out, rfl, HR.out⟩⟩
set_option maxHeartbeats 1000000 in
theorem rend_any (b : Nat) (t : List UInt8) (w : World) (hr : Rd w b t) :
    Calls Try.prog 68 #[.pointer (some ⟨b, 0, none⟩)] w fun r w' => r = (if t = [] then .returned (.tuple #[]) else gaveUp) ∧ w' = w := by
  obtain ⟨c0, z0⟩ := hr.cells
  clear hr
  go_enter Try.func68, Try.ntmps68
  generalize hE : (if t = [] then Ending.returned (.tuple #[]) else gaveUp) = E
  have HE := hid hE
  clear hE
  cases t with
  | nil =>
    go_wp2_with fail
    refine (unless_yes _).mono ?_
    rintro r w1 ⟨rfl, rfl⟩
    go_wp2_with fail
    go_end0
    exact ⟨HE.out, rfl⟩
  | cons a r =>
    go_wp2_with fail
    refine (unless_no _).mono ?_
    rintro r w1 ⟨rfl, rfl⟩
    unfold gaveUp
    go_wp2_with fail
    exact ⟨rfl, HE.out, rfl⟩
end Go.Proofs.Ytolgpnaoaodepaa
