/- The walks of silt's Fetch: its literal, Catch around it. -/
import Derived.Test.YtolgpnaoaodepaaWalkAD
namespace Go.Proofs.Ytolgpnaoaodepaa
open Go.RowKit

def valS (x : Option (List UInt8)) : ByteArray := match x with
  | none => ⟨#[]⟩
  | some v => ⟨v.toArray⟩
def LitQ (b : Nat) (w : World) (o : Option (Option (List UInt8))) (r : Ending) (w' : World) : Prop := But b w w' ∧ ((o = none ∧ r = gaveUp) ∨ ∃ x, o = some x ∧ r = .returned (.string (valS x)) ∧ w'.cell? ⟨b, 0, none⟩ = some (.bool x.isSome))
theorem fetch_cases (o : Option (Option (List UInt8))) : (o = none ∧ fetchEnd o = gaveUp) ∨ ∃ x, o = some x ∧ fetchEnd o = .returned (.tuple #[.string (valS x), .bool x.isSome]) := by
  cases o with
  | none => exact .inl ⟨rfl, rfl⟩
  | some x =>
    cases x with
    | none => exact .inr ⟨none, rfl, rfl⟩
    | some v => exact .inr ⟨some v, rfl, rfl⟩

set_option maxHeartbeats 1000000 in
theorem fetchLit_any (b1 b2 b3 : Nat) (t : List UInt8) (key : ByteArray) (f : Bool) (w : World) (h1 : w.cell? ⟨b1, 0, none⟩ = some (.string ⟨t.toArray⟩)) (h2 : w.cell? ⟨b2, 0, none⟩ = some (.string key)) (h3 : w.cell? ⟨b3, 0, none⟩ = some (.bool f)) (hz : w.frozen? ⟨b3, 0, none⟩ = false) (hl : b3 < w.heap.size) :
    Calls Try.prog 29 #[.pointer (some ⟨b1, 0, none⟩), .pointer (some ⟨b2, 0, none⟩), .pointer (some ⟨b3, 0, none⟩)] w fun r w' => LitQ b3 w (Pr.fetchR t key.data.toList) r w' := by
  go_enter Try.func29, Try.ntmps29
  go_wp2_with fail
  refine (pagesFetch_any t key _).mono ?_
  rintro r w1 ⟨rfl, hb1⟩
  have HB := hid (but_below (b := b3) hb1)
  have c3 := (hb1.cell (p := ⟨b3, 0, none⟩) hl).trans h3
  have z3 := (hb1.frozen (p := ⟨b3, 0, none⟩) hl).trans hz
  clear hb1 h1 h2 h3 hz
  rcases fetch_cases (Pr.fetchR t key.data.toList) with ⟨hn, he⟩ | ⟨x, hx, he⟩
  · have HN := hid hn
    rw [he]
    clear he hn
    unfold gaveUp
    go_wp2_with fail
    exact ⟨rfl, HB.out, .inl ⟨HN.out, rfl⟩⟩
  · have HX := hid hx
    rw [he]
    clear he hx
    have HC := hid (World.cell?_setCell_same w1 ⟨b3, 0, none⟩ (.bool x.isSome) c3)
    generalize hv : valS x = vs at *
    generalize hf : x.isSome = xs at *
    have HV := hid hv
    have HF := hid hf
    clear hv hf
    go_wp2_with fail
    go_ret
    exact ⟨but_trans HB.out (but_set _ _ _ _), .inr ⟨x, HX.out, by rw [HV.out]; rfl, by rw [HF.out]; exact HC.out⟩⟩

def CatQ (b : Nat) (w : World) (o : Option (Option (List UInt8))) (r : Ending) (w' : World) : Prop := But b w w' ∧ ((o = none ∧ r = .returned (.tuple #[.string ⟨#[]⟩, .int .i64 2])) ∨ ∃ x, o = some x ∧ r = .returned (.tuple #[.string (valS x), .int .i64 0]) ∧ w'.cell? ⟨b, 0, none⟩ = some (.bool x.isSome))
set_option maxHeartbeats 1000000 in
theorem fetchCatch_any (b1 b2 b3 : Nat) (t : List UInt8) (key : ByteArray) (f : Bool) (w : World) (h1 : w.cell? ⟨b1, 0, none⟩ = some (.string ⟨t.toArray⟩)) (h2 : w.cell? ⟨b2, 0, none⟩ = some (.string key)) (h3 : w.cell? ⟨b3, 0, none⟩ = some (.bool f)) (hz : w.frozen? ⟨b3, 0, none⟩ = false) (hl1 : b1 < w.heap.size) (hl2 : b2 < w.heap.size) (hl3 : b3 < w.heap.size) :
    Calls Try.prog 19 #[.func (.func 29) #[] #[.pointer (some ⟨b1, 0, none⟩), .pointer (some ⟨b2, 0, none⟩), .pointer (some ⟨b3, 0, none⟩)]] w fun r w' => CatQ b3 w (Pr.fetchR t key.data.toList) r w' := by
  have hmf : ∀ (fn : Fn) (first cap : Array Value) (w : World), (Instr.makeFunc fn first cap).run Try.prog w = .ok (.func fn first cap) w := fun _ _ _ _ => rfl
  have HC := hid (fetchLit_any b1 b2 b3 t key f (w.alloc (.cells #[.int .i64 0] 25)) (by rw [World.cell?_alloc_past _ _ _ hl1]; exact h1) (by rw [World.cell?_alloc_past _ _ _ hl2]; exact h2) (by rw [World.cell?_alloc_past _ _ _ hl3]; exact h3) (by rw [World.frozen?_alloc_old _ _ _ (by simp; omega)]; exact hz) (by simp; omega))
  clear h1 h2 h3 hz hl1 hl2
  go_enter_defers Try.func19, Try.ntmps19
  go_wp2_with fail
  refine HC.out.mono ?_
  rintro r w1 ⟨hb1, hcase⟩
  have hblk : w1.heap[w.heap.size]? = some (.cells #[.int .i64 0] 25 (0, 0)) := (hb1.block w.heap.size (by simp) (by simp; omega)).trans (heap_alloc_new _ _)
  have hce : w1.cell? ⟨w.heap.size, 0, none⟩ = some (.int .i64 0) := by unfold World.cell?; rw [hblk]; rfl
  have hfz : w1.frozen? ⟨w.heap.size, 0, none⟩ = false := by unfold World.frozen?; rw [hblk]; rfl
  have hlt : w.heap.size < w1.heap.size := (Array.getElem?_eq_some_iff.1 hblk).1
  have HB1 : Hid (But b3 w w1) := ⟨hb1.os, hb1.tape, hb1.output, by omega, fun k hk hr => (hb1.block k (by simp; omega) hr).trans (Below.heap_alloc _ _ _ hk)⟩
  have HCS := hid hcase
  clear hb1 hblk hcase HC
  rcases HCS.out with ⟨hn, rfl⟩ | ⟨x, hx, rfl, hcx⟩
  · have HN := hid hn
    clear hn HCS
    unfold gaveUp
    go_wp2_with fail
    refine leaves_cons (f := 34) (args := #[.pointer (some ⟨w.heap.size, 0, none⟩)]) (by simp) (by simp [go_sem]) ?_
    refine (catch_panicking w.heap.size 0 [] _ hce hfz hlt).mono ?_
    rintro e u' w'' ⟨rfl, rfl, rfl⟩
    have HBF : Hid (But b3 w ((w1.setCell ⟨w.heap.size, 0, none⟩ (.int .i64 2)).alloc (.cells #[] 66))) := by
      refine ⟨HB1.out.os, HB1.out.tape, HB1.out.output, by simp [World.setCell]; omega, fun k hk hr => ?_⟩
      rw [Below.heap_alloc _ _ _ (by simp [World.setCell]; omega), Below.heap_setCell _ _ _ _ (by simp; omega)]
      exact HB1.out.block k hk hr
    have hx : ((w1.setCell ⟨w.heap.size, 0, none⟩ (.int .i64 2)).alloc (.cells #[] 66)).cell? ⟨w.heap.size, 0, none⟩ = some (.int .i64 2) := by
      rw [World.cell?_alloc_past _ _ _ (by simp; omega)]; exact World.cell?_setCell_same _ _ _ hce
    simp [Leaves, settle, results, Try.results19, go_sem, hx]
    exact ⟨HBF.out, .inl ⟨HN.out, rfl⟩⟩
  · have HX := hid hx
    have HCX := hid hcx
    clear hx hcx HCS
    generalize hvs : valS x = vs at *
    have HVS := hid hvs
    clear hvs
    go_wp2_with fail
    refine leaves_cons (f := 34) (args := #[.pointer (some ⟨w.heap.size, 0, none⟩)]) (by simp) (by simp [go_sem]) ?_
    refine (catch_idle ⟨w.heap.size, 0, none⟩ _).mono ?_
    rintro e u' w'' ⟨rfl, rfl, rfl⟩
    have hx : (w1.setCell ⟨w.heap.size, 0, none⟩ (.int .i64 0)).cell? ⟨w.heap.size, 0, none⟩ = some (.int .i64 0) := World.cell?_setCell_same _ _ _ hce
    have HBF : Hid (But b3 w (w1.setCell ⟨w.heap.size, 0, none⟩ (.int .i64 0))) := by
      refine ⟨HB1.out.os, HB1.out.tape, HB1.out.output, by simp [World.setCell]; omega, fun k hk hr => ?_⟩
      rw [Below.heap_setCell _ _ _ _ (by simp; omega)]
      exact HB1.out.block k hk hr
    have HCF : Hid ((w1.setCell ⟨w.heap.size, 0, none⟩ (.int .i64 0)).cell? ⟨b3, 0, none⟩ = some (.bool x.isSome)) := by
      show _ = _
      rw [← HCX.out]
      unfold World.cell?
      rw [Below.heap_setCell _ _ _ _ (by simp; omega)]
    simp [Leaves, settle, results, Try.results19, go_sem, hx]
    exact ⟨HBF.out, .inr ⟨x, HX.out, by rw [HVS.out], HCF.out⟩⟩

def fetchV (o : Option (Option (List UInt8))) : ByteArray := match o with
  | some x => valS x
  | none => ⟨#[]⟩
def fetchN (o : Option (Option (List UInt8))) : Int := match o with
  | none => 2
  | some none => 3
  | some (some _) => 0
set_option maxHeartbeats 1000000 in
theorem siltFetch_any (t : List UInt8) (key : ByteArray) (w : World) :
    Calls Try.prog 15 #[.string ⟨t.toArray⟩, .string key] w fun r w' => r = .returned (.tuple #[.string (fetchV (Pr.fetchR t key.data.toList)), .int .i64 (fetchN (Pr.fetchR t key.data.toList))]) ∧ Below w.heap.size w w' := by
  have hmf : ∀ (fn : Fn) (first cap : Array Value) (w : World), (Instr.makeFunc fn first cap).run Try.prog w = .ok (.func fn first cap) w := fun _ _ _ _ => rfl
  generalize hE : (Ending.returned (.tuple #[.string (fetchV (Pr.fetchR t key.data.toList)), .int .i64 (fetchN (Pr.fetchR t key.data.toList))])) = E
  have HE := hid hE
  clear hE
  have HC := hid (fetchCatch_any w.heap.size (w.heap.size + 1) (w.heap.size + 2) t key false (((w.alloc (.cells #[.string ⟨t.toArray⟩] 9)).alloc (.cells #[.string key] 9)).alloc (.cells #[.bool false] 4))
    (by rw [World.cell?_alloc_past _ _ _ (by simp; omega), World.cell?_alloc_past _ _ _ (by simp)]; simp)
    (by rw [World.cell?_alloc_past _ _ _ (by simp)]; exact World.cell?_alloc_at _ _ _ 0 (by simp))
    (World.cell?_alloc_at _ _ _ 0 (by simp))
    (by unfold World.frozen?; rw [show w.heap.size + 2 = ((w.alloc (.cells #[.string ⟨t.toArray⟩] 9)).alloc (.cells #[.string key] 9)).heap.size by simp, heap_alloc_new]; rfl)
    (by simp; omega) (by simp) (by simp))
  go_enter Try.func15, Try.ntmps15
  go_wp2_with fail
  refine HC.out.mono ?_
  rintro r w1 ⟨hb1, hcase⟩
  have HB1 : Hid (Below w.heap.size w w1) := by
    refine ⟨hb1.os, hb1.tape, hb1.output, by have := hb1.size; simp at this; omega, fun k hk => ?_⟩
    rw [hb1.block k (by simp; omega) (by simp; omega)]
    rw [Below.heap_alloc _ _ _ (by simp; omega), Below.heap_alloc _ _ _ (by simp; omega), Below.heap_alloc _ _ _ (by omega)]
  clear hb1
  rcases hcase with ⟨hn, rfl⟩ | ⟨x, hx, rfl, hcx⟩
  · have HT : Hid (.returned (.tuple #[.string ⟨#[]⟩, .int .i64 2]) = E) := by show _ = _; rw [← HE.out, hn]; rfl
    clear hn
    go_wp2_with fail
    go_ret2
    exact ⟨HT.out, HB1.out⟩
  · cases x with
    | none =>
      have HT : Hid (.returned (.tuple #[.string ⟨#[]⟩, .int .i64 3]) = E) := by show _ = _; rw [← HE.out, hx]; rfl
      have c0 : w1.cell? ⟨w.heap.size + 2, 0, none⟩ = some (.bool false) := hcx
      clear hx hcx
      unfold valS
      go_wp2_with fail
      go_ret2
      exact ⟨HT.out, HB1.out⟩
    | some v =>
      have HT : Hid (.returned (.tuple #[.string ⟨v.toArray⟩, .int .i64 0]) = E) := by show _ = _; rw [← HE.out, hx]; rfl
      have c0 : w1.cell? ⟨w.heap.size + 2, 0, none⟩ = some (.bool true) := hcx
      clear hx hcx
      unfold valS
      go_wp2_with fail
      go_ret2
      exact ⟨HT.out, HB1.out⟩
end Go.Proofs.Ytolgpnaoaodepaa
