/- The walks of Catch, of silt's Squeeze and Spread. -/
import Derived.Test.YtolgpnaoaodepaaGreatWalkG
import Derived.Defers
import Derived.Recover
import Derived.Laws.Pointers
namespace Go.Proofs.YtolgpnaoaodepaaGreat
open Go.RowKit

theorem ta (w : World) : (Instr.typeAssert (.iface 148 (.agg #[])) 20 148 true).run Tryz.prog w = .ok (.tuple #[.agg #[], .bool true]) w := by
  simp [Instr.typeAssert, run_underlying Tryz.underlying148]

set_option maxHeartbeats 1000000 in
theorem catch_panicking (b : Nat) (x : Int) (older : List PanicEntry) (w : World) (hc : w.cell? ⟨b, 0, none⟩ = some (.int .i64 x)) (hz : w.frozen? ⟨b, 0, none⟩ = false) (hp : b < w.heap.size) :
    CallsD Tryz.prog 204 #[.pointer (some ⟨b, 0, none⟩)] (.panicking ({ v := .iface 148 (.agg #[]), recovered := false } :: older)) w fun e u' w' =>
      e = .returned (.tuple #[]) ∧ u' = .panicking ({ v := .iface 148 (.agg #[]), recovered := true } :: older) ∧ w' = (w.setCell ⟨b, 0, none⟩ (.int .i64 2)).alloc (.cells #[] 148) := by
  refine callsD_of_wpS Tryz.func204 rfl fun c₀ cs hu => ?_
  apply wpS_seq
  apply wpS_region
  simp [wpOpsS, go_sem, recoverD, hu, Tryz.ntmps204, Exit.thenS]
  refine wpS_of_wp ?_
  rw [show (#[Value.pointer (some ⟨b, 0, none⟩)] ++ ((Array.replicate 14 undef).setIfInBounds 3 (Value.iface 148 (Value.agg #[]))).setIfInBounds 0 (Value.iface 148 (Value.agg #[]))) = #[Value.pointer (some ⟨b, 0, none⟩), Value.iface 148 (Value.agg #[]), undef, undef, Value.iface 148 (Value.agg #[]), undef, undef, undef, undef, undef, undef, undef, undef, undef, undef] from rfl]
  generalize hQ : (fun e a' w' => bodyPostS Tryz.prog Tryz.f204 c₀ cs _ e a' _ w') = Q
  have HQ := hid hQ
  clear hQ hu
  have hta := ta
  have hf2 : (w.alloc (.cells #[] 148)).frozen? ⟨b, 0, none⟩ = false := by rw [World.frozen?_alloc_old _ _ _ (by simp; omega)]; exact hz
  go_wp2_with fail
  rw [← HQ.out]
  simp [bodyPostS, results, Tryz.results204]

theorem catch_idle (p : Addr) (w : World) :
    CallsD Tryz.prog 204 #[.pointer (some p)] .returning w fun e u' w' => e = .returned (.tuple #[]) ∧ u' = .returning ∧ w' = w := by
  refine callsD_of_wpS Tryz.func204 rfl fun c₀ cs hu => ?_
  apply wpS_seq
  apply wpS_region
  simp [wpOpsS, go_sem, recoverD, hu, Tryz.ntmps204, Exit.thenS]
  refine wpS_of_wp ?_
  rw [show (#[Value.pointer (some p)] ++ ((Array.replicate 14 undef).setIfInBounds 3 Value.nilIface).setIfInBounds 0 Value.nilIface) = #[Value.pointer (some p), Value.nilIface, undef, undef, Value.nilIface, undef, undef, undef, undef, undef, undef, undef, undef, undef, undef] from rfl]
  generalize hQ : (fun e a' w' => bodyPostS Tryz.prog Tryz.f204 c₀ cs _ e a' _ w') = Q
  have HQ := hid hQ
  have HU := hid hu
  clear hQ hu
  go_wp2_with fail
  rw [← HQ.out]
  have hu := HU.out
  cases c₀
  simp_all [bodyPostS, results, Tryz.results204]

def spreadS (l : List UInt8) : ByteArray := match Sq.spread l with
  | some t => ⟨t.toArray⟩
  | none => ⟨#[]⟩
def spreadE (l : List UInt8) : Int := match Sq.spread l with
  | some _ => 0
  | none => 2

set_option maxHeartbeats 1000000 in
theorem lit_any (b : Nat) (s : ByteArray) (w : World) (hc : w.cell? ⟨b, 0, none⟩ = some (.string s)) (hs : s.size ≤ 68719476736) :
    Calls Tryz.prog 149 #[.pointer (some ⟨b, 0, none⟩)] w fun r w' => r = spreadEnd s.data.toList ∧ Below w.heap.size w w' := by
  go_enter Tryz.func149, Tryz.ntmps149
  go_wp2_with fail
  refine (pkgSpread_any s _ hs).mono ?_
  rintro r w1 ⟨rfl, hb1⟩
  have HB1 := hid hb1
  clear hb1
  cases hd : Sq.spread s.data.toList with
  | none =>
    have he : spreadEnd s.data.toList = gaveUp := by unfold spreadEnd; rw [hd]
    have HE := hid he
    rw [he]
    clear hd he
    unfold gaveUp
    go_wp2_with fail
    exact ⟨rfl, HE.out.symm, HB1.out⟩
  | some t =>
    have he : spreadEnd s.data.toList = .returned (.string ⟨t.toArray⟩) := by unfold spreadEnd; rw [hd]
    have HE := hid he
    rw [he]
    clear hd he
    go_wp2_with fail
    go_ret
    exact ⟨HE.out.symm, HB1.out⟩

set_option maxHeartbeats 1000000 in
theorem catch_any (b : Nat) (s : ByteArray) (w : World) (hb : b < w.heap.size) (hc : w.cell? ⟨b, 0, none⟩ = some (.string s)) (hs : s.size ≤ 68719476736) :
    Calls Tryz.prog 148 #[.func (.func 149) #[] #[.pointer (some ⟨b, 0, none⟩)]] w fun r w' => r = .returned (.tuple #[.string (spreadS s.data.toList), .int .i64 (spreadE s.data.toList)]) ∧ Below w.heap.size w w' := by
  have hmf : ∀ (fn : Fn) (first cap : Array Value) (w : World), (Instr.makeFunc fn first cap).run Tryz.prog w = .ok (.func fn first cap) w := fun _ _ _ _ => rfl
  go_enter_defers Tryz.func148, Tryz.ntmps148
  go_wp2_with fail
  refine (lit_any b s _ (by rw [World.cell?_alloc_past _ _ _ hb]; exact hc) hs).mono ?_
  rintro r w1 ⟨rfl, hb1⟩
  have hce : w1.cell? ⟨w.heap.size, 0, none⟩ = some (.int .i64 0) := by rw [hb1.cell (by simp)]; simp
  have hfz : w1.frozen? ⟨w.heap.size, 0, none⟩ = false := by rw [hb1.frozen (by simp)]; simp
  have hlt : w.heap.size < w1.heap.size := by have := hb1.size; simp at this; omega
  have HB1 := hid (((Below.refl w.heap.size w).alloc (Nat.le_refl _) (.cells #[.int .i64 0] 36)).trans (hb1.mono (by simp)))
  clear hb1
  cases hd : Sq.spread s.data.toList with
  | none =>
    have he : spreadEnd s.data.toList = gaveUp := by unfold spreadEnd; rw [hd]
    have HS : Hid (spreadS s.data.toList = ⟨#[]⟩ ∧ spreadE s.data.toList = 2) := by unfold spreadS spreadE; rw [hd]; exact ⟨rfl, rfl⟩
    rw [he]
    clear hd he
    unfold gaveUp
    go_wp2_with fail
    refine leaves_cons (f := 204) (args := #[.pointer (some ⟨w.heap.size, 0, none⟩)]) (by simp) (by simp [go_sem]) ?_
    refine (catch_panicking w.heap.size 0 [] _ hce hfz hlt).mono ?_
    rintro e u' w'' ⟨rfl, rfl, rfl⟩
    rw [HS.out.1, HS.out.2]
    have HBF := hid ((HB1.out.setCell (p := ⟨w.heap.size, 0, none⟩) (Nat.le_refl _) (.int .i64 2)).alloc (by simp; omega) (.cells #[] 148))
    have hx : ((w1.setCell ⟨w.heap.size, 0, none⟩ (.int .i64 2)).alloc (.cells #[] 148)).cell? ⟨w.heap.size, 0, none⟩ = some (.int .i64 2) := by
      rw [World.cell?_alloc_past _ _ _ (by simp; omega)]; exact World.cell?_setCell_same _ _ _ hce
    simp [Leaves, settle, results, Tryz.results148, go_sem, hx]
    exact HBF.out
  | some t =>
    have he : spreadEnd s.data.toList = .returned (.string ⟨t.toArray⟩) := by unfold spreadEnd; rw [hd]
    have HS : Hid (spreadS s.data.toList = ⟨t.toArray⟩ ∧ spreadE s.data.toList = 0) := by unfold spreadS spreadE; rw [hd]; exact ⟨rfl, rfl⟩
    rw [he]
    clear hd he
    go_wp2_with fail
    refine leaves_cons (f := 204) (args := #[.pointer (some ⟨w.heap.size, 0, none⟩)]) (by simp) (by simp [go_sem]) ?_
    refine (catch_idle ⟨w.heap.size, 0, none⟩ _).mono ?_
    rintro e u' w'' ⟨rfl, rfl, rfl⟩
    rw [HS.out.1, HS.out.2]
    have hx : (w1.setCell ⟨w.heap.size, 0, none⟩ (.int .i64 0)).cell? ⟨w.heap.size, 0, none⟩ = some (.int .i64 0) := World.cell?_setCell_same _ _ _ hce
    simp [Leaves, settle, results, Tryz.results148, go_sem, hx]
    exact HB1.out.setCell (p := ⟨w.heap.size, 0, none⟩) (Nat.le_refl _) _

set_option maxHeartbeats 1000000 in
theorem siltSpread_any (s : ByteArray) (w : World) (hs : s.size ≤ 68719476736) :
    Calls Tryz.prog 94 #[.string s] w fun r w' => r = .returned (.tuple #[.string (spreadS s.data.toList), .int .i64 (spreadE s.data.toList)]) ∧ Below w.heap.size w w' := by
  have hmf : ∀ (fn : Fn) (first cap : Array Value) (w : World), (Instr.makeFunc fn first cap).run Tryz.prog w = .ok (.func fn first cap) w := fun _ _ _ _ => rfl
  go_enter Tryz.func94, Tryz.ntmps94
  go_wp2_with fail
  refine (catch_any w.heap.size s _ (by simp) (by simp) hs).mono ?_
  rintro r w1 ⟨rfl, hb1⟩
  have HB1 := hid (((Below.refl w.heap.size w).alloc (Nat.le_refl _) _).trans (hb1.mono (by simp)))
  clear hb1
  go_wp2_with fail
  go_ret2
  exact ⟨rfl, HB1.out⟩
set_option maxHeartbeats 1000000 in
theorem siltSqueeze_any (s : ByteArray) (w : World) (hs : s.size ≤ 35184372088832) :
    Calls Tryz.prog 92 #[.string s] w fun r w' => r = .returned (.string ⟨(Sq.squeeze s.data.toList).toArray⟩) ∧ Below w.heap.size w w' := by
  go_enter Tryz.func92, Tryz.ntmps92
  go_wp2_with fail
  refine (squeeze_any s _ hs).mono ?_
  rintro r w1 ⟨rfl, hb1⟩
  go_wp2_with fail
  go_ret
  exact ⟨rfl, hb1⟩
theorem drop_at (s : ByteArray) (a : Nat) (h : a < s.size) : s.data.toList.drop a = s[a] :: s.data.toList.drop (a + 1) := by
  have h' : a < s.data.toList.length := by rw [len_size]; exact h
  exact List.drop_eq_getElem_cons h'
end Go.Proofs.YtolgpnaoaodepaaGreat
