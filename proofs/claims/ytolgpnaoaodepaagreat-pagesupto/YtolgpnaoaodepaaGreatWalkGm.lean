/- The walks of unpack and of package squeeze's Spread. -/
import Derived.Test.YtolgpnaoaodepaaGreatOwnEm
import Derived.Defers
import Derived.Recover
import Derived.Laws.Pointers
import Derived.Test.YtolgpnaoaodepaaGreatMathAm
namespace Go.Proofs.YtolgpnaoaodepaaGreat
open Go.RowKit

theorem toList_is (s : ByteArray) : s.toList = s.data.toList := by
  have h := ByteArray.toList_mk s.data.toList
  simpa using h
/-- What unpack comes to. -/
def unpacked (l : List UInt8) : Ending := match Sq.decode l [] with
  | some t => .returned (.string ⟨t.toArray⟩)
  | none => gaveUp
theorem cons_data (t : ByteArray) (h : 0 < t.size) : t.data.toList = t[0] :: t.data.toList.drop 1 := by
  have h' : 0 < t.data.toList.length := by rw [len_size]; exact h
  have := List.drop_eq_getElem_cons h'
  rw [List.drop_zero] at this
  exact this
theorem cons_data2 (t : ByteArray) (h : 1 < t.size) : t.data.toList = t[0] :: t[1] :: t.data.toList.drop 2 := by
  rw [cons_data t (by omega)]
  have h' : 1 < t.data.toList.length := by rw [len_size]; exact h
  have := List.drop_eq_getElem_cons h'
  rw [this]; rfl
theorem unpacked_run {s t : ByteArray} {o : List UInt8} (h0 : 0 < t.size) (h : Sq.decode t.data.toList o = Sq.decode s.data.toList []) (h1 : (t[0]'h0).toNat < 128) (h2 : (t[0]'h0).toNat + 2 ≤ t.size) :
    Sq.decode (t.extract ((t[0]'h0).toNat + 2) t.size).data.toList (o ++ (t.data.toList.drop 1).take ((t[0]'h0).toNat + 1)) = Sq.decode s.data.toList [] := by
  rw [← h, drop_data]
  conv => rhs; rw [cons_data t h0]
  rw [Sq.decode_run _ _ _ h1 (by rw [List.length_drop, len_size]; omega), List.drop_drop, show 1 + ((t[0]'h0).toNat + 1) = (t[0]'h0).toNat + 2 by omega]
theorem unpacked_run_no {s t : ByteArray} {o : List UInt8} (h0 : 0 < t.size) (h : Sq.decode t.data.toList o = Sq.decode s.data.toList []) (h1 : (t[0]'h0).toNat < 128) (h2 : t.size < (t[0]'h0).toNat + 2) : unpacked s.data.toList = gaveUp := by
  rw [cons_data t h0, Sq.decode_run_no _ _ _ h1 (by rw [List.length_drop, len_size]; omega)] at h
  unfold unpacked; rw [← h]
theorem unpacked_mat {s t : ByteArray} {o : List UInt8} (h0 : 1 < t.size) (h : Sq.decode t.data.toList o = Sq.decode s.data.toList []) (h1 : ¬ (t[0]'(by omega)).toNat < 128) (h2 : (t[0]'(by omega)).toNat ≤ 191 ∧ 1 ≤ (t[1]'h0).toNat ∧ (t[1]'h0).toNat ≤ o.length) :
    Sq.decode (t.extract 2 t.size).data.toList (Sq.copyN o (t[1]'h0).toNat ((t[0]'(by omega)).toNat - 125)) = Sq.decode s.data.toList [] := by
  rw [← h, drop_data]
  conv => rhs; rw [cons_data2 t h0]
  rw [Sq.decode_match _ _ _ _ h1 h2]
theorem unpacked_mat_no {s t : ByteArray} {o : List UInt8} (h0 : 1 < t.size) (h : Sq.decode t.data.toList o = Sq.decode s.data.toList []) (h1 : ¬ (t[0]'(by omega)).toNat < 128) (h2 : ¬ ((t[0]'(by omega)).toNat ≤ 191 ∧ 1 ≤ (t[1]'h0).toNat ∧ (t[1]'h0).toNat ≤ o.length)) : unpacked s.data.toList = gaveUp := by
  rw [cons_data2 t h0, Sq.decode_match_no _ _ _ _ h1 h2] at h
  unfold unpacked; rw [← h]
theorem unpacked_mat_end {s t : ByteArray} {o : List UInt8} (h0 : 0 < t.size) (hs : t.size < 2) (h : Sq.decode t.data.toList o = Sq.decode s.data.toList []) (h1 : ¬ (t[0]'h0).toNat < 128) : unpacked s.data.toList = gaveUp := by
  rw [cons_data t h0, List.drop_eq_nil_of_le (by rw [len_size]; omega), Sq.decode_match_end _ _ h1] at h
  unfold unpacked; rw [← h]
theorem unpacked_end {s t : ByteArray} {o : List UInt8} (h0 : ¬ 0 < t.size) (h : Sq.decode t.data.toList o = Sq.decode s.data.toList []) : unpacked s.data.toList = .returned (.string ⟨o.toArray⟩) := by
  have : t.data.toList = [] := List.length_eq_zero_iff.1 (by rw [len_size]; omega)
  rw [this, Sq.decode_nil] at h
  unfold unpacked; rw [← h]

set_option maxHeartbeats 2000000 in
set_option maxRecDepth 20000 in
theorem unpack_any (s : ByteArray) (w : World) (hs : s.size ≤ 68719476736) :
    Calls Tryz.prog 205 #[.string s] w fun r w' => r = unpacked s.data.toList ∧ Below w.heap.size w w' := by
  go_enter Tryz.func205, Tryz.ntmps205
  go_wp2_with fail
  go_loopw [0, 3] (fun x u wr => ∃ (t : ByteArray) (o : List UInt8), x = .string t ∧ Owns w.heap.size wr u o ∧ Below w.heap.size w wr ∧ t.size ≤ s.size ∧ o.length + 66 * t.size ≤ 66 * s.size ∧ Sq.decode t.data.toList o = Sq.decode s.data.toList []) (fun x _ _ => match x with | .string t => t.size | _ => 0)
  case atStart => exact ⟨s, [], rfl, Owns.nil _ _, Below.refl _ _, Nat.le_refl _, by simp, rfl⟩
  case round =>
    obtain ⟨t, o, rfl, ho, hb, hts, hol, heq⟩ := hrel
    have HEQ := hid heq
    have HO := hid ho
    have HB := hid hb
    have hsz := hb.size
    clear heq ho hb
    by_cases h0 : 0 < t.size
    · have hc0 : (t[0]'h0).toNat < 256 := (t[0]'h0).toNat_lt
      have hi0 : (0 : Int) < (t.size : Int) := by omega
      by_cases h128 : (t[0]'h0).toNat < 128
      · by_cases hle : (t[0]'h0).toNat + 2 ≤ t.size
        · go_wp2_with fail
          refine (unrun_yes w.heap.size t u3 o _ (by omega) h0 hle HO.out hsz (by omega)).mono ?_
          rintro r w1 ⟨v1, rfl, ho1, hb1⟩
          have HO1 := hid ho1
          have HB1 := hid (HB.out.trans hb1)
          clear ho1 hb1
          go_wp2_with fail
          go_roundw
          case rel => exact ⟨_, _, rfl, HO1.out, HB1.out, by simp [ByteArray.size_extract]; omega, by simp [ByteArray.size_extract]; omega, unpacked_run h0 HEQ.out h128 hle⟩
          case measure => simp [ByteArray.size_extract]; omega
        · go_wp2_with fail
          refine (unrun_no t u3 _ h0 (by omega)).mono ?_
          rintro r w1 ⟨rfl, rfl⟩
          have HU := hid (unpacked_run_no h0 HEQ.out h128 (by omega))
          unfold gaveUp
          go_wp2_with fail
          exact ⟨rfl, HU.out.symm, HB.out⟩
      · by_cases h1 : 1 < t.size
        · by_cases hok : (t[0]'h0).toNat ≤ 191 ∧ 1 ≤ (t[1]'h1).toNat ∧ (t[1]'h1).toNat ≤ o.length
          · go_wp2_with fail
            refine (unmat_yes w.heap.size t u3 o _ (by omega) HO.out hsz (by omega) h1 (by omega) hok).mono ?_
            rintro r w1 ⟨v1, rfl, ho1, hb1⟩
            have HO1 := hid ho1
            have HB1 := hid (HB.out.trans hb1)
            clear ho1 hb1
            go_wp2_with fail
            go_roundw
            case rel => exact ⟨_, _, rfl, HO1.out, HB1.out, by simp [ByteArray.size_extract]; omega, by simp [ByteArray.size_extract, Sq.copyN_len]; omega, unpacked_mat h1 HEQ.out h128 hok⟩
            case measure => simp [ByteArray.size_extract]; omega
          · go_wp2_with fail
            refine (unmat_no w.heap.size t u3 o _ HO.out h1 (by omega) hok).mono ?_
            rintro r w1 ⟨rfl, q, rfl⟩
            have HU := hid (unpacked_mat_no h1 HEQ.out h128 hok)
            unfold gaveUp
            go_wp2_with fail
            exact ⟨rfl, HU.out.symm, below_drewN HB.out _⟩
        · go_wp2_with fail
          refine (unmat_short t u3 _ (by omega)).mono ?_
          rintro r w1 ⟨rfl, rfl⟩
          have HU := hid (unpacked_mat_end h0 (by omega) HEQ.out h128)
          unfold gaveUp
          go_wp2_with fail
          exact ⟨rfl, HU.out.symm, HB.out⟩
    · have hcv := HO.out.str
      have HU := hid (unpacked_end h0 HEQ.out)
      go_wp2_with fail
      go_ret
      exact ⟨HU.out.symm, HB.out⟩

/-- What package squeeze's Spread comes to. -/
def spreadEnd (l : List UInt8) : Ending := match Sq.spread l with
  | some t => .returned (.string ⟨t.toArray⟩)
  | none => gaveUp
theorem spread_none {l : List UInt8} (h : Sq.decode l [] = none) : spreadEnd l = gaveUp ∧ unpacked l = gaveUp := by
  unfold spreadEnd unpacked Sq.spread; rw [h]; exact ⟨rfl, rfl⟩
theorem spread_some {l t : List UInt8} (h : Sq.decode l [] = some t) : unpacked l = .returned (.string ⟨t.toArray⟩) ∧ (Sq.squeeze t = l → spreadEnd l = .returned (.string ⟨t.toArray⟩)) ∧ (Sq.squeeze t ≠ l → spreadEnd l = gaveUp) := by
  unfold spreadEnd unpacked Sq.spread; rw [h]
  exact ⟨rfl, fun e => by simp only [if_pos e], fun e => by simp only [if_neg e]⟩

set_option maxHeartbeats 2000000 in
theorem pkgSpread_any (s : ByteArray) (w : World) (hs : s.size ≤ 68719476736) :
    Calls Tryz.prog 150 #[.string s] w fun r w' => r = spreadEnd s.data.toList ∧ Below w.heap.size w w' := by
  go_enter Tryz.func150, Tryz.ntmps150
  go_wp2_with fail
  refine (unpack_any s _ hs).mono ?_
  rintro r w1 ⟨rfl, hb1⟩
  have HB1 := hid hb1
  clear hb1
  cases hd : Sq.decode s.data.toList [] with
  | none =>
    have HSN := hid (spread_none hd).1
    rw [(spread_none hd).2]
    clear hd
    unfold gaveUp
    go_wp2_with fail
    exact ⟨rfl, HSN.out.symm, HB1.out⟩
  | some t =>
    have hlen := Sq.decode_le _ _ _ hd
    rw [len_size] at hlen
    have HSP := hid (spread_some hd)
    rw [(spread_some hd).1]
    clear hd
    go_wp2_with fail
    refine (squeeze_any ⟨t.toArray⟩ _ (by show t.toArray.size ≤ _; simp at hlen ⊢; omega)).mono ?_
    rintro r w2 ⟨rfl, hb2⟩
    have HB2 := hid (HB1.out.trans (hb2.mono HB1.out.size))
    clear hb2
    by_cases he : Sq.squeeze t = s.data.toList
    · have HE := hid (HSP.out.2.1 he)
      go_wp2_with fail
      refine (unless_yes _).mono ?_
      rintro r w3 ⟨rfl, rfl⟩
      go_wp2_with fail
      go_ret
      exact ⟨HE.out.symm, HB2.out⟩
    · have HE := hid (HSP.out.2.2 he)
      go_wp2_with fail
      rw [show (Sq.squeeze t == s.toList) = false by rw [toList_is]; simpa using he]
      refine (unless_no _).mono ?_
      rintro r w3 ⟨rfl, rfl⟩
      unfold gaveUp
      go_wp2_with fail
      exact ⟨rfl, HE.out.symm, HB2.out⟩
end Go.Proofs.YtolgpnaoaodepaaGreat
/- The walks of Catch, of silt's Squeeze and Spread. -/
namespace Go.Proofs.YtolgpnaoaodepaaGreat
open Go.RowKit

theorem ta (w : World) : (Instr.typeAssert (.iface 148 (.agg #[])) 20 148 true).run Tryz.prog w = .ok (.tuple #[.agg #[], .bool true]) w := by
  simp [Instr.typeAssert, run_underlying Tryz.underlying148]

set_option maxHeartbeats 1000000 in
theorem catch_panicking (b : Nat) (x : Int) (older : List PanicEntry) (w : World) (hc : w.cell? ⟨b, 0, none⟩ = some (.int .i64 x)) (hz : w.frozen? ⟨b, 0, none⟩ = false) (hp : b < w.heap.size) :
    CallsD Tryz.prog 204 #[.pointer (some ⟨b, 0, none⟩)] (.panicking ({ v := .iface 148 (.agg #[]), recovered := false } :: older)) w fun e u' w' =>
      e = .returned (.tuple #[]) ∧ u' = .panicking ({ v := .iface 148 (.agg #[]), recovered := true } :: older) ∧ w' = (w.setCell ⟨b, 0, none⟩ (.int .i64 2)).alloc (.cells #[] 148) := by
  refine callsD_of_wpS Tryz.func204 rfl fun c₀ cs hu => ?_
  apply wpS_seq
  apply wpS_region
  simp [wpOpsS, go_sem, recoverD, hu, Tryz.ntmps204, Exit.thenS]
  refine wpS_of_wp ?_
  rw [show (#[Value.pointer (some ⟨b, 0, none⟩)] ++ ((Array.replicate 14 undef).setIfInBounds 3 (Value.iface 148 (Value.agg #[]))).setIfInBounds 0 (Value.iface 148 (Value.agg #[]))) = #[Value.pointer (some ⟨b, 0, none⟩), Value.iface 148 (Value.agg #[]), undef, undef, Value.iface 148 (Value.agg #[]), undef, undef, undef, undef, undef, undef, undef, undef, undef, undef] from rfl]
  generalize hQ : (fun e a' w' => bodyPostS Tryz.prog Tryz.f204 c₀ cs _ e a' _ w') = Q
  have HQ := hid hQ
  clear hQ hu
  have hta := ta
  have hf2 : (w.alloc (.cells #[] 148)).frozen? ⟨b, 0, none⟩ = false := by rw [World.frozen?_alloc_old _ _ _ (by simp; omega)]; exact hz
  go_wp2_with fail
  rw [← HQ.out]
  simp [bodyPostS, results, Tryz.results204]

theorem catch_idle (p : Addr) (w : World) :
    CallsD Tryz.prog 204 #[.pointer (some p)] .returning w fun e u' w' => e = .returned (.tuple #[]) ∧ u' = .returning ∧ w' = w := by
  refine callsD_of_wpS Tryz.func204 rfl fun c₀ cs hu => ?_
  apply wpS_seq
  apply wpS_region
  simp [wpOpsS, go_sem, recoverD, hu, Tryz.ntmps204, Exit.thenS]
  refine wpS_of_wp ?_
  rw [show (#[Value.pointer (some p)] ++ ((Array.replicate 14 undef).setIfInBounds 3 Value.nilIface).setIfInBounds 0 Value.nilIface) = #[Value.pointer (some p), Value.nilIface, undef, undef, Value.nilIface, undef, undef, undef, undef, undef, undef, undef, undef, undef, undef] from rfl]
  generalize hQ : (fun e a' w' => bodyPostS Tryz.prog Tryz.f204 c₀ cs _ e a' _ w') = Q
  have HQ := hid hQ
  have HU := hid hu
  clear hQ hu
  go_wp2_with fail
  rw [← HQ.out]
  have hu := HU.out
  cases c₀
  simp_all [bodyPostS, results, Tryz.results204]

def spreadS (l : List UInt8) : ByteArray := match Sq.spread l with
  | some t => ⟨t.toArray⟩
  | none => ⟨#[]⟩
def spreadE (l : List UInt8) : Int := match Sq.spread l with
  | some _ => 0
  | none => 2

set_option maxHeartbeats 1000000 in
theorem lit_any (b : Nat) (s : ByteArray) (w : World) (hc : w.cell? ⟨b, 0, none⟩ = some (.string s)) (hs : s.size ≤ 68719476736) :
    Calls Tryz.prog 149 #[.pointer (some ⟨b, 0, none⟩)] w fun r w' => r = spreadEnd s.data.toList ∧ Below w.heap.size w w' := by
  go_enter Tryz.func149, Tryz.ntmps149
  go_wp2_with fail
  refine (pkgSpread_any s _ hs).mono ?_
  rintro r w1 ⟨rfl, hb1⟩
  have HB1 := hid hb1
  clear hb1
  cases hd : Sq.spread s.data.toList with
  | none =>
    have he : spreadEnd s.data.toList = gaveUp := by unfold spreadEnd; rw [hd]
    have HE := hid he
    rw [he]
    clear hd he
    unfold gaveUp
    go_wp2_with fail
    exact ⟨rfl, HE.out.symm, HB1.out⟩
  | some t =>
    have he : spreadEnd s.data.toList = .returned (.string ⟨t.toArray⟩) := by unfold spreadEnd; rw [hd]
    have HE := hid he
    rw [he]
    clear hd he
    go_wp2_with fail
    go_ret
    exact ⟨HE.out.symm, HB1.out⟩

set_option maxHeartbeats 1000000 in
theorem catch_any (b : Nat) (s : ByteArray) (w : World) (hb : b < w.heap.size) (hc : w.cell? ⟨b, 0, none⟩ = some (.string s)) (hs : s.size ≤ 68719476736) :
    Calls Tryz.prog 148 #[.func (.func 149) #[] #[.pointer (some ⟨b, 0, none⟩)]] w fun r w' => r = .returned (.tuple #[.string (spreadS s.data.toList), .int .i64 (spreadE s.data.toList)]) ∧ Below w.heap.size w w' := by
  have hmf : ∀ (fn : Fn) (first cap : Array Value) (w : World), (Instr.makeFunc fn first cap).run Tryz.prog w = .ok (.func fn first cap) w := fun _ _ _ _ => rfl
  go_enter_defers Tryz.func148, Tryz.ntmps148
  go_wp2_with fail
  refine (lit_any b s _ (by rw [World.cell?_alloc_past _ _ _ hb]; exact hc) hs).mono ?_
  rintro r w1 ⟨rfl, hb1⟩
  have hce : w1.cell? ⟨w.heap.size, 0, none⟩ = some (.int .i64 0) := by rw [hb1.cell (by simp)]; simp
  have hfz : w1.frozen? ⟨w.heap.size, 0, none⟩ = false := by rw [hb1.frozen (by simp)]; simp
  have hlt : w.heap.size < w1.heap.size := by have := hb1.size; simp at this; omega
  have HB1 := hid (((Below.refl w.heap.size w).alloc (Nat.le_refl _) (.cells #[.int .i64 0] 36)).trans (hb1.mono (by simp)))
  clear hb1
  cases hd : Sq.spread s.data.toList with
  | none =>
    have he : spreadEnd s.data.toList = gaveUp := by unfold spreadEnd; rw [hd]
    have HS : Hid (spreadS s.data.toList = ⟨#[]⟩ ∧ spreadE s.data.toList = 2) := by unfold spreadS spreadE; rw [hd]; exact ⟨rfl, rfl⟩
    rw [he]
    clear hd he
    unfold gaveUp
    go_wp2_with fail
    refine leaves_cons (f := 204) (args := #[.pointer (some ⟨w.heap.size, 0, none⟩)]) (by simp) (by simp [go_sem]) ?_
    refine (catch_panicking w.heap.size 0 [] _ hce hfz hlt).mono ?_
    rintro e u' w'' ⟨rfl, rfl, rfl⟩
    rw [HS.out.1, HS.out.2]
    have HBF := hid ((HB1.out.setCell (p := ⟨w.heap.size, 0, none⟩) (Nat.le_refl _) (.int .i64 2)).alloc (by simp; omega) (.cells #[] 148))
    have hx : ((w1.setCell ⟨w.heap.size, 0, none⟩ (.int .i64 2)).alloc (.cells #[] 148)).cell? ⟨w.heap.size, 0, none⟩ = some (.int .i64 2) := by
      rw [World.cell?_alloc_past _ _ _ (by simp; omega)]; exact World.cell?_setCell_same _ _ _ hce
    simp [Leaves, settle, results, Tryz.results148, go_sem, hx]
    exact HBF.out
  | some t =>
    have he : spreadEnd s.data.toList = .returned (.string ⟨t.toArray⟩) := by unfold spreadEnd; rw [hd]
    have HS : Hid (spreadS s.data.toList = ⟨t.toArray⟩ ∧ spreadE s.data.toList = 0) := by unfold spreadS spreadE; rw [hd]; exact ⟨rfl, rfl⟩
    rw [he]
    clear hd he
    go_wp2_with fail
    refine leaves_cons (f := 204) (args := #[.pointer (some ⟨w.heap.size, 0, none⟩)]) (by simp) (by simp [go_sem]) ?_
    refine (catch_idle ⟨w.heap.size, 0, none⟩ _).mono ?_
    rintro e u' w'' ⟨rfl, rfl, rfl⟩
    rw [HS.out.1, HS.out.2]
    have hx : (w1.setCell ⟨w.heap.size, 0, none⟩ (.int .i64 0)).cell? ⟨w.heap.size, 0, none⟩ = some (.int .i64 0) := World.cell?_setCell_same _ _ _ hce
    simp [Leaves, settle, results, Tryz.results148, go_sem, hx]
    exact HB1.out.setCell (p := ⟨w.heap.size, 0, none⟩) (Nat.le_refl _) _

set_option maxHeartbeats 1000000 in
theorem siltSpread_any (s : ByteArray) (w : World) (hs : s.size ≤ 68719476736) :
    Calls Tryz.prog 94 #[.string s] w fun r w' => r = .returned (.tuple #[.string (spreadS s.data.toList), .int .i64 (spreadE s.data.toList)]) ∧ Below w.heap.size w w' := by
  have hmf : ∀ (fn : Fn) (first cap : Array Value) (w : World), (Instr.makeFunc fn first cap).run Tryz.prog w = .ok (.func fn first cap) w := fun _ _ _ _ => rfl
  go_enter Tryz.func94, Tryz.ntmps94
  go_wp2_with fail
  refine (catch_any w.heap.size s _ (by simp) (by simp) hs).mono ?_
  rintro r w1 ⟨rfl, hb1⟩
  have HB1 := hid (((Below.refl w.heap.size w).alloc (Nat.le_refl _) _).trans (hb1.mono (by simp)))
  clear hb1
  go_wp2_with fail
  go_ret2
  exact ⟨rfl, HB1.out⟩
set_option maxHeartbeats 1000000 in
theorem siltSqueeze_any (s : ByteArray) (w : World) (hs : s.size ≤ 35184372088832) :
    Calls Tryz.prog 92 #[.string s] w fun r w' => r = .returned (.string ⟨(Sq.squeeze s.data.toList).toArray⟩) ∧ Below w.heap.size w w' := by
  go_enter Tryz.func92, Tryz.ntmps92
  go_wp2_with fail
  refine (squeeze_any s _ hs).mono ?_
  rintro r w1 ⟨rfl, hb1⟩
  go_wp2_with fail
  go_ret
  exact ⟨rfl, hb1⟩
theorem drop_at (s : ByteArray) (a : Nat) (h : a < s.size) : s.data.toList.drop a = s[a] :: s.data.toList.drop (a + 1) := by
  have h' : a < s.data.toList.length := by rw [len_size]; exact h
  exact List.drop_eq_getElem_cons h'
end Go.Proofs.YtolgpnaoaodepaaGreat
/- The walk of the reference's like. -/
namespace Go.Proofs.YtolgpnaoaodepaaGreat
open Go.RowKit
set_option maxHeartbeats 400000 in
theorem like_any (s : ByteArray) (a d : Nat) (w : World) (hs : s.size ≤ 140737488355328) (hd1 : 1 ≤ d) (hda : d ≤ a) (ha : a ≤ s.size) :
    Calls Tryz.prog 147 #[.string s, .int .i64 a, .int .i64 d] w fun r w' => r = .returned (.int .i64 (Sq.mat s.data.toList a d)) ∧ ∃ q, w' = w.drewN q := by
  go_enter Tryz.func147, Tryz.ntmps147
  go_wp2
  go_loopw [7] (fun i wr => ∃ k : Nat, k ≤ min 66 (s.size - a) ∧ i = .int .i64 k ∧ (∀ j, j < k → s.data.toList[a - d + j]? = s.data.toList[a + j]?) ∧ ∃ q, wr = w.drewN q) (fun i _ => 66 - (intOf i).toNat)
  case atStart => exact ⟨0, Nat.zero_le _, rfl, fun j h => by omega, 0, rfl⟩
  case round =>
    obtain ⟨k, hk, rfl, hj, q, rfl⟩ := hrel
    have HJ : Hid (∀ j, j < k → s.data.toList[a - d + j]? = s.data.toList[a + j]?) := hj
    clear hj
    by_cases hlt : k < 66
    · by_cases hl2 : a + k < s.size
      · have h1 : (a : Int) + (k : Int) < (s.size : Int) := by omega
        have h2 : (a : Int) + (k : Int) - (d : Int) < (s.size : Int) := by omega
        have h3 : (0 : Int) ≤ (a : Int) + (k : Int) := by omega
        have h4 : (0 : Int) ≤ (a : Int) + (k : Int) - (d : Int) := by omega
        have h5 : (k : Int) < 66 := by omega
        have e1 : IntKind.i64.wrap ((a : Int) + (k : Int)) = (a : Int) + (k : Int) := IntWalk.i64_in _ ⟨by omega, by omega⟩
        have e2 : IntKind.i64.wrap ((a : Int) + (k : Int) - (d : Int)) = (a : Int) + (k : Int) - (d : Int) := IntWalk.i64_in _ ⟨by omega, by omega⟩
        have h7 : (d : Int) ≤ (a : Int) + (k : Int) := by omega
        have h8 : d ≤ a + k := by omega
        have h6 : decide ((a : Int) + (k : Int) < (s.size : Int)) = true := by simpa using h1
        go_wp2
        go_quiet (fail)
        go_wp2
        · have hb := byte_eq s (a + k) (a + k - d) (by omega) (by omega) (by assumption)
          go_roundw
          case rel =>
            refine ⟨k + 1, by omega, by go_num, fun j hj => ?_, _, rfl⟩
            by_cases ej : j = k
            · rw [ej, hb, show a - d + k = a + k - d by omega]
            · exact HJ.out j (by omega)
          case measure => simp [intOf]; omega
        · have hb := byte_ne s (a + k) (a + k - d) (by omega) (by omega) (by assumption)
          go_ret
          exact ⟨ret_int (by unfold Sq.mat; rw [Sq.com_stop s.data.toList _ (a - d) a k (by simp; omega) (by simp; omega) HJ.out (.inr fun h => hb (by rw [h.2.symm, show a - d + k = a + k - d by omega]))]), _, World.drewN_drewN _ _ _⟩
      · have h5 : (k : Int) < 66 := by omega
        have hd : decide ((a : Int) + (k : Int) < (s.size : Int)) = false := by simp; omega
        have e1 : IntKind.i64.wrap ((a : Int) + (k : Int)) = (a : Int) + (k : Int) := IntWalk.i64_in _ ⟨by omega, by omega⟩
        go_wp2
        go_quiet (fail)
        go_wp2
        go_ret
        exact ⟨ret_int (by unfold Sq.mat; rw [Sq.com_stop s.data.toList _ (a - d) a k (by simp; omega) (by simp; omega) HJ.out (.inl (by simp; omega))]), _, World.drewN_drewN _ _ _⟩
    · have hd : decide ((k : Int) < 66) = false := by simp; omega
      go_wp2
      go_quiet (fail)
      go_wp2
      go_ret
      exact ⟨ret_int (by unfold Sq.mat; rw [Sq.com_stop s.data.toList _ (a - d) a k (by simp; omega) (by simp; omega) HJ.out (.inl (by simp; omega))]), _, World.drewN_drewN _ _ _⟩
end Go.Proofs.YtolgpnaoaodepaaGreat
