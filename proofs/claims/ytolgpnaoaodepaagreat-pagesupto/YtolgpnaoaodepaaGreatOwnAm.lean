/- Bytes that a call owns: what append and the conversion to a string do to them. -/
import Derived.Test.YtolgpnaoaodepaaGreatMathAm
import Derived.Lib.BufferRead
import Derived.Laws.IdiomStrings
import Derived.Laws.DeepStrings4
namespace Go.Proofs.YtolgpnaoaodepaaGreat
open Go.RowKit

/-- The slice value v owns the bytes l, in a row from block B on. -/
def Owns (B : Nat) (w : World) (v : Value) (l : List UInt8) : Prop := w.ownsRow B 5 1 v l.length (Lib.byteCells l)

theorem info_u8 : (Tryz.prog.info? 5).map (fun i => (i.zero, i.size, i.bytes)) = some (some (.int .u8 0), 1, 1) := by kernel_rfl

theorem Owns.nil (B : Nat) (w : World) : Owns B w (.slice none 0 0) [] := World.ownsRow_nil _ _ _ _
theorem Owns.alloc {B : Nat} {w : World} {v : Value} {l : List UInt8} (h : Owns B w v l) (o : Obj) : Owns B (w.alloc o) v l := World.ownsRow.alloc h o
theorem Owns.drewN {B : Nat} {w : World} {v : Value} {l : List UInt8} (h : Owns B w v l) (q : Nat) : Owns B (w.drewN q) v l := h
theorem Owns.drew {B : Nat} {w : World} {v : Value} {l : List UInt8} (h : Owns B w v l) : Owns B w.drew v l := h
theorem Owns.shape {B : Nat} {w : World} {v : Value} {l : List UInt8} (h : Owns B w v l) : ∃ a cap, v = .slice a l.length cap := by
  rcases h.2 with ⟨rfl, hn⟩ | ⟨g, cap, cur, rfl, _⟩
  · exact ⟨none, 0, by rw [hn]⟩
  · exact ⟨_, _, rfl⟩
theorem Owns.below {B C : Nat} {w w' : World} {v : Value} {l : List UInt8} (h : Owns B w v l) (hb : Below C w w') (hlt : ∀ k, v.ownBlock = some k → k < C) : Owns B w' v l := by
  refine ⟨h.1, ?_⟩
  rcases h.2 with hn | ⟨g, cap, cur, rfl, hb', hg, r⟩
  · exact .inl hn
  · exact .inr ⟨g, cap, cur, rfl, hb', by rw [hb.block g (hlt g rfl)]; exact hg, r⟩
theorem below_drewN {B : Nat} {a w : World} (h : Below B a w) (n : Nat) : Below B a (w.drewN n) := h.trans ⟨rfl, rfl, rfl, Nat.le_refl _, fun _ _ => rfl⟩

/-- string(v). -/
theorem Owns.str {B : Nat} {w : World} {v : Value} {l : List UInt8} (h : Owns B w v l) : (convert 108 9 v).run Tryz.prog w = .ok (.string ⟨l.toArray⟩) w := by
  rcases h.2 with ⟨rfl, hn⟩ | ⟨g, cap, cur, rfl, hb, hg, _, _, _, htk⟩
  · have : l = [] := List.length_eq_zero_iff.1 hn
    subst this
    exact Lib.run_convert_nil_bytes w _ _ 5 0 Tryz.underlying108 Tryz.underlying5 Tryz.underlying9
  · refine run_convert_bytes_back w _ _ 5 ⟨g, 0, none⟩ cap l Tryz.underlying108 Tryz.underlying5 Tryz.underlying9 ?_
    exact Lib.bytes_of_row hg (by simpa using htk)

theorem byteCells_one (l : List UInt8) : ∀ u ∈ Lib.byteCells l, u.oneCell' = true := by
  intro u hu
  simp [Lib.byteCells] at hu
  obtain ⟨b, _, rfl⟩ := hu
  rfl

/-- append(v, s...), s a string. -/
theorem wpApS (w : World) {ops : Array Oper} {rest : List Oper} {o : Oper} {a : Act} {Q : Exit → Act → World → Prop} (hgd : o.guard = none) (sl x : Operand)
    (ho : o.op = Op.call { callee := Callee.builtin Builtin.append, args := #[sl, x], argTypes := #[108, 9] }) (B : Nat) (v : Value) (l : List UInt8) (hs : a.eval sl = v) (hown : Owns B w v l)
    (s : ByteArray) (hx : a.eval x = .string s) (hb : l.length + s.size ≤ 140737488355328) (hB : B ≤ w.heap.size)
    (h : ∀ (v' : Value) (w' : World), Owns B w' v' (l ++ s.data.toList) → Below B w w' → wpList Tryz.prog ops Q rest (a.put o.dst v') w') : wpList Tryz.prog ops Q (o :: rest) a w := by
  obtain ⟨i, hi, hz0, hz1, hz2⟩ := info_parts info_u8
  refine Lib.wpList_append_own_string w hgd sl x 108 9 ho B 5 i Tryz.underlying108 Tryz.underlying9 hi hz0 hz1 hz2 v l.length (Lib.byteCells l) hs hown s hx (by unfold maxLen; omega) hb hB ?_
  intro v' w' ho' hg _
  refine h v' w' ?_ ((Below.refl B w).grown hg hB fun k hk => (World.ownsRow.lt hown k hk).1)
  have e1 : Lib.byteCells (l ++ s.data.toList) = Lib.byteCells l ++ Lib.strCells s := by rw [Lib.byteCells_append]; rfl
  unfold Owns
  rw [e1, List.length_append, show s.data.toList.length = s.size by simp]
  exact ho'

/-- append(v, xs...), xs bytes that lie somewhere. -/
theorem wpApB (w : World) {ops : Array Oper} {rest : List Oper} {o : Oper} {a : Act} {Q : Exit → Act → World → Prop} (hgd : o.guard = none) (sl x : Operand)
    (ho : o.op = Op.call { callee := Callee.builtin Builtin.append, args := #[sl, x], argTypes := #[108, 108] }) (B : Nat) (v : Value) (l : List UInt8) (hs : a.eval sl = v) (hown : Owns B w v l)
    (ad : Addr) (c : Nat) (news : List UInt8) (hx : a.eval x = .slice (some ad) news.length c) (hnews : ∀ j u, (Lib.byteCells news)[j]? = some u → w.cell? (ad.add j) = some u)
    (hb : l.length + news.length ≤ 140737488355328) (hB : B ≤ w.heap.size)
    (h : ∀ (v' : Value) (w' : World), Owns B w' v' (l ++ news) → w.grownBy w' v.ownBlock → (v'.ownBlock = v.ownBlock ∨ v'.ownBlock = some w.heap.size) → wpList Tryz.prog ops Q rest (a.put o.dst v') w') : wpList Tryz.prog ops Q (o :: rest) a w := by
  obtain ⟨i, hi, hz0, hz1, hz2⟩ := info_parts info_u8
  refine wpList_append_own_at w hgd sl x 108 ho B 5 i (.int .u8 0) 1 1 Tryz.underlying108 hi hz0 hz1 hz2 rfl (by decide) v l.length (Lib.byteCells l) hs hown ad news.length c (Lib.byteCells news) hx (by rw [Lib.byteCells_length]; omega) hnews (byteCells_one _) (by unfold maxLen; omega) (by omega) hB ?_
  intro v' w' ho' hg _ hat
  refine h v' w' ?_ hg hat
  unfold Owns
  rw [Lib.byteCells_append, List.length_append]
  exact ho'

/-- A row of bytes that was laid just now. -/
theorem laid_cells (w : World) (T : TypeId) (bs : List UInt8) (cur : Array Value) (hc : cur.toList = Lib.byteCells bs) : ∀ j u, (Lib.byteCells bs)[j]? = some u → (w.alloc (.cells cur T)).cell? ((⟨w.heap.size, 0, none⟩ : Addr).add j) = some u := by
  intro j u hj
  rw [← hc, Array.getElem?_toList] at hj
  have e : ∀ j, (w.alloc (.cells cur T)).cell? ⟨w.heap.size, j, none⟩ = cur[j]? := fun j => World.cell?_alloc_at cur T _ j rfl
  by_cases h0 : j = 0
  · subst h0; simp only [Addr.add, if_pos]; rw [e]; exact hj
  · simp only [Addr.add, if_neg h0, Nat.zero_add]; rw [e]; exact hj

/-- append(v, b): b lies in a new block of its own. -/
theorem wpAp1 (w : World) {ops : Array Oper} {rest : List Oper} {o : Oper} {a : Act} {Q : Exit → Act → World → Prop} (hgd : o.guard = none) (sl x : Operand)
    (ho : o.op = Op.call { callee := Callee.builtin Builtin.append, args := #[sl, x], argTypes := #[108, 108] }) (B : Nat) (v : Value) (l : List UInt8) (hs : a.eval sl = v) (hown : Owns B w v l)
    (b : UInt8) (n : Int) (hn : n = (b.toNat : Int)) (hx : a.eval x = .slice (some ⟨w.heap.size, 0, none⟩) 1 1)
    (hb : l.length + 1 ≤ 140737488355328) (hB : B ≤ w.heap.size)
    (h : ∀ (v' : Value) (w' : World), Owns B w' v' (l ++ [b]) → (w.alloc (.cells #[.int .u8 n] 5)).grownBy w' v.ownBlock → (v'.ownBlock = v.ownBlock ∨ v'.ownBlock = some (w.heap.size + 1)) → wpList Tryz.prog ops Q rest (a.put o.dst v') w') : wpList Tryz.prog ops Q (o :: rest) a (w.alloc (.cells #[.int .u8 n] 5)) := by
  subst hn
  refine wpApB (w.alloc (.cells #[.int .u8 (b.toNat : Int)] 5)) hgd sl x ho B v l hs (hown.alloc _) ⟨w.heap.size, 0, none⟩ 1 [b] hx (laid_cells w _ [b] _ (by simp [Lib.byteCells])) (by simpa using hb) (by simp; omega) ?_
  intro v' w' h1 h2 h3
  exact h v' w' h1 h2 (by simpa using h3)
theorem wpAp2 (w : World) {ops : Array Oper} {rest : List Oper} {o : Oper} {a : Act} {Q : Exit → Act → World → Prop} (hgd : o.guard = none) (sl x : Operand)
    (ho : o.op = Op.call { callee := Callee.builtin Builtin.append, args := #[sl, x], argTypes := #[108, 108] }) (B : Nat) (v : Value) (l : List UInt8) (hs : a.eval sl = v) (hown : Owns B w v l)
    (b c : UInt8) (n m : Int) (hn : n = (b.toNat : Int)) (hm : m = (c.toNat : Int)) (hx : a.eval x = .slice (some ⟨w.heap.size, 0, none⟩) 2 2)
    (hb : l.length + 2 ≤ 140737488355328) (hB : B ≤ w.heap.size)
    (h : ∀ (v' : Value) (w' : World), Owns B w' v' (l ++ [b, c]) → (w.alloc (.cells #[.int .u8 n, .int .u8 m] 5)).grownBy w' v.ownBlock → (v'.ownBlock = v.ownBlock ∨ v'.ownBlock = some (w.heap.size + 1)) → wpList Tryz.prog ops Q rest (a.put o.dst v') w') : wpList Tryz.prog ops Q (o :: rest) a (w.alloc (.cells #[.int .u8 n, .int .u8 m] 5)) := by
  subst hn hm
  refine wpApB (w.alloc (.cells #[.int .u8 (b.toNat : Int), .int .u8 (c.toNat : Int)] 5)) hgd sl x ho B v l hs (hown.alloc _) ⟨w.heap.size, 0, none⟩ 2 [b, c] hx (laid_cells w _ [b, c] _ (by simp [Lib.byteCells])) (by simpa using hb) (by simp; omega) ?_
  intro v' w' h1 h2 h3
  exact h v' w' h1 h2 (by simpa using h3)

theorem below_of_grown {B : Nat} {w w' : World} {v : Value} {l : List UInt8} {ob : Obj} (hown : Owns B w v l) (hB : B ≤ w.heap.size) (hg : (w.alloc ob).grownBy w' v.ownBlock) : Below B w w' :=
  (((Below.refl B w).alloc hB ob).grown hg (by simp; omega) fun k hk => (World.ownsRow.lt hown k hk).1)
end Go.Proofs.YtolgpnaoaodepaaGreat
/- The walk of appendRun. -/
namespace Go.Proofs.YtolgpnaoaodepaaGreat
open Go.RowKit

theorem len_size (t : ByteArray) : t.data.toList.length = t.size := by simp
theorem drop_data (t : ByteArray) (n : Nat) : (t.extract n t.size).data.toList = t.data.toList.drop n := by
  rw [Lib.extract_data, List.take_of_length_le (by rw [List.length_drop, len_size]; exact Nat.le_refl _)]
theorem run_step (t : ByteArray) (n : Nat) (hn : n = min t.size 128) (h : 0 < t.size) : Sq.runOf t.data.toList = UInt8.ofNat (n - 1) :: (t.data.toList.take n ++ Sq.runOf (t.extract n t.size).data.toList) := by
  have hl := len_size t
  rw [drop_data]
  generalize t.data.toList = l at *
  rw [Sq.runOf_cons l (by intro e; rw [e] at hl; simp at hl; omega), hl, ← hn]
  by_cases h2 : t.size ≤ 128
  · have e : n = t.size := by omega
    rw [List.take_of_length_le (show l.length ≤ 128 by omega), List.take_of_length_le (show l.length ≤ n by omega), List.drop_eq_nil_of_le (show l.length ≤ 128 by omega), List.drop_eq_nil_of_le (show l.length ≤ n by omega)]
  · have e : n = 128 := by omega
    rw [e]

set_option maxHeartbeats 1000000 in
theorem run_any (B : Nat) (s : ByteArray) (v : Value) (l : List UInt8) (w : World) (hown : Owns B w v l) (hB : B ≤ w.heap.size) (hb : l.length + 2 * s.size ≤ 140737488355328) :
    Calls Tryz.prog 203 #[v, .string s] w fun r w' => ∃ v', r = .returned v' ∧ Owns B w' v' (l ++ Sq.runOf s.data.toList) ∧ Below B w w' := by
  go_enter Tryz.func203, Tryz.ntmps203
  go_wp2_with fail
  go_loopw [0, 1] (fun u x wr => ∃ (t : ByteArray) (k : List UInt8), x = .string t ∧ Owns B wr u k ∧ Below B w wr ∧ k.length + 2 * t.size ≤ 140737488355328 ∧ k ++ Sq.runOf t.data.toList = l ++ Sq.runOf s.data.toList) (fun _ x _ => match x with | .string t => t.size | _ => 0)
  case atStart => exact ⟨s, l, rfl, hown, Below.refl _ _, hb, rfl⟩
  case round =>
    obtain ⟨t, k, rfl, hok, hbel, hkb, heq⟩ := hrel
    have HEQ := hid heq
    have HOK := hid hok
    clear heq hok
    have hsz := hbel.size
    by_cases hlt : 0 < t.size
    · obtain ⟨n, hn, HN⟩ : ∃ n : Nat, min (t.size : Int) 128 = (n : Int) ∧ Hid (n = min t.size 128) := ⟨min t.size 128, by omega, rfl⟩
      have hn1 : 1 ≤ n ∧ n ≤ 128 ∧ n ≤ t.size := by have := HN.out; omega
      have hn2 : (0 : Int) ≤ (n : Int) - 1 ∧ (n : Int) - 1 ≤ 255 := by omega
      go_wp2_with (first
        | (at_builtin; refine wpAp1 wr rfl (.tmp 12) (.tmp 16) rfl B u0 k rfl HOK.out (UInt8.ofNat (n - 1)) ((n : Int) - 1) ?_ rfl (by omega) (by omega) ?_))
      · simp; omega
      intro v1 w1 ho1 hg1 _
      have hb1 := hbel.trans (below_of_grown HOK.out (by omega) hg1)
      have HO1 := hid ho1
      have HB1 := hid hb1
      have hsz1 := hb1.size
      clear ho1 hg1 HOK hbel hb1
      go_wp2_with (first
        | (at_builtin; refine wpApS w1 rfl (.tmp 18) (.tmp 21) rfl B v1 _ rfl HO1.out _ rfl ?_ ?_ ?_))
      · simp [ByteArray.size_extract]; omega
      · omega
      intro v2 w2 ho2 hb2
      have HO2 := hid ho2
      have HB2 := hid (HB1.out.trans hb2)
      clear ho2 hb2
      go_wp2_with fail
      go_roundw
      case rel =>
        refine ⟨_, _, rfl, HO2.out, HB2.out, ?_, ?_⟩
        · simp [ByteArray.size_extract]; omega
        · rw [← HEQ.out, run_step t n HN.out hlt]; simp
      case measure => simp [ByteArray.size_extract]; omega
    · go_wp2_with fail
      go_ret
      refine ⟨u0, rfl, ?_, hbel⟩
      have : t.data.toList = [] := List.length_eq_zero_iff.1 (by rw [len_size]; omega)
      rw [← HEQ.out, this, Sq.runOf_nil, List.append_nil]
      exact HOK.out
end Go.Proofs.YtolgpnaoaodepaaGreat
/- The walk of the program's Squeeze. -/
namespace Go.Proofs.YtolgpnaoaodepaaGreat
open Go.RowKit

theorem blen_zero (l : List UInt8) (a : Nat) (h : blen l a = 0) : (Sq.best l a).2 = 0 := by
  unfold blen at h
  by_cases e : (Sq.best l a).2 = 0
  · exact e
  · rw [if_neg e] at h; have := Sq.best_len l a e; omega
theorem blen_pos (l : List UInt8) (a : Nat) (h : blen l a ≠ 0) : (Sq.best l a).2 ≠ 0 ∧ blen l a = (Sq.best l a).1 := by
  unfold blen at *
  by_cases e : (Sq.best l a).2 = 0
  · rw [if_pos e] at h; exact absurd rfl h
  · exact ⟨e, if_neg e⟩
theorem blen_bd (l : List UInt8) (a : Nat) (ha : a ≤ l.length) : blen l a ≤ 66 ∧ a + blen l a ≤ l.length ∧ bfar l a ≤ 255 := by
  have hf := (Sq.best_far l a).1
  unfold blen bfar
  by_cases e : (Sq.best l a).2 = 0
  · rw [if_pos e]; omega
  · rw [if_neg e]; have := Sq.best_len l a e; omega
theorem part_single (l : List UInt8) (k a : Nat) (h1 : k ≤ a) (h2 : a < l.length) : (l.drop k).take (a + 1 - k) = (l.drop k).take (a - k) ++ [l[a]] := by
  rw [show a + 1 - k = (a - k) + 1 by omega, List.take_succ_eq_append_getElem (by simp; omega)]
  simp [show k + (a - k) = a by omega]

set_option maxHeartbeats 1000000 in
theorem squeeze_any (s : ByteArray) (w : World) (hs : s.size ≤ 35184372088832) :
    Calls Tryz.prog 146 #[.string s] w fun r w' => r = .returned (.string ⟨(Sq.squeeze s.data.toList).toArray⟩) ∧ Below w.heap.size w w' := by
  have HL := hid (len_size s)
  go_enter Tryz.func146, Tryz.ntmps146
  go_wp2_with fail
  go_loopw [3, 4, 5] (fun u k i wr => ∃ (out : List UInt8) (p a : Nat), p ≤ a ∧ a ≤ s.size ∧ k = .int .i64 p ∧ i = .int .i64 a ∧ Owns w.heap.size wr u out ∧ Below w.heap.size w wr ∧ out.length ≤ 2 * p ∧ out ++ Sq.rest s.data.toList a ((s.data.toList.drop p).take (a - p)) = Sq.squeeze s.data.toList) (fun _ _ i _ => s.size - (intOf i).toNat)
  case atStart => exact ⟨[], 0, 0, Nat.le_refl _, Nat.zero_le _, rfl, rfl, Owns.nil _ _, Below.refl _ _, by simp, by simp [Sq.squeeze]⟩
  case round =>
    obtain ⟨out, p, a, hpa, ha, rfl, rfl, hown, hbel, hout, heq⟩ := hrel
    have HEQ := hid heq
    have HOWN := hid hown
    have HBEL := hid hbel
    have hsz := hbel.size
    clear heq hown hbel
    by_cases hlt : a < s.size
    · have hbd := blen_bd s.data.toList a (by rw [HL.out]; omega)
      rw [HL.out] at hbd
      go_wp2_with fail
      refine (longest_any s a _ (by omega) (by omega)).mono ?_
      rintro r w1 ⟨rfl, q1, rfl⟩
      by_cases h0 : blen s.data.toList a = 0
      · have HB := hid (blen_zero _ _ h0)
        go_wp2_with fail
        go_roundw
        case rel =>
          refine ⟨out, p, a + 1, by omega, by omega, rfl, by go_num, HOWN.out.drewN _, below_drewN HBEL.out _, hout, ?_⟩
          rw [part_single _ _ _ hpa (by rw [HL.out]; exact hlt), ← Sq.rest_single _ _ _ (by rw [HL.out]; exact hlt) HB.out]
          exact HEQ.out
        case measure => simp [intOf]; omega
      · have HB := hid (blen_pos _ _ h0)
        have HF := hid (show (Sq.best s.data.toList a).2 = bfar s.data.toList a from rfl)
        have h3 := (Sq.best_len s.data.toList a (blen_pos _ _ h0).1).1
        rw [← (blen_pos _ _ h0).2] at h3
        generalize blen s.data.toList a = n at *
        generalize bfar s.data.toList a = f at *
        have h0' : ((n : Int) == 0) = false := by simpa using h0
        go_wp2_with fail
        refine (run_any w.heap.size (s.extract p a) u3 out _ (HOWN.out.drewN _) (by simpa using hsz) (by simp [ByteArray.size_extract]; omega)).mono ?_
        rintro r w2 ⟨v2, rfl, ho2, hb2⟩
        have HO2 := hid ho2
        have HB2 := hid ((below_drewN HBEL.out _).trans hb2)
        have hsz2 := HB2.out.size
        have hr2 := Sq.runOf_le _ (s.extract p a).data.toList (Nat.le_refl _)
        rw [len_size, ByteArray.size_extract] at hr2
        clear ho2 hb2
        generalize hru : Sq.runOf (s.extract p a).data.toList = ru at *
        have HRU := hid hru
        clear hru
        go_wp2_with (first
          | (at_builtin; refine wpAp2 w2 rfl (.tmp 28) (.tmp 34) rfl w.heap.size v2 _ rfl HO2.out (UInt8.ofNat (125 + n)) (UInt8.ofNat f) _ _ ?_ ?_ rfl ?_ ?_ ?_))
        · simp; omega
        · simp; omega
        · simp; omega
        · exact hsz2
        intro v3 w3 ho3 hg3 _
        have HO3 := hid ho3
        have HB3 := hid (HB2.out.trans (below_of_grown HO2.out hsz2 hg3))
        clear ho3 hg3
        go_wp2_with fail
        go_roundw
        case rel =>
          refine ⟨_, a + n, a + n, Nat.le_refl _, by omega, by go_num, by go_num, HO3.out, HB3.out, by simp; omega, ?_⟩
          rw [← HEQ.out, Sq.rest_match _ _ _ (by rw [HL.out]; exact hlt) HB.out.1, HF.out, ← HB.out.2, ← HRU.out, Lib.extract_data]
          simp
        case measure => simp [intOf]; omega
    · go_wp2_with fail
      refine (run_any w.heap.size (s.extract p s.size) u3 out _ HOWN.out hsz (by simp [ByteArray.size_extract]; omega)).mono ?_
      rintro r w2 ⟨v2, rfl, ho2, hb2⟩
      have HB2 := hid (HBEL.out.trans hb2)
      have HFIN : Hid (out ++ Sq.runOf (s.extract p s.size).data.toList = Sq.squeeze s.data.toList) := by
        show _ = _
        rw [← HEQ.out, Sq.rest_end _ _ _ (by rw [HL.out]; omega), drop_data, List.take_of_length_le (by rw [List.length_drop, HL.out]; omega)]
      rw [HFIN.out] at ho2
      have hcv := ho2.str
      clear ho2 hb2
      go_wp2_with fail
      go_ret
      exact ⟨rfl, HB2.out⟩
end Go.Proofs.YtolgpnaoaodepaaGreat
