/- A leafHead as it lies in memory; the walk of its write. -/
import Derived.Test.YtolgpnaoaodepaaWalkM
import Derived.Test.YtolgpnaoaodepaaMathI
import Derived.Lib.SmallJoins
namespace Go.Proofs.Ytolgpnaoaodepaa
open Go.RowKit
def ncells (l : List Nat) : List Value := l.map fun (c : Nat) => .int .i64 (c : Int)
/-- One of two rows is appended to: the other one stays, and they stay apart. -/
theorem rows_apart {B : Nat} {w w' : World} {u v v' : Value} {Tu Tv : TypeId} {su sv nu nv : Nat} {xu xv : List Value} (hu : w.ownsRow B Tu su u nu xu) (hv : w.ownsRow B Tv sv v nv xv) (hB : B ≤ w.heap.size) (hap : Apart u v) (hg : w.grownBy w' v.ownBlock) (hat : v'.ownBlock = v.ownBlock ∨ ∃ k, w.heap.size ≤ k ∧ v'.ownBlock = some k) : w'.ownsRow B Tu su u nu xu ∧ Apart u v' ∧ Below B w w' := by
  refine ⟨World.ownsRow.kept hu hg ?_, ?_, (Below.refl B w).grown hg hB fun k hk => (World.ownsRow.lt hv k hk).1⟩
  · cases h : u.ownBlock with
    | none => exact .inl rfl
    | some k => exact .inr (fun e => hap k h e.symm)
  · intro k hk e
    have hlt := (World.ownsRow.lt hu k hk).2
    rcases hat with h | ⟨j, hj, h⟩
    · rw [h] at e; exact hap k hk e
    · rw [h] at e; have : j = k := by simpa using e
      omega
theorem row_below {B C : Nat} {w w' : World} {v : Value} {T : TypeId} {s n : Nat} {xs : List Value} (h : w.ownsRow B T s v n xs) (hb : Below C w w') (hC : w.heap.size ≤ C) : w'.ownsRow B T s v n xs := by
  refine ⟨h.1, ?_⟩
  rcases h.2 with hn | ⟨g, cap, cur, rfl, hb', hg, r⟩
  · exact .inl hn
  · exact .inr ⟨g, cap, cur, rfl, hb', by rw [hb.block g (Nat.lt_of_lt_of_le (Array.getElem?_eq_some_iff.1 hg).1 hC)]; exact hg, r⟩
/-- A leafHead in block b, and its rows, which a call owns. -/
structure LHd (B b : Nat) (w wr : World) (ss : List Nat) (fs : List ByteArray) (vs vf : Value) : Prop where
  var : wr.heap[b]? = some (.cells #[vs, vf] 71 (0, 0))
  szs : wr.ownsRow (b + 1) 3 1 vs ss.length (ncells ss)
  fst : OwnsS (b + 1) wr vf fs
  apart : Apart vs vf
  bel : Below B w wr
  le : B ≤ b
  lt : b + 1 ≤ wr.heap.size
theorem LHd.cells {B b : Nat} {w wr : World} {ss : List Nat} {fs : List ByteArray} {vs vf : Value} (h : LHd B b w wr ss fs vs vf) : wr.cell? ⟨b, 0, none⟩ = some vs ∧ wr.cell? ⟨b, 1, none⟩ = some vf ∧ wr.frozen? ⟨b, 0, none⟩ = false ∧ wr.frozen? ⟨b, 1, none⟩ = false := by
  have h1 := h.var
  refine ⟨?_, ?_, ?_, ?_⟩ <;> simp [World.cell?, World.frozen?, h1]
theorem LHd.mid {B b : Nat} {w wr wx : World} {ss : List Nat} {fs : List ByteArray} {vs vf : Value} (h : LHd B b w wr ss fs vs vf) (hb : Below (b + 1) wr wx) : wx.cell? ⟨b, 0, none⟩ = some vs ∧ wx.cell? ⟨b, 1, none⟩ = some vf ∧ wx.frozen? ⟨b, 0, none⟩ = false ∧ wx.frozen? ⟨b, 1, none⟩ = false := by
  have h1 := (hb.block b (by omega)).trans h.var
  refine ⟨?_, ?_, ?_, ?_⟩ <;> simp [World.cell?, World.frozen?, h1]
theorem LHd.below {B b : Nat} {w wr wx : World} {ss : List Nat} {fs : List ByteArray} {vs vf : Value} (h : LHd B b w wr ss fs vs vf) (hb : Below wr.heap.size wr wx) : LHd B b w wx ss fs vs vf := by
  have h1 := h.lt; have h2 := h.le; have h3 := hb.size
  exact ⟨(hb.block _ (by omega)).trans h.var, row_below h.szs hb (Nat.le_refl _), row_below h.fst hb (Nat.le_refl _), h.apart, h.bel.trans (hb.mono (by omega)), h2, by omega⟩
theorem LHd.drewN {B b : Nat} {w wr : World} {ss : List Nat} {fs : List ByteArray} {vs vf : Value} (h : LHd B b w wr ss fs vs vf) (q : Nat) : LHd B b w (wr.drewN q) ss fs vs vf := ⟨h.var, h.szs, h.fst, h.apart, below_drewN h.bel q, h.le, h.lt⟩
theorem lhd_start (B : Nat) (w wr : World) (hb : Below B w wr) (hB : B ≤ wr.heap.size) : LHd B wr.heap.size w (wr.alloc (.cells #[.slice none 0 0, .slice none 0 0] 71)) [] [] (.slice none 0 0) (.slice none 0 0) :=
  ⟨heap_alloc_new _ _, World.ownsRow_nil _ _ _ _, World.ownsRow_nil _ _ _ _, apart_nil _, hb.alloc hB _, hB, by simp⟩
theorem LHd.apN {B b : Nat} {w wr w' : World} {ss : List Nat} {fs : List ByteArray} {vs vf v' : Value} {n : Nat} (h : LHd B b w wr ss fs vs vf) (ho : w'.ownsRow (b + 1) 3 1 v' (ss.length + 1) (ncells ss ++ [.int .i64 (n : Int)])) (hg : wr.grownBy w' vs.ownBlock) (hat : v'.ownBlock = vs.ownBlock ∨ ∃ k, wr.heap.size ≤ k ∧ v'.ownBlock = some k) :
    Below (b + 1) wr w' ∧ LHd B b w (w'.setCell ⟨b, 0, none⟩ v') (ss ++ [n]) fs v' vf := by
  obtain ⟨o2, ap2, bel2⟩ := rows_apart h.fst h.szs h.lt h.apart.symm hg hat
  have hle := h.le; have hlt := h.lt; have hsz := bel2.size
  refine ⟨bel2, ?_, ?_, ownsRow_setCell_below o2 (by simp) _, ap2.symm, (h.bel.trans (bel2.mono (by omega))).setCell (p := ⟨b, 0, none⟩) hle _, hle, ?_⟩
  · rw [heap_setCell_at (i := 0) ((bel2.block b (by omega)).trans h.var) v']; rfl
  · have e : ncells (ss ++ [n]) = ncells ss ++ [.int .i64 (n : Int)] := by simp [ncells]
    rw [e, List.length_append]
    exact ownsRow_setCell_below ho (by simp) _
  · simp [World.setCell]; omega
theorem LHd.apF {B b : Nat} {w wr w' : World} {ss : List Nat} {fs : List ByteArray} {vs vf v' : Value} {s : ByteArray} (h : LHd B b w wr ss fs vs vf) (ho : OwnsS (b + 1) w' v' (fs ++ [s])) (hg : wr.grownBy w' vf.ownBlock) (hat : v'.ownBlock = vf.ownBlock ∨ ∃ k, wr.heap.size ≤ k ∧ v'.ownBlock = some k) :
    Below (b + 1) wr w' ∧ LHd B b w (w'.setCell ⟨b, 1, none⟩ v') ss (fs ++ [s]) vs v' := by
  obtain ⟨o2, ap2, bel2⟩ := rows_apart h.szs h.fst h.lt h.apart hg hat
  have hle := h.le; have hlt := h.lt; have hsz := bel2.size
  refine ⟨bel2, ?_, ownsRow_setCell_below o2 (by simp) _, ho.setBelow (by omega) _, ap2, (h.bel.trans (bel2.mono (by omega))).setCell (p := ⟨b, 1, none⟩) hle _, hle, ?_⟩
  · rw [heap_setCell_at (i := 1) ((bel2.block b (by omega)).trans h.var) v']; rfl
  · simp [World.setCell]; omega

/-- append([]byte("xyz"), b): the constant's row is full, so that a new one is made. -/
theorem wpApL (w : World) {ops : Array Oper} {rest : List Oper} {o : Oper} {a : Act} {Q : Exit → Act → World → Prop} (hgd : o.guard = none) (sl x : Operand)
    (ho : o.op = Op.call { callee := Callee.builtin Builtin.append, args := #[sl, x], argTypes := #[59, 59] }) (p q r : UInt8) (P Q' R n : Int) (hP : P = (p.toNat : Int)) (hQ : Q' = (q.toNat : Int)) (hR : R = (r.toNat : Int)) (b : UInt8) (hn : n = (b.toNat : Int)) (k1 k2 : Nat) (hk1 : k1 = w.heap.size) (hk2 : k2 = w.heap.size + 1) (hs : a.eval sl = .slice (some ⟨k1, 0, none⟩) 3 3) (hx : a.eval x = .slice (some ⟨k2, 0, none⟩) 1 1) (B : Nat) (hB : B ≤ w.heap.size)
    (h : ∀ (v' : Value) (w' : World), Owns B w' v' [p, q, r, b] → Below w.heap.size w w' → (∃ k, w.heap.size < k ∧ v'.ownBlock = some k) → w.heap.size < w'.heap.size → wpList Try.prog ops Q rest (a.put o.dst v') w') : wpList Try.prog ops Q (o :: rest) a ((w.alloc (.cells #[.int .u8 P, .int .u8 Q', .int .u8 R] 5 (3, 4))).alloc (.cells #[.int .u8 n] 5)) := by
  subst hk1 hk2 hP hQ hR hn
  obtain ⟨i, hi, hz0, hz1, hz2⟩ := info_parts info_u8
  have c0 : ∀ j u, (Lib.byteCells [p, q, r])[j]? = some u → ((w.alloc (.cells #[.int .u8 (p.toNat : Int), .int .u8 (q.toNat : Int), .int .u8 (r.toNat : Int)] 5 (3, 4))).alloc (.cells #[.int .u8 (b.toNat : Int)] 5)).cell? ((⟨w.heap.size, 0, none⟩ : Addr).add j) = some u := by
    intro j u hj
    rw [add_at, World.cell?_alloc_past _ _ _ (by simp)]
    unfold World.cell?
    rw [heap_alloc_new]
    simpa [Lib.byteCells] using hj
  have c1 : ∀ j u, (Lib.byteCells [b])[j]? = some u → ((w.alloc (.cells #[.int .u8 (p.toNat : Int), .int .u8 (q.toNat : Int), .int .u8 (r.toNat : Int)] 5 (3, 4))).alloc (.cells #[.int .u8 (b.toNat : Int)] 5)).cell? ((⟨w.heap.size + 1, 0, none⟩ : Addr).add j) = some u := by
    have := laid_cells (w.alloc (.cells #[.int .u8 (p.toNat : Int), .int .u8 (q.toNat : Int), .int .u8 (r.toNat : Int)] 5 (3, 4))) 5 [b] #[.int .u8 (b.toNat : Int)] (by simp [Lib.byteCells])
    rw [show (w.alloc (.cells #[.int .u8 (p.toNat : Int), .int .u8 (q.toNat : Int), .int .u8 (r.toNat : Int)] 5 (3, 4))).heap.size = w.heap.size + 1 by simp] at this
    exact this
  generalize hW : (w.alloc (.cells #[.int .u8 (p.toNat : Int), .int .u8 (q.toNat : Int), .int .u8 (r.toNat : Int)] 5 (3, 4))).alloc (.cells #[.int .u8 (b.toNat : Int)] 5) = W at *
  have hWs : W.heap.size = w.heap.size + 2 := by rw [← hW]; simp
  have hWb : Below w.heap.size w W := by rw [← hW]; exact ((Below.refl _ w).alloc (Nat.le_refl _) _).alloc (by simp) _
  have hr := run_append_grow (P := Try.prog) W 59 o.type 5 i (.int .u8 0) Try.underlying59 hi hz0 ⟨w.heap.size, 0, none⟩ 3 3 (Lib.byteCells [p, q, r]) (by rw [hz1]; rfl) c0 ⟨w.heap.size + 1, 0, none⟩ 1 1 (Lib.byteCells [b]) (by rw [hz1]; rfl) c1 (by omega) (by omega) (growslice_fits (by omega) (by rw [hz2]; omega))
  refine Lib.wpList_append_run W hgd sl x 59 59 ho _ _ hs hx _ _ hr (h _ _ ?_ ?_ ⟨W.heap.size, by omega, rfl⟩ (by simp; omega))
  · unfold Owns
    have hge := grownCap_ge W (3 + 1) 3 5
    refine ⟨rfl, .inr ⟨W.heap.size, _, _, rfl, by omega, heap_alloc_new W.drew _, hge, grownCap_le_maxLen W (3 + 1) 3 _ (by unfold maxLen; omega), ?_, ?_⟩⟩
    · simp only [Array.size_append, List.size_toArray, size_zeroCells, Lib.byteCells_length]
      show 3 + 1 + _ * 1 = _
      omega
    · simp only [Array.toList_append]
      rw [show Lib.byteCells [p, q, r, b] = Lib.byteCells [p, q, r] ++ Lib.byteCells [b] from rfl]
      exact List.take_left' rfl
  · exact hWb.trans ((((Below.refl W.heap.size W).drew).alloc (by simp) _).mono (by omega))
/-- A leafHead value whose rows lie there. -/
def IsLH (w : World) (v : Value) (ss : List Nat) (fs : List ByteArray) : Prop := ∃ vs vf, v = .agg #[vs, vf] ∧ IsRow w vs ss.length (ncells ss) ∧ IsRow w vf fs.length (strs fs)
theorem LHd.isLH {B b : Nat} {w wr : World} {ss : List Nat} {fs : List ByteArray} {vs vf : Value} (h : LHd B b w wr ss fs vs vf) (h1 : ss.length ≤ 1000) (h2 : fs.length ≤ 1000) : IsLH wr (.agg #[vs, vf]) ss fs :=
  ⟨vs, vf, rfl, ownsRow.isRow h.szs (by omega), ownsRow.isRow h.fst (by omega)⟩

set_option maxHeartbeats 2000000 in
set_option maxRecDepth 20000 in
theorem headWrite_any (v : Value) (ss : List Nat) (fs : List ByteArray) (w : World) (hv : IsLH w v ss fs) (hn : ss.length = fs.length) (h4 : fs.length ≤ 4) (hf : ∀ f ∈ fs, f.size ≤ 12) :
    Calls Try.prog 56 #[v] w fun r w' => r = .returned (.string ⟨(Pg.headW ss (lists fs)).toArray⟩) ∧ Below w.heap.size w w' := by
  obtain ⟨vs, vf, rfl, ⟨sa, ca, rfl, -, hs⟩, ⟨fa, cf, rfl, -, hf1⟩⟩ := hv
  have HS := hid hs
  have HF := hid hf1
  have HFL := hid hf
  have HN := hid hn
  have hs4 : ss.length ≤ 4 := by omega
  have hf0 : fs.length ≤ ss.length := by omega
  have hf2 : ss.length ≤ fs.length := by omega
  clear hs hf1 hf hn
  obtain ⟨bt, hbt, hbl⟩ := low1 ss.length
  have HBT := hid hbt
  have HBL := hid hbl
  clear hbt hbl
  go_enter Try.func56, Try.ntmps56
  have hcv := Joins.run_convert_bytes_const_at (P := Try.prog) (w.alloc (.cells #[.slice sa ss.length ca, .slice fa fs.length cf] 71)) 59 5 #[.int .u8 83, .int .u8 50, .int .u8 76] 3 3 (w.heap.size + 1) (by simp) Try.underlying59 Try.underlying5
  have hcm : ∀ j, ((w.alloc (.cells #[.slice sa ss.length ca, .slice fa fs.length cf] 71)).alloc (.cells #[.int .u8 83, .int .u8 50, .int .u8 76] 5 (3, 4))).cell? ⟨w.heap.size, j, none⟩ = (#[Value.slice sa ss.length ca, .slice fa fs.length cf] : Array Value)[j]? := by
    intro j
    rw [World.cell?_alloc_past _ _ _ (by simp)]
    unfold World.cell?
    rw [heap_alloc_new]
    simp
  go_wp2_with (first
    | (at_builtin; refine wpApL (w.alloc (.cells #[.slice sa ss.length ca, .slice fa fs.length cf] 71)) rfl (.tmp 7) (.tmp 12) rfl 83 50 76 _ _ _ _ rfl rfl rfl bt ?_ (w.heap.size + 1) (w.heap.size + 2) (by simp) (by simp) rfl rfl w.heap.size (by simp) ?_))
  · rw [HBT.out]; omega
  intro v1 w1 ho1 hb1 k1 hk1 e1 hs1
  have c0 := (hb1.cell (p := ⟨w.heap.size, 0, none⟩) (by simp)).trans (show _ = some (.slice sa ss.length ca) by simp)
  have c1 := (hb1.cell (p := ⟨w.heap.size, 1, none⟩) (by simp)).trans (show _ = some (.slice fa fs.length cf) by simp)
  have hne : v1.ownBlock ≠ some w.heap.size := by
    rw [e1]; simp; omega
  have HO1 := hid ho1
  have HB1 := hid (((Below.refl w.heap.size w).alloc (Nat.le_refl _) (.cells #[.slice sa ss.length ca, .slice fa fs.length cf] 71)).trans (hb1.mono (by simp)))
  have hs1' : w.heap.size < w1.heap.size := by omega
  clear ho1 hb1 e1 hk1 hs1 hcv hcm
  have HNE := hid hne
  clear hne
  have HC0 := hid c0
  go_wp2_with fail
  clear c0 c1
  go_loopw [3, 17] (fun u i wr => ∃ (k : Nat) (o : List UInt8), k ≤ fs.length ∧ i = .int .i64 k ∧ Owns w.heap.size wr u o ∧ Below w.heap.size w wr ∧ wr.cell? ⟨w.heap.size, 0, none⟩ = some (.slice sa ss.length ca) ∧ u.ownBlock ≠ some w.heap.size ∧ w.heap.size < wr.heap.size ∧ o ++ Pg.heads (ss.drop k) (lists (fs.drop k)) = [83, 50, 76] ++ [bt] ++ Pg.heads ss (lists fs) ∧ o.length ≤ 4 + 15 * k ∧ 4 ≤ o.length) (fun _ i _ => fs.length - (intOf i).toNat)
  case atStart => exact ⟨0, _, Nat.zero_le _, rfl, HO1.out, HB1.out, HC0.out, HNE.out, hs1', by simp, by simp, by simp⟩
  case round =>
    clear HO1 HB1 HC0 HNE hs1'
    obtain ⟨k, o, hk, rfl, ho, hb, hc0, hne, hsr, heq, hol, hop⟩ := hrel
    have HO := hid ho
    have HB := hid hb
    have HNE := hid hne
    have HEQ := hid heq
    clear ho hb hne heq
    by_cases hkl : k < fs.length
    · obtain ⟨bs, ofs, hsa, hbs, hcs⟩ := HS.out.resolve_left (by omega)
      obtain ⟨bf, off, hfa, hbf, hcf⟩ := HF.out.resolve_left (by omega)
      subst hsa hfa
      have d0 := rowAtN (pl := ss) hcs HB.out hbs k (by omega)
      have d1 := rowAt (pl := fs) hcf HB.out hbf k hkl
      have hfl := HFL.out _ (List.getElem_mem hkl)
      have HNX : Hid (Pg.heads (ss.drop k) (lists (fs.drop k)) = Pg.ent1 (ss[k]'(by omega)) (fs[k]'hkl).data.toList ++ Pg.heads (ss.drop (k + 1)) (lists (fs.drop (k + 1)))) := by
        show _ = _; rw [List.drop_eq_getElem_cons hkl, List.drop_eq_getElem_cons (show k < ss.length by omega)]; rfl
      clear hcs hcf
      generalize fs[k]'hkl = f at *
      generalize ss[k]'(by omega) = s at *
      obtain ⟨bk, hbk, hbkl⟩ := low1 f.size
      have HBK := hid hbk
      have HE1 : Hid (Pg.ent1 s f.data.toList = Pg.low s 2 ++ [bk] ++ f.data.toList ++ List.replicate (12 - f.size) 0) := by
        show _ = _; unfold Pg.ent1; rw [len_size, hbkl]
      clear hbk hbkl
      go_wp2_with fail
      refine (apShort_any w.heap.size u3 o s _ HO.out (by omega) (by omega)).mono ?_
      rintro r w2 ⟨v2, rfl, ho2, hg2⟩
      have HO2 := hid ho2
      have HB2 := hid (HB.out.trans (hg2.below HO.out (by omega)))
      have hs2 := hg2.size
      have e0 := hg2.cell hc0 HNE.out
      have HN2 := hid (hg2.ne (by omega) HNE.out)
      have hl2 := Pg.low_len 2 s
      clear ho2 hg2 hc0
      go_wp2_with (first
        | (at_builtin; refine wpAp1 w2 rfl (.tmp 28) (.tmp 32) rfl w.heap.size v2 _ rfl HO2.out bk _ ?_ rfl ?_ ?_ ?_))
      · rw [HBK.out]; omega
      · simp; omega
      · omega
      intro v3 w3 ho3 hg3 hat3
      have hgr := grew_alloc hg3 hat3
      have HO3 := hid ho3
      have HB3 := hid (HB2.out.trans (hgr.below HO2.out (by omega)))
      have hs3 := hgr.size
      have f0 := hgr.cell e0 HN2.out
      have HN3 := hid (hgr.ne (by omega) HN2.out)
      clear ho3 hg3 hat3 hgr e0
      go_wp2_with (first
        | (at_builtin; refine wpApSg w3 rfl (.tmp 34) (.tmp 35) rfl w.heap.size v3 _ rfl HO3.out f rfl ?_ ?_ ?_))
      · simp; omega
      · omega
      intro v4 w4 ho4 hg4
      have HO4 := hid ho4
      have HB4 := hid (HB3.out.trans (hg4.below HO3.out (by omega)))
      have hs4' := hg4.size
      have g0 := hg4.cell f0 HN3.out
      have HN4 := hid (hg4.ne (by omega) HN3.out)
      clear ho4 hg4 f0
      obtain ⟨z, hz⟩ : ∃ z, z = 12 - f.size := ⟨_, rfl⟩
      have hz2 : (12 : Int) - (f.size : Int) = (z : Int) := by omega
      have hz3 : z + f.size ≤ 12 := by omega
      have HZ := hid hz
      clear hz
      go_wp2_with (first
        | (at_builtin; refine wpApZ w4 rfl (.tmp 37) (.tmp 40) rfl w.heap.size v4 _ rfl HO4.out ?_ z rfl ?_ ?_ ?_ ?_))
      · simp; omega
      · omega
      · simp; omega
      · omega
      intro v5 w5 ho5 hg5
      have HO5 := hid ho5
      have HB5 := hid (HB4.out.trans (hg5.below HO4.out (by omega)))
      have hs5 := hg5.size
      have k0 := hg5.cell g0 HN4.out
      have HN5 := hid (hg5.ne (by omega) HN4.out)
      clear ho5 hg5 g0
      go_wp2_with fail
      go_roundw
      case rel =>
        refine ⟨k + 1, _, by omega, by go_num, HO5.out, HB5.out, k0, HN5.out, by omega, ?_, ?_, ?_⟩
        · rw [← HEQ.out, HNX.out, HE1.out, ← HZ.out]; simp
        · simp; omega
        · simp; omega
      case measure => simp [intOf]; omega
    · have HFI : Hid (o = [83, 50, 76] ++ [bt] ++ Pg.heads ss (lists fs)) := by
        show _ = _; rw [← HEQ.out, List.drop_eq_nil_of_le (show ss.length ≤ k by omega)]; simp [Pg.heads]
      go_wp2_with fail
      refine (sealHead_any w.heap.size u3 o _ HO.out (by omega) (by omega) (by omega)).mono ?_
      rintro r w2 ⟨v2, rfl, ho2, hg2⟩
      have HB2 := hid (HB.out.trans (hg2.below HO.out (by omega)))
      have HR : Hid (Pg.sealed (o ++ List.replicate (64 - o.length) 0) = Pg.headW ss (lists fs)) := by
        show _ = _; unfold Pg.headW; rw [HFI.out, HBL.out]
        congr 2
        simp
      rw [HR.out] at ho2
      have hcv := ho2.str
      clear ho2 hg2
      go_wp2_with fail
      go_ret
      exact ⟨rfl, HB2.out⟩
end Go.Proofs.Ytolgpnaoaodepaa
