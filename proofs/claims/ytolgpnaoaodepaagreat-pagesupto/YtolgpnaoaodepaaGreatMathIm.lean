/- Plain mathematics of the program's reading of a leaf's first bytes. -/
import Derived.Test.YtolgpnaoaodepaaGreatMathEm
import Derived.Test.YtolgpnaoaodepaaGreatWalkLm
import Derived.Lib.SmallJoins
namespace Go.Proofs.YtolgpnaoaodepaaGreat.Pr
open Pg
def entsR : Nat → List UInt8 → Option (List Nat × List (List UInt8))
  | 0, _ => some ([], [])
  | n + 1, t => (shortR t).bind fun s => (byteR s.2).bind fun b => (takeR 12 b.2).bind fun p => if 12 < b.1.toNat then none else (entsR n p.2).map fun r => (s.1 :: r.1, p.1.take b.1.toNat :: r.2)
theorem ents_len : ∀ (n : Nat) (t : List UInt8) (x : List Nat × List (List UInt8)), entsR n t = some x → x.1.length = n ∧ x.2.length = n ∧ ∀ k ∈ x.2, k.length ≤ 12
  | 0, t, x, h => by simp [entsR] at h; subst h; simp
  | n + 1, t, x, h => by
    rw [entsR] at h
    cases h1 : shortR t with
    | none => rw [h1] at h; simp at h
    | some s =>
      rw [h1] at h; simp only [Option.bind_some] at h
      cases h2 : byteR s.2 with
      | none => rw [h2] at h; simp at h
      | some b =>
        rw [h2] at h; simp only [Option.bind_some] at h
        cases h3 : takeR 12 b.2 with
        | none => rw [h3] at h; simp at h
        | some p =>
          rw [h3] at h; simp only [Option.bind_some] at h
          split at h
          · simp at h
          · cases h4 : entsR n p.2 with
            | none => rw [h4] at h; simp at h
            | some r =>
              rw [h4] at h; simp only [Option.map_some, Option.some.injEq] at h
              obtain ⟨e1, e2, e3⟩ := ents_len n p.2 r h4
              subst h
              refine ⟨by simp [e1], by simp [e2], ?_⟩
              intro k hk
              rcases List.mem_cons.1 hk with rfl | hk
              · rw [List.length_take]; omega
              · exact e3 k hk
end Go.Proofs.YtolgpnaoaodepaaGreat.Pr
namespace Go.Proofs.YtolgpnaoaodepaaGreat.Pg
/-- What stands of a basement in a leaf's first bytes: its section's length, its first key. -/
def ent1 (s : Nat) (k : List UInt8) : List UInt8 := low s 2 ++ low k.length 1 ++ k ++ List.replicate (12 - k.length) 0
def heads : List Nat → List (List UInt8) → List UInt8
  | s :: ss, k :: ks => ent1 s k ++ heads ss ks
  | _, _ => []
/-- A leaf's first bytes. -/
def headW (ss : List Nat) (ks : List (List UInt8)) : List UInt8 := sealed ([83, 50, 76] ++ low ss.length 1 ++ heads ss ks ++ List.replicate (60 - (heads ss ks).length) 0)
theorem ent1_len (s : Nat) (k : List UInt8) (h : k.length ≤ 12) : (ent1 s k).length = 15 := by
  unfold ent1; simp only [List.length_append, low_len, List.length_replicate]; omega
theorem heads_len : ∀ (ss : List Nat) (ks : List (List UInt8)), ss.length = ks.length → (∀ k ∈ ks, k.length ≤ 12) → (heads ss ks).length = 15 * ss.length
  | [], [], _, _ => rfl
  | s :: ss, k :: ks, h, hk => by
    rw [heads, List.length_append, ent1_len s k (hk k (by simp)), heads_len ss ks (by simpa using h) (fun x hx => hk x (by simp [hx])), List.length_cons]; omega
  | [], k :: ks, h, _ => by simp at h
  | s :: ss, [], h, _ => by simp at h
end Go.Proofs.YtolgpnaoaodepaaGreat.Pg
namespace Go.Proofs.YtolgpnaoaodepaaGreat.Pr
open Pg
/-- A leaf's first bytes: the lengths of its sections, their first keys. -/
def headR (page : List UInt8) : Option (List Nat × List (List UInt8)) := (takeR 68 page).bind fun f => (takeR 3 f.1).bind fun a => (byteR a.2).bind fun c => if 4 < c.1.toNat then none else (entsR c.1.toNat c.2).bind fun r => if okPivots r.2 none = true then (if headW r.1 r.2 = f.1 then some r else none) else none
theorem entsR_heads : ∀ (ss : List Nat) (ks : List (List UInt8)) (t : List UInt8), ss.length = ks.length → (∀ s ∈ ss, s < 65536) → (∀ k ∈ ks, k.length ≤ 12) → entsR ss.length (heads ss ks ++ t) = some (ss, ks)
  | [], [], _, _, _, _ => rfl
  | s :: ss, k :: ks, t, h, hs, hk => by
    have hs1 := hs s (by simp)
    have hk1 := hk k (by simp)
    rw [heads, List.length_cons, entsR]
    have e : ent1 s k ++ heads ss ks ++ t = low s 2 ++ (UInt8.ofNat (k.length % 256) :: ((k ++ List.replicate (12 - k.length) 0) ++ (heads ss ks ++ t))) := by
      unfold ent1; simp [low]
    have h1 : shortR (ent1 s k ++ heads ss ks ++ t) = some (s, UInt8.ofNat (k.length % 256) :: ((k ++ List.replicate (12 - k.length) 0) ++ (heads ss ks ++ t))) := by
      unfold shortR
      rw [e]
      have := takeR_append (low s 2) (UInt8.ofNat (k.length % 256) :: ((k ++ List.replicate (12 - k.length) 0) ++ (heads ss ks ++ t)))
      rw [low_len] at this
      rw [this]
      simp only [Option.map_some]
      rw [high_low 2 s (by simpa using hs1)]
    have hb : (UInt8.ofNat (k.length % 256)).toNat = k.length := by rw [UInt8.toNat_ofNat']; omega
    rw [h1]
    simp only [Option.bind_some, byteR]
    have h2 := takeR_append (k ++ List.replicate (12 - k.length) 0) (heads ss ks ++ t)
    rw [show (k ++ List.replicate (12 - k.length) (0 : UInt8)).length = 12 by simp; omega] at h2
    rw [h2]
    simp only [Option.bind_some, hb]
    rw [if_neg (by omega), entsR_heads ss ks t (by simpa using h) (fun x hx => hs x (by simp [hx])) (fun x hx => hk x (by simp [hx])), List.take_left]
    rfl
  | [], k :: ks, _, h, _, _ => by simp at h
  | s :: ss, [], _, h, _, _ => by simp at h
theorem headW_len (ss : List Nat) (ks : List (List UInt8)) (h : ss.length = ks.length) (h4 : ss.length ≤ 4) (hk : ∀ k ∈ ks, k.length ≤ 12) : (headW ss ks).length = 68 := by
  unfold headW
  rw [seal_len]
  simp only [List.length_append, low_len, List.length_replicate, heads_len ss ks h hk]
  simp; omega
/-- What is written there is read. -/
theorem headR_headW (ss : List Nat) (ks : List (List UInt8)) (t : List UInt8) (h : ss.length = ks.length) (h4 : ss.length ≤ 4) (hs : ∀ s ∈ ss, s < 65536) (hk : okPivots ks none = true) : headR (headW ss ks ++ t) = some (ss, ks) := by
  have hk2 := okPivots_sz ks none hk
  have hl := headW_len ss ks h h4 hk2
  unfold headR
  have h1 := takeR_append (headW ss ks) t
  rw [hl] at h1
  rw [h1]
  simp only [Option.bind_some]
  have e : headW ss ks = [83, 50, 76] ++ (UInt8.ofNat (ss.length % 256) :: (heads ss ks ++ (List.replicate (60 - (heads ss ks).length) 0 ++ low (crc ([83, 50, 76] ++ low ss.length 1 ++ heads ss ks ++ List.replicate (60 - (heads ss ks).length) 0)) 4))) := by
    unfold headW sealed; simp [low]
  have h2 : takeR 3 (headW ss ks) = some ([83, 50, 76], UInt8.ofNat (ss.length % 256) :: (heads ss ks ++ (List.replicate (60 - (heads ss ks).length) 0 ++ low (crc ([83, 50, 76] ++ low ss.length 1 ++ heads ss ks ++ List.replicate (60 - (heads ss ks).length) 0)) 4))) := by
    have := takeR_append [83, 50, 76] (UInt8.ofNat (ss.length % 256) :: (heads ss ks ++ (List.replicate (60 - (heads ss ks).length) 0 ++ low (crc ([83, 50, 76] ++ low ss.length 1 ++ heads ss ks ++ List.replicate (60 - (heads ss ks).length) 0)) 4)))
    rw [← e] at this
    exact this
  have hb : (UInt8.ofNat (ss.length % 256)).toNat = ss.length := by rw [UInt8.toNat_ofNat']; omega
  rw [h2]
  simp only [Option.bind_some, byteR, hb]
  rw [if_neg (by omega), entsR_heads ss ks _ h hs hk2]
  simp [hk]
/-- What is read there is written so. -/
theorem headR_is {page : List UInt8} {r : List Nat × List (List UInt8)} (h : headR page = some r) : 68 ≤ page.length ∧ headW r.1 r.2 = page.take 68 ∧ okPivots r.2 none = true ∧ r.1.length = r.2.length ∧ r.1.length ≤ 4 := by
  unfold headR at h
  cases h1 : takeR 68 page with
  | none => rw [h1] at h; simp at h
  | some f =>
    rw [h1] at h; simp only [Option.bind_some] at h
    cases h2 : takeR 3 f.1 with
    | none => rw [h2] at h; simp at h
    | some a =>
      rw [h2] at h; simp only [Option.bind_some] at h
      cases h3 : byteR a.2 with
      | none => rw [h3] at h; simp at h
      | some c =>
        rw [h3] at h; simp only [Option.bind_some] at h
        split at h
        · simp at h
        · cases h4 : entsR c.1.toNat c.2 with
          | none => rw [h4] at h; simp at h
          | some x =>
            rw [h4] at h; simp only [Option.bind_some] at h
            split at h
            · split at h
              · rename_i hc _ hw
                simp only [Option.some.injEq] at h
                subst h
                obtain ⟨e1, e2, e3⟩ := ents_len _ _ _ h4
                obtain ⟨e4, e5⟩ := takeR_len h1
                refine ⟨by rw [e5, List.length_append]; omega, ?_, by assumption, by omega, by omega⟩
                rw [hw, e5, ← e4, List.take_left]
              · simp at h
            · simp at h
end Go.Proofs.YtolgpnaoaodepaaGreat.Pr
/- A leafHead as it lies in memory; the walk of its write. -/
namespace Go.Proofs.YtolgpnaoaodepaaGreat
open Go.RowKit
def ncells (l : List Nat) : List Value := l.map fun (c : Nat) => .int .i64 (c : Int)
/-- One of two rows is appended to: the other one stays, and they stay apart. -/
theorem rows_apart {B : Nat} {w w' : World} {u v v' : Value} {Tu Tv : TypeId} {su sv nu nv : Nat} {xu xv : List Value} (hu : w.ownsRow B Tu su u nu xu) (hv : w.ownsRow B Tv sv v nv xv) (hB : B ≤ w.heap.size) (hap : Apart u v) (hg : w.grownBy w' v.ownBlock) (hat : v'.ownBlock = v.ownBlock ∨ ∃ k, w.heap.size ≤ k ∧ v'.ownBlock = some k) : w'.ownsRow B Tu su u nu xu ∧ Apart u v' ∧ Below B w w' := by
  refine ⟨World.ownsRow.kept hu hg ?_, ?_, (Below.refl B w).grown hg hB fun k hk => (World.ownsRow.lt hv k hk).1⟩
  · cases h : u.ownBlock with
    | none => exact .inl rfl
    | some k => exact .inr (fun e => hap k h e.symm)
  · intro k hk e
    have hlt := (World.ownsRow.lt hu k hk).2
    rcases hat with h | ⟨j, hj, h⟩
    · rw [h] at e; exact hap k hk e
    · rw [h] at e; have : j = k := by simpa using e
      omega
theorem row_below {B C : Nat} {w w' : World} {v : Value} {T : TypeId} {s n : Nat} {xs : List Value} (h : w.ownsRow B T s v n xs) (hb : Below C w w') (hC : w.heap.size ≤ C) : w'.ownsRow B T s v n xs := by
  refine ⟨h.1, ?_⟩
  rcases h.2 with hn | ⟨g, cap, cur, rfl, hb', hg, r⟩
  · exact .inl hn
  · exact .inr ⟨g, cap, cur, rfl, hb', by rw [hb.block g (Nat.lt_of_lt_of_le (Array.getElem?_eq_some_iff.1 hg).1 hC)]; exact hg, r⟩
/-- A leafHead in block b, and its rows, which a call owns. -/
structure LHd (B b : Nat) (w wr : World) (ss : List Nat) (fs : List ByteArray) (vs vf : Value) : Prop where
  var : wr.heap[b]? = some (.cells #[vs, vf] 233 (0, 0))
  szs : wr.ownsRow (b + 1) 3 1 vs ss.length (ncells ss)
  fst : OwnsS (b + 1) wr vf fs
  apart : Apart vs vf
  bel : Below B w wr
  le : B ≤ b
  lt : b + 1 ≤ wr.heap.size
theorem LHd.cells {B b : Nat} {w wr : World} {ss : List Nat} {fs : List ByteArray} {vs vf : Value} (h : LHd B b w wr ss fs vs vf) : wr.cell? ⟨b, 0, none⟩ = some vs ∧ wr.cell? ⟨b, 1, none⟩ = some vf ∧ wr.frozen? ⟨b, 0, none⟩ = false ∧ wr.frozen? ⟨b, 1, none⟩ = false := by
  have h1 := h.var
  refine ⟨?_, ?_, ?_, ?_⟩ <;> simp [World.cell?, World.frozen?, h1]
theorem LHd.mid {B b : Nat} {w wr wx : World} {ss : List Nat} {fs : List ByteArray} {vs vf : Value} (h : LHd B b w wr ss fs vs vf) (hb : Below (b + 1) wr wx) : wx.cell? ⟨b, 0, none⟩ = some vs ∧ wx.cell? ⟨b, 1, none⟩ = some vf ∧ wx.frozen? ⟨b, 0, none⟩ = false ∧ wx.frozen? ⟨b, 1, none⟩ = false := by
  have h1 := (hb.block b (by omega)).trans h.var
  refine ⟨?_, ?_, ?_, ?_⟩ <;> simp [World.cell?, World.frozen?, h1]
theorem LHd.below {B b : Nat} {w wr wx : World} {ss : List Nat} {fs : List ByteArray} {vs vf : Value} (h : LHd B b w wr ss fs vs vf) (hb : Below wr.heap.size wr wx) : LHd B b w wx ss fs vs vf := by
  have h1 := h.lt; have h2 := h.le; have h3 := hb.size
  exact ⟨(hb.block _ (by omega)).trans h.var, row_below h.szs hb (Nat.le_refl _), row_below h.fst hb (Nat.le_refl _), h.apart, h.bel.trans (hb.mono (by omega)), h2, by omega⟩
theorem LHd.drewN {B b : Nat} {w wr : World} {ss : List Nat} {fs : List ByteArray} {vs vf : Value} (h : LHd B b w wr ss fs vs vf) (q : Nat) : LHd B b w (wr.drewN q) ss fs vs vf := ⟨h.var, h.szs, h.fst, h.apart, below_drewN h.bel q, h.le, h.lt⟩
theorem lhd_start (B : Nat) (w wr : World) (hb : Below B w wr) (hB : B ≤ wr.heap.size) : LHd B wr.heap.size w (wr.alloc (.cells #[.slice none 0 0, .slice none 0 0] 233)) [] [] (.slice none 0 0) (.slice none 0 0) :=
  ⟨heap_alloc_new _ _, World.ownsRow_nil _ _ _ _, World.ownsRow_nil _ _ _ _, apart_nil _, hb.alloc hB _, hB, by simp⟩
theorem LHd.apN {B b : Nat} {w wr w' : World} {ss : List Nat} {fs : List ByteArray} {vs vf v' : Value} {n : Nat} (h : LHd B b w wr ss fs vs vf) (ho : w'.ownsRow (b + 1) 3 1 v' (ss.length + 1) (ncells ss ++ [.int .i64 (n : Int)])) (hg : wr.grownBy w' vs.ownBlock) (hat : v'.ownBlock = vs.ownBlock ∨ ∃ k, wr.heap.size ≤ k ∧ v'.ownBlock = some k) :
    Below (b + 1) wr w' ∧ LHd B b w (w'.setCell ⟨b, 0, none⟩ v') (ss ++ [n]) fs v' vf := by
  obtain ⟨o2, ap2, bel2⟩ := rows_apart h.fst h.szs h.lt h.apart.symm hg hat
  have hle := h.le; have hlt := h.lt; have hsz := bel2.size
  refine ⟨bel2, ?_, ?_, ownsRow_setCell_below o2 (by simp) _, ap2.symm, (h.bel.trans (bel2.mono (by omega))).setCell (p := ⟨b, 0, none⟩) hle _, hle, ?_⟩
  · rw [heap_setCell_at (i := 0) ((bel2.block b (by omega)).trans h.var) v']; rfl
  · have e : ncells (ss ++ [n]) = ncells ss ++ [.int .i64 (n : Int)] := by simp [ncells]
    rw [e, List.length_append]
    exact ownsRow_setCell_below ho (by simp) _
  · simp [World.setCell]; omega
theorem LHd.apF {B b : Nat} {w wr w' : World} {ss : List Nat} {fs : List ByteArray} {vs vf v' : Value} {s : ByteArray} (h : LHd B b w wr ss fs vs vf) (ho : OwnsS (b + 1) w' v' (fs ++ [s])) (hg : wr.grownBy w' vf.ownBlock) (hat : v'.ownBlock = vf.ownBlock ∨ ∃ k, wr.heap.size ≤ k ∧ v'.ownBlock = some k) :
    Below (b + 1) wr w' ∧ LHd B b w (w'.setCell ⟨b, 1, none⟩ v') ss (fs ++ [s]) vs v' := by
  obtain ⟨o2, ap2, bel2⟩ := rows_apart h.szs h.fst h.lt h.apart hg hat
  have hle := h.le; have hlt := h.lt; have hsz := bel2.size
  refine ⟨bel2, ?_, ownsRow_setCell_below o2 (by simp) _, ho.setBelow (by omega) _, ap2, (h.bel.trans (bel2.mono (by omega))).setCell (p := ⟨b, 1, none⟩) hle _, hle, ?_⟩
  · rw [heap_setCell_at (i := 1) ((bel2.block b (by omega)).trans h.var) v']; rfl
  · simp [World.setCell]; omega

/-- append([]byte("xyz"), b): the constant's row is full, so that a new one is made. -/
theorem wpApL (w : World) {ops : Array Oper} {rest : List Oper} {o : Oper} {a : Act} {Q : Exit → Act → World → Prop} (hgd : o.guard = none) (sl x : Operand)
    (ho : o.op = Op.call { callee := Callee.builtin Builtin.append, args := #[sl, x], argTypes := #[108, 108] }) (p q r : UInt8) (P Q' R n : Int) (hP : P = (p.toNat : Int)) (hQ : Q' = (q.toNat : Int)) (hR : R = (r.toNat : Int)) (b : UInt8) (hn : n = (b.toNat : Int)) (k1 k2 : Nat) (hk1 : k1 = w.heap.size) (hk2 : k2 = w.heap.size + 1) (hs : a.eval sl = .slice (some ⟨k1, 0, none⟩) 3 3) (hx : a.eval x = .slice (some ⟨k2, 0, none⟩) 1 1) (B : Nat) (hB : B ≤ w.heap.size)
    (h : ∀ (v' : Value) (w' : World), Owns B w' v' [p, q, r, b] → Below w.heap.size w w' → (∃ k, w.heap.size < k ∧ v'.ownBlock = some k) → w.heap.size < w'.heap.size → wpList Tryz.prog ops Q rest (a.put o.dst v') w') : wpList Tryz.prog ops Q (o :: rest) a ((w.alloc (.cells #[.int .u8 P, .int .u8 Q', .int .u8 R] 5 (3, 4))).alloc (.cells #[.int .u8 n] 5)) := by
  subst hk1 hk2 hP hQ hR hn
  obtain ⟨i, hi, hz0, hz1, hz2⟩ := info_parts info_u8
  have c0 : ∀ j u, (Lib.byteCells [p, q, r])[j]? = some u → ((w.alloc (.cells #[.int .u8 (p.toNat : Int), .int .u8 (q.toNat : Int), .int .u8 (r.toNat : Int)] 5 (3, 4))).alloc (.cells #[.int .u8 (b.toNat : Int)] 5)).cell? ((⟨w.heap.size, 0, none⟩ : Addr).add j) = some u := by
    intro j u hj
    rw [add_at, World.cell?_alloc_past _ _ _ (by simp)]
    unfold World.cell?
    rw [heap_alloc_new]
    simpa [Lib.byteCells] using hj
  have c1 : ∀ j u, (Lib.byteCells [b])[j]? = some u → ((w.alloc (.cells #[.int .u8 (p.toNat : Int), .int .u8 (q.toNat : Int), .int .u8 (r.toNat : Int)] 5 (3, 4))).alloc (.cells #[.int .u8 (b.toNat : Int)] 5)).cell? ((⟨w.heap.size + 1, 0, none⟩ : Addr).add j) = some u := by
    have := laid_cells (w.alloc (.cells #[.int .u8 (p.toNat : Int), .int .u8 (q.toNat : Int), .int .u8 (r.toNat : Int)] 5 (3, 4))) 5 [b] #[.int .u8 (b.toNat : Int)] (by simp [Lib.byteCells])
    rw [show (w.alloc (.cells #[.int .u8 (p.toNat : Int), .int .u8 (q.toNat : Int), .int .u8 (r.toNat : Int)] 5 (3, 4))).heap.size = w.heap.size + 1 by simp] at this
    exact this
  generalize hW : (w.alloc (.cells #[.int .u8 (p.toNat : Int), .int .u8 (q.toNat : Int), .int .u8 (r.toNat : Int)] 5 (3, 4))).alloc (.cells #[.int .u8 (b.toNat : Int)] 5) = W at *
  have hWs : W.heap.size = w.heap.size + 2 := by rw [← hW]; simp
  have hWb : Below w.heap.size w W := by rw [← hW]; exact ((Below.refl _ w).alloc (Nat.le_refl _) _).alloc (by simp) _
  have hr := run_append_grow (P := Tryz.prog) W 108 o.type 5 i (.int .u8 0) Tryz.underlying108 hi hz0 ⟨w.heap.size, 0, none⟩ 3 3 (Lib.byteCells [p, q, r]) (by rw [hz1]; rfl) c0 ⟨w.heap.size + 1, 0, none⟩ 1 1 (Lib.byteCells [b]) (by rw [hz1]; rfl) c1 (by omega) (by omega) (growslice_fits (by omega) (by rw [hz2]; omega))
  refine Lib.wpList_append_run W hgd sl x 108 108 ho _ _ hs hx _ _ hr (h _ _ ?_ ?_ ⟨W.heap.size, by omega, rfl⟩ (by simp; omega))
  · unfold Owns
    have hge := grownCap_ge W (3 + 1) 3 5
    refine ⟨rfl, .inr ⟨W.heap.size, _, _, rfl, by omega, heap_alloc_new W.drew _, hge, grownCap_le_maxLen W (3 + 1) 3 _ (by unfold maxLen; omega), ?_, ?_⟩⟩
    · simp only [Array.size_append, List.size_toArray, size_zeroCells, Lib.byteCells_length]
      show 3 + 1 + _ * 1 = _
      omega
    · simp only [Array.toList_append]
      rw [show Lib.byteCells [p, q, r, b] = Lib.byteCells [p, q, r] ++ Lib.byteCells [b] from rfl]
      exact List.take_left' rfl
  · exact hWb.trans ((((Below.refl W.heap.size W).drew).alloc (by simp) _).mono (by omega))
/-- A leafHead value whose rows lie there. -/
def IsLH (w : World) (v : Value) (ss : List Nat) (fs : List ByteArray) : Prop := ∃ vs vf, v = .agg #[vs, vf] ∧ IsRow w vs ss.length (ncells ss) ∧ IsRow w vf fs.length (strs fs)
theorem LHd.isLH {B b : Nat} {w wr : World} {ss : List Nat} {fs : List ByteArray} {vs vf : Value} (h : LHd B b w wr ss fs vs vf) (h1 : ss.length ≤ 1000) (h2 : fs.length ≤ 1000) : IsLH wr (.agg #[vs, vf]) ss fs :=
  ⟨vs, vf, rfl, ownsRow.isRow h.szs (by omega), ownsRow.isRow h.fst (by omega)⟩

set_option maxHeartbeats 2000000 in
set_option maxRecDepth 20000 in
theorem headWrite_any (v : Value) (ss : List Nat) (fs : List ByteArray) (w : World) (hv : IsLH w v ss fs) (hn : ss.length = fs.length) (h4 : fs.length ≤ 4) (hf : ∀ f ∈ fs, f.size ≤ 12) :
    Calls Tryz.prog 180 #[v] w fun r w' => r = .returned (.string ⟨(Pg.headW ss (lists fs)).toArray⟩) ∧ Below w.heap.size w w' := by
  obtain ⟨vs, vf, rfl, ⟨sa, ca, rfl, -, hs⟩, ⟨fa, cf, rfl, -, hf1⟩⟩ := hv
  have HS := hid hs
  have HF := hid hf1
  have HFL := hid hf
  have HN := hid hn
  have hs4 : ss.length ≤ 4 := by omega
  have hf0 : fs.length ≤ ss.length := by omega
  have hf2 : ss.length ≤ fs.length := by omega
  clear hs hf1 hf hn
  obtain ⟨bt, hbt, hbl⟩ := low1 ss.length
  have HBT := hid hbt
  have HBL := hid hbl
  clear hbt hbl
  go_enter Tryz.func180, Tryz.ntmps180
  have hcv := Joins.run_convert_bytes_const_at (P := Tryz.prog) (w.alloc (.cells #[.slice sa ss.length ca, .slice fa fs.length cf] 233)) 108 5 #[.int .u8 83, .int .u8 50, .int .u8 76] 3 3 (w.heap.size + 1) (by simp) Tryz.underlying108 Tryz.underlying5
  have hcm : ∀ j, ((w.alloc (.cells #[.slice sa ss.length ca, .slice fa fs.length cf] 233)).alloc (.cells #[.int .u8 83, .int .u8 50, .int .u8 76] 5 (3, 4))).cell? ⟨w.heap.size, j, none⟩ = (#[Value.slice sa ss.length ca, .slice fa fs.length cf] : Array Value)[j]? := by
    intro j
    rw [World.cell?_alloc_past _ _ _ (by simp)]
    unfold World.cell?
    rw [heap_alloc_new]
    simp
  go_wp2_with (first
    | (at_builtin; refine wpApL (w.alloc (.cells #[.slice sa ss.length ca, .slice fa fs.length cf] 233)) rfl (.tmp 7) (.tmp 12) rfl 83 50 76 _ _ _ _ rfl rfl rfl bt ?_ (w.heap.size + 1) (w.heap.size + 2) (by simp) (by simp) rfl rfl w.heap.size (by simp) ?_))
  · rw [HBT.out]; omega
  intro v1 w1 ho1 hb1 k1 hk1 e1 hs1
  have c0 := (hb1.cell (p := ⟨w.heap.size, 0, none⟩) (by simp)).trans (show _ = some (.slice sa ss.length ca) by simp)
  have c1 := (hb1.cell (p := ⟨w.heap.size, 1, none⟩) (by simp)).trans (show _ = some (.slice fa fs.length cf) by simp)
  have hne : v1.ownBlock ≠ some w.heap.size := by
    rw [e1]; simp; omega
  have HO1 := hid ho1
  have HB1 := hid (((Below.refl w.heap.size w).alloc (Nat.le_refl _) (.cells #[.slice sa ss.length ca, .slice fa fs.length cf] 233)).trans (hb1.mono (by simp)))
  have hs1' : w.heap.size < w1.heap.size := by omega
  clear ho1 hb1 e1 hk1 hs1 hcv hcm
  have HNE := hid hne
  clear hne
  have HC0 := hid c0
  go_wp2_with fail
  clear c0 c1
  go_loopw [3, 17] (fun u i wr => ∃ (k : Nat) (o : List UInt8), k ≤ fs.length ∧ i = .int .i64 k ∧ Owns w.heap.size wr u o ∧ Below w.heap.size w wr ∧ wr.cell? ⟨w.heap.size, 0, none⟩ = some (.slice sa ss.length ca) ∧ u.ownBlock ≠ some w.heap.size ∧ w.heap.size < wr.heap.size ∧ o ++ Pg.heads (ss.drop k) (lists (fs.drop k)) = [83, 50, 76] ++ [bt] ++ Pg.heads ss (lists fs) ∧ o.length ≤ 4 + 15 * k ∧ 4 ≤ o.length) (fun _ i _ => fs.length - (intOf i).toNat)
  case atStart => exact ⟨0, _, Nat.zero_le _, rfl, HO1.out, HB1.out, HC0.out, HNE.out, hs1', by simp, by simp, by simp⟩
  case round =>
    clear HO1 HB1 HC0 HNE hs1'
    obtain ⟨k, o, hk, rfl, ho, hb, hc0, hne, hsr, heq, hol, hop⟩ := hrel
    have HO := hid ho
    have HB := hid hb
    have HNE := hid hne
    have HEQ := hid heq
    clear ho hb hne heq
    by_cases hkl : k < fs.length
    · obtain ⟨bs, ofs, hsa, hbs, hcs⟩ := HS.out.resolve_left (by omega)
      obtain ⟨bf, off, hfa, hbf, hcf⟩ := HF.out.resolve_left (by omega)
      subst hsa hfa
      have d0 := rowAtN (pl := ss) hcs HB.out hbs k (by omega)
      have d1 := rowAt (pl := fs) hcf HB.out hbf k hkl
      have hfl := HFL.out _ (List.getElem_mem hkl)
      have HNX : Hid (Pg.heads (ss.drop k) (lists (fs.drop k)) = Pg.ent1 (ss[k]'(by omega)) (fs[k]'hkl).data.toList ++ Pg.heads (ss.drop (k + 1)) (lists (fs.drop (k + 1)))) := by
        show _ = _; rw [List.drop_eq_getElem_cons hkl, List.drop_eq_getElem_cons (show k < ss.length by omega)]; rfl
      clear hcs hcf
      generalize fs[k]'hkl = f at *
      generalize ss[k]'(by omega) = s at *
      obtain ⟨bk, hbk, hbkl⟩ := low1 f.size
      have HBK := hid hbk
      have HE1 : Hid (Pg.ent1 s f.data.toList = Pg.low s 2 ++ [bk] ++ f.data.toList ++ List.replicate (12 - f.size) 0) := by
        show _ = _; unfold Pg.ent1; rw [len_size, hbkl]
      clear hbk hbkl
      go_wp2_with fail
      refine (apShort_any w.heap.size u3 o s _ HO.out (by omega) (by omega)).mono ?_
      rintro r w2 ⟨v2, rfl, ho2, hg2⟩
      have HO2 := hid ho2
      have HB2 := hid (HB.out.trans (hg2.below HO.out (by omega)))
      have hs2 := hg2.size
      have e0 := hg2.cell hc0 HNE.out
      have HN2 := hid (hg2.ne (by omega) HNE.out)
      have hl2 := Pg.low_len 2 s
      clear ho2 hg2 hc0
      go_wp2_with (first
        | (at_builtin; refine wpAp1 w2 rfl (.tmp 28) (.tmp 32) rfl w.heap.size v2 _ rfl HO2.out bk _ ?_ rfl ?_ ?_ ?_))
      · rw [HBK.out]; omega
      · simp; omega
      · omega
      intro v3 w3 ho3 hg3 hat3
      have hgr := grew_alloc hg3 hat3
      have HO3 := hid ho3
      have HB3 := hid (HB2.out.trans (hgr.below HO2.out (by omega)))
      have hs3 := hgr.size
      have f0 := hgr.cell e0 HN2.out
      have HN3 := hid (hgr.ne (by omega) HN2.out)
      clear ho3 hg3 hat3 hgr e0
      go_wp2_with (first
        | (at_builtin; refine wpApSg w3 rfl (.tmp 34) (.tmp 35) rfl w.heap.size v3 _ rfl HO3.out f rfl ?_ ?_ ?_))
      · simp; omega
      · omega
      intro v4 w4 ho4 hg4
      have HO4 := hid ho4
      have HB4 := hid (HB3.out.trans (hg4.below HO3.out (by omega)))
      have hs4' := hg4.size
      have g0 := hg4.cell f0 HN3.out
      have HN4 := hid (hg4.ne (by omega) HN3.out)
      clear ho4 hg4 f0
      obtain ⟨z, hz⟩ : ∃ z, z = 12 - f.size := ⟨_, rfl⟩
      have hz2 : (12 : Int) - (f.size : Int) = (z : Int) := by omega
      have hz3 : z + f.size ≤ 12 := by omega
      have HZ := hid hz
      clear hz
      go_wp2_with (first
        | (at_builtin; refine wpApZ w4 rfl (.tmp 37) (.tmp 40) rfl w.heap.size v4 _ rfl HO4.out ?_ z rfl ?_ ?_ ?_ ?_))
      · simp; omega
      · omega
      · simp; omega
      · omega
      intro v5 w5 ho5 hg5
      have HO5 := hid ho5
      have HB5 := hid (HB4.out.trans (hg5.below HO4.out (by omega)))
      have hs5 := hg5.size
      have k0 := hg5.cell g0 HN4.out
      have HN5 := hid (hg5.ne (by omega) HN4.out)
      clear ho5 hg5 g0
      go_wp2_with fail
      go_roundw
      case rel =>
        refine ⟨k + 1, _, by omega, by go_num, HO5.out, HB5.out, k0, HN5.out, by omega, ?_, ?_, ?_⟩
        · rw [← HEQ.out, HNX.out, HE1.out, ← HZ.out]; simp
        · simp; omega
        · simp; omega
      case measure => simp [intOf]; omega
    · have HFI : Hid (o = [83, 50, 76] ++ [bt] ++ Pg.heads ss (lists fs)) := by
        show _ = _; rw [← HEQ.out, List.drop_eq_nil_of_le (show ss.length ≤ k by omega)]; simp [Pg.heads]
      go_wp2_with fail
      refine (sealHead_any w.heap.size u3 o _ HO.out (by omega) (by omega) (by omega)).mono ?_
      rintro r w2 ⟨v2, rfl, ho2, hg2⟩
      have HB2 := hid (HB.out.trans (hg2.below HO.out (by omega)))
      have HR : Hid (Pg.sealed (o ++ List.replicate (64 - o.length) 0) = Pg.headW ss (lists fs)) := by
        show _ = _; unfold Pg.headW; rw [HFI.out, HBL.out]
        congr 2
        simp
      rw [HR.out] at ho2
      have hcv := ho2.str
      clear ho2 hg2
      go_wp2_with fail
      go_ret
      exact ⟨rfl, HB2.out⟩
end Go.Proofs.YtolgpnaoaodepaaGreat
/- The walk of pages' writeLeaf. -/
namespace Go.Proofs.YtolgpnaoaodepaaGreat
open Go.RowKit
namespace Pg
theorem heads_snoc : ∀ (ss : List Nat) (ks : List (List UInt8)) (s : Nat) (k : List UInt8), ss.length = ks.length → heads (ss ++ [s]) (ks ++ [k]) = heads ss ks ++ ent1 s k
  | [], [], s, k, _ => by simp [heads]
  | a :: ss, b :: ks, s, k, h => by
    rw [List.cons_append, List.cons_append, heads, heads_snoc ss ks s k (by simpa using h), heads, List.append_assoc]
  | [], b :: ks, _, _, h => by simp at h
  | a :: ss, [], _, _, h => by simp at h
theorem many_step {n : Nat} (h : 0 < n) : many n = many (n - 4) + 1 := by unfold many; omega
theorem entry_is (k v : List UInt8) (r : List (List UInt8 × List UInt8)) : entry ((k, v) :: r) = ent1 (base ((k, v) :: r)).length k := rfl
end Pg

theorem leaf_step (r : List (ByteArray × ByteArray)) (kb : ByteArray) (vb : List UInt8) (q : List (List UInt8 × List UInt8)) (h : plain r = (kb.data.toList, vb) :: q) (n : Nat) (hn : n = min r.length 4) (sec : List UInt8) (hs : Pg.base (plain r) = sec) :
    Pg.entries (Pg.many r.length) (plain r) = Pg.ent1 sec.length kb.data.toList ++ Pg.entries (Pg.many (r.drop n).length) (plain (r.drop n)) ∧ Pg.bases (Pg.many r.length) (plain r) = sec ++ Pg.bases (Pg.many (r.drop n).length) (plain (r.drop n)) ∧ Pg.many r.length = Pg.many (r.drop n).length + 1 := by
  have hpl : (plain r).length = r.length := by simp [plain]
  have hr : 0 < r.length := by rw [← hpl, h]; simp
  have hne : plain r ≠ [] := by rw [h]; simp
  have hd : r.drop n = r.drop 4 := by
    by_cases h4 : r.length ≤ 4
    · rw [List.drop_eq_nil_of_le (show r.length ≤ n by omega), List.drop_eq_nil_of_le h4]
    · rw [show n = 4 by omega]
  have hm : Pg.many r.length = Pg.many (r.drop n).length + 1 := by rw [hd, List.length_drop]; exact Pg.many_step hr
  have he : Pg.entry (plain r) = Pg.ent1 sec.length kb.data.toList := by rw [← hs, h, Pg.entry_is]
  rw [hm, entries_next _ _ hne, bases_next _ _ hne, ← plain_drop, ← hd, he, hs]
  exact ⟨rfl, rfl, rfl⟩
theorem items_drop {w : World} {b off cap : Nat} {r : List (ByteArray × ByteArray)} (hia : ItemsAt w b off r) (hb : b < w.heap.size) (hc1 : r.length ≤ cap) (hc2 : cap ≤ 9223372036854775807) (n : Nat) : IsItems w (.slice (some ⟨b, off + n * 2, none⟩) (r.length - n) (cap - n)) (r.drop n) := by
  refine .inr ⟨b, off + n * 2, cap - n, by rw [List.length_drop], by rw [List.length_drop]; omega, by omega, hb, ?_⟩
  have := hia.part n r.length
  rw [List.take_of_length_le (by rw [List.length_drop]; omega)] at this
  exact this
theorem items_drop2 {w : World} {b off cap : Nat} {r : List (ByteArray × ByteArray)} (hia : ItemsAt w b off r) (hb : b < w.heap.size) (hc1 : r.length ≤ cap) (hc2 : cap ≤ 9223372036854775807) (n : Nat) : IsItems w (.slice (if cap = n then some ⟨b, off, none⟩ else some ⟨b, off + n * 2, none⟩) (r.length - n) (cap - n)) (r.drop n) := by
  by_cases h : cap = n
  · rw [if_pos h, show r.length - n = 0 by omega]
    exact .inl ⟨_, _, rfl, List.drop_eq_nil_of_le (by omega)⟩
  · rw [if_neg h]; exact items_drop hia hb hc1 hc2 n
theorem lists_snoc2 (fs : List ByteArray) (f : ByteArray) : lists (fs ++ [f]) = lists fs ++ [f.data.toList] := by simp [lists]

set_option maxHeartbeats 4000000 in
set_option maxRecDepth 20000 in
theorem writeLeaf_any (v : Value) (l : List (ByteArray × ByteArray)) (w : World) (hv : IsItems w v l) (hl : l.length ≤ 16) (hsz : ∀ x ∈ l, x.1.size ≤ 12 ∧ x.2.size ≤ 16) :
    Calls Tryz.prog 129 #[v] w fun r w' => r = .returned (.string ⟨(Pg.leaf (plain l)).toArray⟩) ∧ Below w.heap.size w w' := by
  have HV := hid hv
  have HSZ := hid hsz
  clear hv hsz
  have HST := hid (lhd_start w.heap.size w w (Below.refl _ w) (Nat.le_refl _))
  go_enter Tryz.func129, Tryz.ntmps129
  go_wp2_with fail
  go_loopw [0, 4] (fun x s wr => ∃ (r : List (ByteArray × ByteArray)) (body : ByteArray) (ss : List Nat) (fs : List ByteArray) (vs vf : Value), IsItems w x r ∧ s = .string body ∧ LHd w.heap.size w.heap.size w wr ss fs vs vf ∧ r.length ≤ 16 ∧ (∀ y ∈ r, y.1.size ≤ 12 ∧ y.2.size ≤ 16) ∧ ss.length = fs.length ∧ (∀ f ∈ fs, f.size ≤ 12) ∧ ss.length + Pg.many r.length = Pg.many l.length ∧ body.size ≤ ss.length * 1000 ∧ Pg.heads ss (lists fs) ++ Pg.entries (Pg.many r.length) (plain r) = Pg.entries (Pg.many l.length) (plain l) ∧ body.data.toList ++ Pg.bases (Pg.many r.length) (plain r) = Pg.bases (Pg.many l.length) (plain l)) (fun x _ _ => match x with | .slice _ n _ => n | _ => 0)
  case atStart => exact ⟨l, ⟨#[]⟩, [], [], _, _, HV.out, rfl, HST.out, hl, HSZ.out, rfl, by simp, by simp, by decide, by simp [Pg.heads], by simp⟩
  case round =>
    clear HST
    obtain ⟨r, body, ss, fs, vs, vf, hit, rfl, hlh, hr16, hrs, hsf, hfs, hmany, hbody, hheads, hbases⟩ := hrel
    have HLH := hid hlh
    have HRS := hid hrs
    have HSF := hid hsf
    have HFS := hid hfs
    have HMANY := hid hmany
    have HHE := hid hheads
    have HBA := hid hbases
    have HBEL := hid hlh.bel
    have hszr := hlh.lt
    have hml : Pg.many l.length ≤ 4 := by unfold Pg.many; omega
    have hss4 : ss.length ≤ 4 := by omega
    obtain ⟨d0, d1, z0, z1⟩ := hlh.cells
    obtain ⟨sa, sc, rfl⟩ := rowShape hlh.szs
    obtain ⟨fa, fc, rfl⟩ := hlh.fst.shape
    clear hlh hrs hsf hfs hmany hheads hbases
    obtain ⟨xa, xc, rfl⟩ := hit.shape
    by_cases hr0 : 0 < r.length
    · obtain ⟨b, off, cap, hve, hcap1, hcap2, hbw, hia⟩ := hit.resolve_left (by rintro ⟨_, _, _, rfl⟩; simp at hr0)
      injection hve with hve1 hve2 hve3
      subst hve1 hve3
      have HIA := hid hia
      obtain ⟨n, hn⟩ : ∃ n : Nat, n = min r.length 4 := ⟨_, rfl⟩
      have hn1 : min (r.length : Int) 4 = (n : Int) := by omega
      have hn2 : n ≤ r.length ∧ n ≤ 4 ∧ 0 < n := by omega
      have HN := hid hn
      have HBASE : Hid (Pg.section_ [98] (Pg.basement (plain (r.take n))) = Pg.base (plain r)) := by
        show _ = _; unfold Pg.base; rw [plain_take, hn]
        by_cases h4 : r.length ≤ 4
        · rw [List.take_of_length_le (show (plain r).length ≤ min r.length 4 by simp [plain]; omega), List.take_of_length_le (show (plain r).length ≤ 4 by simp [plain]; omega)]
        · rw [show min r.length 4 = 4 by omega]
      have hbl := Pg.basement_len (plain (r.take n)) (plain_sz (fun x hx => HRS.out x (List.mem_of_mem_take hx)))
      have hbl2 : (plain (r.take n)).length ≤ 4 := by simp [plain]; omega
      have HIT : Hid (IsItems wr (.slice (some ⟨b, off, none⟩) n xc) (r.take n)) := by
        refine .inr ⟨b, off, xc, by rw [List.length_take, Nat.min_eq_left hn2.1], by rw [List.length_take]; omega, hcap2, by omega, ?_⟩
        have := (hia.below HBEL.out hbw).part 0 n
        simpa using this
      have hc0 := (hia.below HBEL.out hbw) 0 hr0
      have HHD : Hid (∃ q, plain r = ((r[0]'hr0).1.data.toList, (r[0]'hr0).2.data.toList) :: q) := by
        cases r with
        | nil => simp at hr0
        | cons y ys => exact ⟨plain ys, rfl⟩
      have hfsz := (HRS.out _ (List.getElem_mem hr0)).1
      generalize r[0]'hr0 = y at *
      obtain ⟨kb, vb⟩ := y
      simp only [Nat.zero_mul, Nat.add_zero] at hc0 hfsz
      obtain ⟨hc0, -⟩ := hc0
      have HK0 : Hid (w.cell? ⟨b, off, none⟩ = some (.string kb)) := ((HBEL.out.cell (p := ⟨b, off, none⟩) hbw).symm.trans hc0)
      clear hn hia hit
      have hi1 : (0 : Int) ≤ (n : Int) := by omega
      have hi2 : (n : Int) ≤ (xc : Int) := by omega
      go_wp2_with fail
      refine (base_any _ (r.take n) _ HIT.out (by rw [List.length_take]; omega) (fun x hx => by have := HRS.out x (List.mem_of_mem_take hx); omega)).mono ?_
      rintro r2 w2 ⟨v2, rfl, ho2, hb2⟩
      have HO2 := hid ho2
      have HB2 := hid hb2
      have hs2 := hb2.size
      clear ho2 hb2
      go_wp2_with fail
      refine (writeSec_any wr.heap.size 98 v2 _ _ HO2.out (by omega)).mono ?_
      rintro r2 w3 ⟨rfl, hb3⟩
      have HB3 := hid (HB2.out.trans (hb3.mono hs2))
      have hsl := Pg.section_len [98] (Pg.basement (plain (r.take n))) (by omega)
      rw [HBASE.out] at hsl ⊢
      have HLH3 := hid (HLH.out.below HB3.out)
      have HIA3 := hid (HB3.out.cell (p := ⟨b, off, none⟩) (show b < _ by omega))
      have c3 := HIA3.out.trans hc0
      obtain ⟨d0', d1', z0', z1'⟩ := HLH3.out.cells
      have hs3 := HLH3.out.lt
      clear hb3 d0 d1 z0 z1 hc0 HIA3
      have hsl2 : (Pg.base (plain r)).length ≤ 300 := by simp at hsl; omega
      generalize hsec : Pg.base (plain r) = sec at *
      have HSEC := hid hsec
      clear hsec
      have hzs := size_mk sec
      go_wp2_with (first
        | (at_builtin; refine wpApG w3 rfl (.tmp 19) (.tmp 22) 25 3 Tryz.underlying25 _ 1 8 info_int rfl (by decide) (by decide) rfl (w.heap.size + 1) (.slice sa ss.length sc) ss.length (ncells ss) rfl HLH3.out.szs [.int .i64 (sec.length : Int)] rfl (by intro u hu; simp at hu; subst hu; rfl) rfl (by omega) hs3 ?_))
      intro v4 w4 ho4 hg4 hat4
      obtain ⟨a4, c4, rfl⟩ := rowShape ho4
      have HA := hid (HLH3.out.apN ho4 hg4 hat4)
      obtain ⟨e0, e1, y0, y1⟩ := HLH3.out.mid HA.out.1
      clear ho4 hg4 hat4 d0' d1' z0' z1' c3
      generalize hl4 : ss.length + 1 = l4 at *
      have HL4 := hid hl4
      clear hl4
      go_wp2_with fail
      have HH4 := hid HA.out.2
      clear HA e0 e1 y0 y1 HLH3
      generalize w4.setCell ⟨w.heap.size, 0, none⟩ (.slice a4 l4 c4) = w5 at *
      obtain ⟨d0, d1, z0, z1⟩ := HH4.out.cells
      have k5 := (HH4.out.bel.cell (p := ⟨b, off, none⟩) hbw).trans HK0.out
      have HH5 := hid (HH4.out.below (((Below.refl _ w5).alloc (Nat.le_refl _) (.cells #[.string kb] 9)).drew))
      have HCE : Hid (((w5.alloc (.cells #[.string kb] 9)).drew).cell? ⟨w5.heap.size, 0, none⟩ = some (.string kb)) := cell_new w5 _ _
      obtain ⟨-, d1a, -, z1a⟩ := HH5.out.cells
      have hfl : fs.length ≤ 4 := by rw [← HSF.out]; omega
      have hi0 : (0 : Int) < (r.length : Int) := by omega
      go_region_law (refine stepApT _ (by rfl) (.tmp 26) (.tmp 31) (by rfl) (w.heap.size + 1) (.slice fa fs.length fc) fs (by simp [Act.eval]) HH5.out.fst kb w5.heap.size (by simp [Act.eval]) HCE.out (by omega) HH5.out.lt ?_; intro v6 w6 ho6 hg6 hat6; obtain ⟨a6, c6, rfl⟩ := ho6.shape; generalize hl6 : (fs ++ [kb]).length = l6 at *; clear hl6; have HB := hid (HH5.out.apF ho6 hg6 hat6); obtain ⟨d0', d1', z0', z1'⟩ := HH5.out.mid HB.out.1; clear ho6 hg6 hat6)
      all_goals
        have hi3 : (0 : Int) ≤ (n : Int) := by omega
        have hi4 : (n : Int) ≤ (r.length : Int) := by omega
        have e1 : ∀ w, (Op.stringOp .add body ⟨sec.toArray⟩).run Tryz.prog w = .ok (.string (body ++ ⟨sec.toArray⟩)) w := fun w => run_string_add_sum w _ _ (by omega)
        go_wp2_with fail
        go_roundw
        case rel =>
          obtain ⟨q, hq⟩ := HHD.out
          obtain ⟨s1, s2, s3⟩ := leaf_step r kb _ q hq n HN.out sec HSEC.out
          refine ⟨r.drop n, _, ss ++ [sec.length], fs ++ [kb], _, _, items_drop2 HIA.out hbw hcap1 hcap2 n, rfl, HB.out.2, by rw [List.length_drop]; omega, fun z hz => HRS.out z (List.mem_of_mem_drop hz), by rw [List.length_append, List.length_append, HSF.out]; rfl, ?_, ?_, ?_, ?_, ?_⟩
          · intro f hf
            rcases List.mem_append.1 hf with h | h
            · exact HFS.out f h
            · rw [List.mem_singleton.1 h]; exact hfsz
          · have := HMANY.out
            rw [List.length_append, ← this, s3]; simp; omega
          · rw [ByteArray.size_append', hzs, List.length_append]; simp; omega
          · rw [lists_snoc2, Pg.heads_snoc _ _ _ _ (by rw [HSF.out]; simp [lists]), ← HHE.out, s1, List.append_assoc]
          · rw [← HBA.out, s2]; simp
        case measure => simp; omega
    · have hr1 : r = [] := List.length_eq_zero_iff.1 (by omega)
      subst hr1
      have HE1 : Hid (Pg.heads ss (lists fs) = Pg.entries (Pg.many l.length) (plain l)) := by
        show _ = _; rw [← HHE.out]; simp [Pg.many, Pg.entries]
      have HE2 : Hid (body.data.toList = Pg.bases (Pg.many l.length) (plain l)) := by
        show _ = _; rw [← HBA.out]; simp [Pg.many, Pg.bases]
      have HE3 : Hid (ss.length = Pg.many l.length) := by
        show _ = _; rw [← HMANY.out]; simp [Pg.many]
      have hfl : fs.length ≤ 4 := by rw [← HSF.out]; omega
      have HIL := hid (HLH.out.isLH (by omega) (by omega))
      go_wp2_with fail
      refine (headWrite_any _ ss fs _ HIL.out HSF.out hfl HFS.out).mono ?_
      rintro r2 w2 ⟨rfl, hb2⟩
      have HB2 := hid (HBEL.out.trans (hb2.mono (by omega)))
      have hhl : (Pg.headW ss (lists fs)).length ≤ 200 := by
        have hh := Pg.heads_len ss (lists fs) (by rw [HSF.out]; simp [lists]) (by intro k hk; simp only [lists, List.mem_map] at hk; obtain ⟨f, hf, rfl⟩ := hk; rw [len_size]; exact HFS.out f hf)
        unfold Pg.headW; rw [Pg.seal_len]; simp only [List.length_append, Pg.low_len, List.length_replicate, hh]; simp; omega
      have HLF : Hid (Pg.headW ss (lists fs) ++ body.data.toList = Pg.leaf (plain l)) := by
        show _ = _; unfold Pg.headW Pg.leaf
        rw [show (plain l).length = l.length by simp [plain], HE1.out, HE2.out, HE3.out]
      generalize Pg.headW ss (lists fs) = hw at *
      have hzz := size_mk hw
      have e1 : ∀ w, (Op.stringOp .add ⟨hw.toArray⟩ body).run Tryz.prog w = .ok (.string (⟨hw.toArray⟩ ++ body)) w := fun w => run_string_add_sum w _ _ (by omega)
      clear hb2
      go_wp2_with fail
      go_ret
      exact ⟨ret_str (by rw [← HLF.out]; simp), HB2.out⟩
end Go.Proofs.YtolgpnaoaodepaaGreat
