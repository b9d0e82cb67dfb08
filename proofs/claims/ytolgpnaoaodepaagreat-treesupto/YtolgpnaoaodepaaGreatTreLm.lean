/- slices.Clone of items. -/
import Derived.Test.YtolgpnaoaodepaaGreatSilAm
import Derived.Test.YtolgpnaoaodepaaGreatAidm
namespace Go.Proofs.YtolgpnaoaodepaaGreat
open Go.RowKit

/-- append(v, x...), x wherever it lies. -/
theorem wpApAt (w : World) {ops : Array Oper} {rest : List Oper} {o : Oper} {a : Act} {Q : Exit → Act → World → Prop} (hgd : o.guard = none) (sl x : Operand) (t e : TypeId) (ht : Tryz.prog.underlying t = some (.slice e))
    (z : Value) (size bytes : Nat) (hinfo : (Tryz.prog.info? e).map (fun i => (i.zero, i.size, i.bytes)) = some (some z, size, bytes)) (hzs : z.cells.size = size) (hsp : 0 < size) (hby : bytes ≤ 1000)
    (ho : o.op = Op.call { callee := Callee.builtin Builtin.append, args := #[sl, x], argTypes := #[t, t] }) (B : Nat) (v : Value) (n : Nat) (xs : List Value) (hs : a.eval sl = v) (hown : w.ownsRow B e size v n xs)
    (ad : Addr) (m c : Nat) (news : List Value) (hx : a.eval x = .slice (some ad) m c) (hl : news.length = m * size) (hnews : ∀ j u, news[j]? = some u → w.cell? (ad.add j) = some u) (h1 : ∀ u ∈ news, u.oneCell' = true) (hb : n + m ≤ 1000000000) (hB : B ≤ w.heap.size)
    (h : ∀ (v' : Value) (w' : World), w'.ownsRow B e size v' (n + m) (xs ++ news) → w.grownBy w' v.ownBlock → (v'.ownBlock = v.ownBlock ∨ v'.ownBlock = some w.heap.size) → wpList Tryz.prog ops Q rest (a.put o.dst v') w') : wpList Tryz.prog ops Q (o :: rest) a w := by
  obtain ⟨i, hi, hz0, hz1, hz2⟩ := info_parts hinfo
  exact wpList_append_own_at w hgd sl x t ho B e i z size bytes ht hi hz0 hz1 hz2 hzs hsp v n xs hs hown ad m c news hx hl hnews h1 (by unfold maxLen; omega) (by have : (n + m) * bytes ≤ 1000000000 * 1000 := Nat.mul_le_mul hb hby; omega) hB (fun v' w' q1 q2 _ q4 => h v' w' q1 q2 q4)
theorem info_part : (Tryz.prog.info? 132).map (fun i => (i.zero, i.size, i.bytes)) = some (some (.agg #[.string ⟨#[]⟩, .pointer none]), 2, 24) := by kernel_rfl
theorem one_pcells : ∀ (l : List (ByteArray × Nat)), ∀ v ∈ pcells l, v.oneCell' = true
  | [], v, h => by cases h
  | x :: r, v, h => by
    have h' : v ∈ [Value.string x.1, Value.pointer (some ⟨x.2, 0, none⟩)] ++ pcells r := h
    rcases List.mem_append.1 h' with h | h
    · simp at h; rcases h with rfl | rfl <;> rfl
    · exact one_pcells r v h
/-- A row that was made just now, of nothing. -/
theorem row_empty (w : World) (e : TypeId) (size : Nat) : (w.alloc (.cells #[] e)).ownsRow w.heap.size e size (.slice (some ⟨w.heap.size, 0, none⟩) 0 0) 0 [] :=
  ⟨by simp, .inr ⟨w.heap.size, 0, #[], rfl, Nat.le_refl _, heap_alloc_new _ _, Nat.le_refl _, Nat.zero_le _, by simp, by simp⟩⟩

set_option maxHeartbeats 400000 in
set_option maxRecDepth 20000 in
theorem cloneI_any (ad : Addr) (n c : Nat) (l : List (ByteArray × ByteArray)) (w : World) (hn : l.length = n) (hb : n ≤ 1000000) (hs : ∀ j u, (icells l)[j]? = some u → w.cell? (ad.add j) = some u) (hlt : ad.block < w.heap.size) :
    Calls Tryz.prog 230 #[.slice (some ad) n c] w fun r w' => ∃ v, r = .returned v ∧ OwnsI w.heap.size w' v l ∧ Below w.heap.size w w' := by
  subst hn
  have hnil : ∀ W, (binOp BinOp.eql 30 (.slice (some ad) l.length c) (.slice none 0 0)).run Tryz.prog W = .ok (.bool false) W := fun W => Lib.run_eql_slice_some_nil W _ _ _ Tryz.underlying30
  have HB1 := hid ((Below.refl w.heap.size w).alloc (Nat.le_refl _) (.cells #[] 51))
  have HR1 := hid (row_empty w 51 2)
  have HS1 : Hid (∀ j u, (icells l)[j]? = some u → (w.alloc (.cells #[] 51)).cell? (ad.add j) = some u) := fun j u hj => (HB1.out.cell (p := ad.add j) (by rw [show (ad.add j).block = ad.block by unfold Addr.add; split <;> rfl]; exact hlt)).trans (hs j u hj)
  have HZ : Hid (w.heap.size ≤ (w.alloc (.cells #[] 51)).heap.size) := HB1.out.size
  have HL : Hid ((icells l).length = l.length * 2) := icells_len2 l
  clear hs
  go_enter Tryz.func230, Tryz.ntmps230
  go_wp2_with (at_builtin; refine wpApAt _ rfl (.tmp 5) (.tmp 6) 30 51 Tryz.underlying30 _ 2 32 info_item rfl (by decide) (by decide) rfl w.heap.size (.slice (some ⟨w.heap.size, 0, none⟩) 0 0) 0 [] rfl HR1.out ad l.length c (icells l) rfl HL.out HS1.out (one_icells l) (by omega) HZ.out ?_; intro v1 w1 ho1 hg1 hb1)
  have HF : Hid (OwnsI w.heap.size w1 v1 l ∧ Below w.heap.size w w1) := by
    refine ⟨?_, HB1.out.grown hg1 HB1.out.size (fun k hk => by cases hk; exact Nat.le_refl _)⟩
    unfold OwnsI
    simpa using ho1
  clear ho1 hg1 hb1
  go_ret
  exact ⟨v1, rfl, HF.out⟩
end Go.Proofs.YtolgpnaoaodepaaGreat
/- What shares cuts a list into. -/
namespace Go.Proofs.YtolgpnaoaodepaaGreat.Tr

/-- So many shares, as even as can be, greater ones ahead. -/
def sh {α : Type} : Nat → List α → List (List α)
  | 0, _ => []
  | k + 1, l => l.take ((l.length + k) / (k + 1)) :: sh k (l.drop ((l.length + k) / (k + 1)))
theorem div_le (n k : Nat) : (n + k) / (k + 1) ≤ n := by
  rcases Nat.eq_zero_or_pos n with h | h
  · subst h; rw [Nat.zero_add, Nat.div_eq_of_lt (by omega)]; exact Nat.le_refl _
  · rw [Nat.div_le_iff_le_mul_add_pred (by omega)]
    have : n * 1 ≤ (k + 1) * n := by rw [Nat.mul_one, Nat.mul_comm]; exact Nat.le_mul_of_pos_right n (by omega)
    have h2 : (k + 1) * n = k * n + n := by rw [Nat.add_mul, Nat.one_mul]
    have h3 : k ≤ k * n := Nat.le_mul_of_pos_right k h
    omega
theorem sh_flat {α : Type} : ∀ (k : Nat) (l : List α), (k = 0 → l = []) → (sh k l).flatten = l
  | 0, l, h => by rw [h rfl]; rfl
  | k + 1, l, _ => by
    rw [sh, List.flatten_cons, sh_flat k, List.take_append_drop]
    intro hk
    subst hk
    rw [Nat.zero_add, Nat.add_zero, Nat.div_one, List.drop_length]
theorem sh_len {α : Type} : ∀ (k : Nat) (l : List α), (sh k l).length = k
  | 0, _ => rfl
  | k + 1, l => by rw [sh, List.length_cons, sh_len k]
theorem sh_most {α : Type} {most : Nat} : ∀ (k : Nat) (l : List α), l.length ≤ k * most → ∀ x ∈ sh k l, x.length ≤ most
  | 0, _, _, x, hx => by cases hx
  | k + 1, l, h, x, hx => by
    have hq : (l.length + k) / (k + 1) ≤ most := by
      rw [Nat.div_le_iff_le_mul_add_pred (by omega)]
      rw [Nat.mul_comm] at h
      have : (k + 1) * most = most * (k + 1) := Nat.mul_comm _ _
      omega
    have hq2 : l.length ≤ (l.length + k) / (k + 1) + k * most := by
      have h1 := Nat.div_add_mod (l.length + k) (k + 1)
      have h2 := Nat.mod_lt (l.length + k) (show 0 < k + 1 by omega)
      have h3 : (k + 1) * ((l.length + k) / (k + 1)) = k * ((l.length + k) / (k + 1)) + (l.length + k) / (k + 1) := by rw [Nat.add_mul, Nat.one_mul]
      have h4 : k * ((l.length + k) / (k + 1)) ≤ k * most := Nat.mul_le_mul_left k hq
      omega
    rw [sh] at hx
    rcases List.mem_cons.1 hx with rfl | hx
    · rw [List.length_take]; omega
    · exact sh_most k _ (by rw [List.length_drop]; omega) x hx
theorem sh_some {α : Type} : ∀ (k : Nat) (l : List α), k ≤ l.length → ∀ x ∈ sh k l, x ≠ []
  | 0, _, _, x, hx => by cases hx
  | k + 1, l, h, x, hx => by
    have hp : 1 ≤ (l.length + k) / (k + 1) := by rw [Nat.le_div_iff_mul_le (by omega)]; omega
    rw [sh] at hx
    rcases List.mem_cons.1 hx with rfl | hx
    · intro e
      have := congrArg List.length e
      rw [List.length_take, List.length_nil] at this
      omega
    · refine sh_some k _ ?_ x hx
      rw [List.length_drop]
      have h1 : (l.length + k) / (k + 1) * (k + 1) ≤ l.length + k := Nat.div_mul_le_self _ _
      generalize (l.length + k) / (k + 1) = q at *
      have h2 : q * (k + 1) = q * k + q := by rw [Nat.mul_add, Nat.mul_one]
      rcases (show q = 1 ∨ 2 ≤ q by omega) with rfl | hq
      · omega
      · have h3 : 2 * k ≤ q * k := Nat.mul_le_mul_right k hq
        omega
def shares {α : Type} (l : List α) (most : Nat) : List (List α) := sh ((l.length + most - 1) / most) l
theorem shares_num {α : Type} (l : List α) (most : Nat) (hm : 0 < most) : l.length ≤ (l.length + most - 1) / most * most ∧ (l.length + most - 1) / most ≤ l.length ∧ (0 < l.length → 0 < (l.length + most - 1) / most) := by
  have h1 := Nat.div_add_mod (l.length + most - 1) most
  have h2 := Nat.mod_lt (l.length + most - 1) hm
  have h3 : most * ((l.length + most - 1) / most) = (l.length + most - 1) / most * most := Nat.mul_comm _ _
  refine ⟨by omega, ?_, fun hl => ?_⟩
  · rcases Nat.eq_zero_or_pos l.length with h | h
    · rw [h, Nat.div_eq_of_lt (by omega)]; exact Nat.le_refl _
    · have := div_le l.length (most - 1)
      rw [show most - 1 + 1 = most by omega, show l.length + (most - 1) = l.length + most - 1 by omega] at this
      exact this
  · rw [Nat.div_pos_iff]; omega
end Go.Proofs.YtolgpnaoaodepaaGreat.Tr
/- The walk of shares, of items. -/
namespace Go.Proofs.YtolgpnaoaodepaaGreat
open Go.RowKit

/-- Lists, each in a block of its own, apart from each other. -/
structure ManyI (B : Nat) (w : World) (vs : List Value) (ls : List (List (ByteArray × ByteArray))) : Prop where
  n : vs.length = ls.length
  o : ∀ i (h : i < vs.length) (h' : i < ls.length), OwnsI B w (vs[i]'h) (ls[i]'(h'))
  a : vs.Pairwise fun u v => ∀ g, u.ownBlock = some g → v.ownBlock ≠ some g
theorem ManyI.keep {B : Nat} {w w' : World} {vs : List Value} {ls : List (List (ByteArray × ByteArray))} (h : ManyI B w vs ls) {F : Nat → Prop} (m : Mod F w w') (hF : ∀ v ∈ vs, ∀ g, v.ownBlock = some g → ¬ F g) : ManyI B w' vs ls :=
  ⟨h.n, fun i hi hi' => m.row (h.o i hi hi') (hF _ (List.getElem_mem hi)), h.a⟩
theorem ManyI.lt {B : Nat} {w : World} {vs : List Value} {ls : List (List (ByteArray × ByteArray))} (h : ManyI B w vs ls) {v : Value} (hv : v ∈ vs) (g : Nat) (hg : v.ownBlock = some g) : B ≤ g ∧ g < w.heap.size := by
  obtain ⟨i, hi, rfl⟩ := List.getElem_of_mem hv
  exact World.ownsRow.lt (h.o i hi (by have := h.n; omega)) g hg
theorem ManyI.snoc {B : Nat} {w : World} {vs : List Value} {ls : List (List (ByteArray × ByteArray))} (h : ManyI B w vs ls) {v : Value} {l : List (ByteArray × ByteArray)} (ho : OwnsI B w v l) (ha : ∀ u ∈ vs, ∀ g, u.ownBlock = some g → v.ownBlock ≠ some g) : ManyI B w (vs ++ [v]) (ls ++ [l]) := by
  refine ⟨by simp [h.n], fun i hi hi' => ?_, List.pairwise_append.2 ⟨h.a, by simp, fun u hu x hx => by simp at hx; subst hx; exact ha u hu⟩⟩
  by_cases hl : i < vs.length
  · rw [List.getElem_append_left hl, List.getElem_append_left (by have := h.n; omega)]
    exact h.o i hl _
  · have hil : i = vs.length := by simp at hi; omega
    subst hil
    rw [List.getElem_append_right (Nat.le_refl _), List.getElem_append_right (by have := h.n; omega)]
    simpa [h.n] using ho
theorem many_nil (B : Nat) (w : World) : ManyI B w [] [] := ⟨rfl, fun i hi => by simp at hi, List.Pairwise.nil⟩
/-- What shares hands back. -/
structure ShQ (B : Nat) (w : World) (v : Value) (vs : List Value) (ls : List (List (ByteArray × ByteArray))) : Prop where
  row : w.ownsRow B 30 1 v vs.length vs
  many : ManyI B w vs ls

set_option maxHeartbeats 1000000 in
set_option maxRecDepth 20000 in
theorem sharesI_any (g o n c : Nat) (il : List (ByteArray × ByteArray)) (most : Nat) (w : World) (hn : il.length = n) (hc : n ≤ c) (hb : n ≤ 100000) (hm : 0 < most) (hm2 : most ≤ 100) (hs : ∀ j u, (icells il)[j]? = some u → w.cell? ⟨g, o + j, none⟩ = some u) (hlt : g < w.heap.size) :
    Calls Tryz.prog 176 #[.slice (some ⟨g, o, none⟩) n c, .int .i64 (most : Nat)] w fun r w' => ∃ v vs, r = .returned v ∧ ShQ w.heap.size w' v vs (Tr.shares il most) ∧ Below w.heap.size w w' := by
  subst hn
  obtain ⟨hn1, hn2, -⟩ := Tr.shares_num il most hm
  obtain ⟨K, hK⟩ : ∃ K, K = (il.length + most - 1) / most := ⟨_, rfl⟩
  have HSH : Hid (Tr.shares il most = Tr.sh K il) := by show _ = _; unfold Tr.shares; rw [hK]
  have hq1 : ((il.length : Int) + (most : Int) - 1).tdiv (most : Int) = (K : Int) := by
    rw [show (il.length : Int) + (most : Int) - 1 = ((il.length + most - 1 : Nat) : Int) by omega, hK]
    exact Int.ofNat_tdiv _ _
  rw [← hK] at hn1 hn2
  clear hK hn1
  have HS := hid hs
  clear hs
  have hm0 : ¬ (most : Int) = 0 := by omega
  go_enter Tryz.func176, Tryz.ntmps176
  go_wp2_with fail
  go_loopw [0, 5, 6] (fun t0 t5 t6 wr => ∃ (m off : Nat) (a : Addr) (vs : List Value) (ls : List (List (ByteArray × ByteArray))), t6 = .int .i64 (m : Nat) ∧ off + m ≤ il.length ∧ t0 = .slice (some a) (il.length - off) (c - off) ∧ (il.length - off = 0 ∨ a = ⟨g, o + off * 2, none⟩) ∧ ShQ w.heap.size wr t5 vs ls ∧ Hid (ls ++ Tr.sh m (il.drop off) = Tr.shares il most) ∧ ls.length ≤ K ∧ ls.length + m = K ∧ Below w.heap.size w wr) (fun _ _ i _ => (intOf i).toNat)
  case atStart => exact ⟨K, 0, ⟨g, o, none⟩, [], [], rfl, by omega, rfl, .inr (by simp), ⟨World.ownsRow_nil _ _ _ _, many_nil _ _⟩, by show _ = _; rw [HSH.out]; rfl, by simp, by simp, Below.refl _ _⟩
  case round =>
    obtain ⟨m, off, a, vs, ls, rfl, hom, rfl, ha, hsh, hls, hlk, hlm, hbel⟩ := hrel
    have HQ := hid hsh
    have HB := hid hbel
    have hbs := hbel.size
    clear hsh hbel
    by_cases hm1 : m = 0
    · subst hm1
      have HF : Hid (ls = Tr.shares il most) := by
        show _ = _; rw [← hls.out]; simp [Tr.sh]
      clear hls
      go_wp2_with fail
      go_ret
      exact ⟨_, vs, rfl, by rw [← HF.out]; exact HQ.out, HB.out⟩
    · have ha' : a = ⟨g, o + off * 2, none⟩ := ha.resolve_left (by omega)
      subst ha'
      clear ha
      obtain ⟨q, hq⟩ : ∃ q, q = (il.length - off + (m - 1)) / (m - 1 + 1) := ⟨_, rfl⟩
      have hq2 : (((il.length - off : Nat) : Int) + (m : Int) - 1).tdiv (m : Int) = (q : Int) := by
        rw [show ((il.length - off : Nat) : Int) + (m : Int) - 1 = ((il.length - off + (m - 1) : Nat) : Int) by omega, show (m : Int) = ((m - 1 + 1 : Nat) : Int) by omega, hq]
        exact Int.ofNat_tdiv _ _
      have hqle : q ≤ il.length - off := by rw [hq]; exact Tr.div_le _ _
      have hdl : (il.drop off).length = il.length - off := List.length_drop
      have HN : Hid ((ls ++ [(il.drop off).take q]) ++ Tr.sh (m - 1) (il.drop (off + q)) = Tr.shares il most) := by
        show _ = _
        rw [← hls.out, List.append_assoc]
        congr 1
        conv => rhs; rw [show m = m - 1 + 1 by omega, Tr.sh]
        rw [hdl, ← hq, List.drop_drop]
        rfl
      have hqm : off + q + (m - 1) ≤ il.length := by
        have h1 : q * (m - 1 + 1) ≤ il.length - off + (m - 1) := by rw [hq]; exact Nat.div_mul_le_self _ _
        have h2 : q * (m - 1 + 1) = q * (m - 1) + q := by rw [Nat.mul_add, Nat.mul_one]
        rcases (show q = 0 ∨ q = 1 ∨ 2 ≤ q by omega) with h | h | h
        · omega
        · omega
        · have h3 : 2 * (m - 1) ≤ q * (m - 1) := Nat.mul_le_mul_right _ h
          omega
      have hm2' : ¬ (m : Int) = 0 := by omega
      have hm3 : (0 : Int) < (m : Int) := by omega
      have hm4 : 0 < m := by omega
      have HCL := hid (cloneI_any ⟨g, o + off * 2, none⟩ q (c - off) ((il.drop off).take q) wr (by rw [List.length_take, hdl]; omega) (by omega) (fun j u hj => by
        rw [off_add, Nat.add_assoc]
        have hj' : (icells il)[off * 2 + j]? = some u := by
          rw [icells_take _ _ (by omega), List.getElem?_take] at hj
          split at hj
          · rw [icells_drop _ _ (by omega), List.getElem?_drop] at hj; exact hj
          · cases hj
        exact (HB.out.cell (p := ⟨g, o + (off * 2 + j), none⟩) hlt).trans (HS.out _ _ hj')) (Nat.lt_of_lt_of_le hlt hbs))
      clear hq hls hdl
      have hqc : q ≤ c - off := by omega
      go_wp2_with fail
      refine HCL.out.mono ?_
      rintro r w1 ⟨v1, rfl, ho1, hb1⟩
      have hb1s := hb1.size
      have HQ1 : Hid (ShQ w.heap.size w1 u5 vs ls) := ⟨row_below HQ.out.row hb1 (Nat.le_refl _), HQ.out.many.keep (Mod.of_below (F := fun _ => False) hb1) (fun _ _ _ _ q => q)⟩
      have HO1 : Hid (OwnsI w.heap.size w1 v1 ((il.drop off).take q)) := row_shrink ho1 hbs
      have HAP : Hid (∀ u ∈ vs, ∀ g, u.ownBlock = some g → v1.ownBlock ≠ some g) := fun u hu k hk hk' => by
        have h1 := (HQ.out.many.lt hu k hk).2
        have h2 := (World.ownsRow.lt ho1 k hk').1
        omega
      have HB1 := hid (HB.out.trans (hb1.mono hbs))
      clear HCL hb1 ho1
      obtain ⟨x1, y1, z1, rfl⟩ := shape3 HO1.out
      have hbs1 : w.heap.size ≤ w1.heap.size := HB1.out.size
      have hvl : vs.length ≤ 100000 := by have := HQ1.out.many.n; omega
      go_wp2_with (at_builtin; refine wpApG w1 rfl (.tmp 26) (.tmp 31) 68 30 Tryz.underlying68 _ 1 24 info_rowI rfl (by decide) (by decide) rfl w.heap.size u5 vs.length vs rfl HQ1.out.row [.slice x1 y1 z1] rfl (by intro u hu; simp at hu; subst hu; rfl) rfl (by omega) hbs1 ?_; intro v2 w2 ho2 hg2 hb2)
      have HSQ : Hid (ShQ w.heap.size w2 v2 (vs ++ [.slice x1 y1 z1]) (ls ++ [(il.drop off).take q])) := by
        have m2 := Mod.of_grown hg2
        refine ⟨by rw [List.length_append]; exact ho2, ?_⟩
        refine (HQ1.out.many.snoc HO1.out HAP.out).keep m2 fun u hu k hk hk' => ?_
        rcases List.mem_append.1 hu with h | h
        · obtain ⟨i, hi, rfl⟩ := List.getElem_of_mem h
          exact rowsE_apart (HQ1.out.many.o i hi (by have := HQ1.out.many.n; omega)) HQ1.out.row (by decide) k hk hk'
        · simp at h; subst h
          exact rowsE_apart HO1.out HQ1.out.row (by decide) k hk hk'
      have HB2 : Hid (Below w.heap.size w w2) := HB1.out.grown hg2 hbs1 (fun k hk => (World.ownsRow.lt HQ1.out.row k hk).1)
      clear ho2 hg2 hb2 HQ1 HO1 HAP HB1 HQ HB
      refine ⟨⟨m - 1, off + q, (if c - off = q then ⟨g, o + off * 2, none⟩ else ⟨g, o + off * 2 + q * 2, none⟩), _, _, ?_, hqm, ?_, ?_, HSQ.out, HN.out, by simp; omega, by simp; omega, HB2.out⟩, by simp [intOf]; omega⟩
      · congr 1; omega
      · rw [show il.length - (off + q) = il.length - off - q by omega, show c - (off + q) = c - off - q by omega]
        split <;> rfl
      · by_cases h0 : il.length - (off + q) = 0
        · exact .inl h0
        · right
          rw [if_neg (by omega)]
          congr 1; omega
end Go.Proofs.YtolgpnaoaodepaaGreat
/- slices.Clone and shares, of parts. -/
namespace Go.Proofs.YtolgpnaoaodepaaGreat
open Go.RowKit

theorem info_rowP : (Tryz.prog.info? 121).map (fun i => (i.zero, i.size, i.bytes)) = some (some (.slice none 0 0), 1, 24) := by kernel_rfl
theorem pcells_drop (l : List (ByteArray × Nat)) (i : Nat) (hi : i ≤ l.length) : pcells (l.drop i) = (pcells l).drop (i * 2) := by
  have h : pcells l = pcells (l.take i) ++ pcells (l.drop i) := by rw [← pcells_append, List.take_append_drop]
  have h2 : (pcells (l.take i)).length = i * 2 := by rw [pcells_len, List.length_take]; omega
  rw [h, ← h2, List.drop_left]
theorem pcells_take (l : List (ByteArray × Nat)) (i : Nat) (hi : i ≤ l.length) : pcells (l.take i) = (pcells l).take (i * 2) := by
  have h : pcells l = pcells (l.take i) ++ pcells (l.drop i) := by rw [← pcells_append, List.take_append_drop]
  have h2 : (pcells (l.take i)).length = i * 2 := by rw [pcells_len, List.length_take]; omega
  rw [h, ← h2, List.take_left]
set_option maxHeartbeats 400000 in
set_option maxRecDepth 20000 in
theorem cloneP_any (ad : Addr) (n c : Nat) (l : List (ByteArray × Nat)) (w : World) (hn : l.length = n) (hb : n ≤ 1000000) (hs : ∀ j u, (pcells l)[j]? = some u → w.cell? (ad.add j) = some u) (hlt : ad.block < w.heap.size) :
    Calls Tryz.prog 231 #[.slice (some ad) n c] w fun r w' => ∃ v, r = .returned v ∧ OwnsP w.heap.size w' v l ∧ Below w.heap.size w w' := by
  subst hn
  have hnil : ∀ W, (binOp BinOp.eql 121 (.slice (some ad) l.length c) (.slice none 0 0)).run Tryz.prog W = .ok (.bool false) W := fun W => Lib.run_eql_slice_some_nil W _ _ _ Tryz.underlying121
  have HB1 := hid ((Below.refl w.heap.size w).alloc (Nat.le_refl _) (.cells #[] 132))
  have HR1 := hid (row_empty w 132 2)
  have HS1 : Hid (∀ j u, (pcells l)[j]? = some u → (w.alloc (.cells #[] 132)).cell? (ad.add j) = some u) := fun j u hj => (HB1.out.cell (p := ad.add j) (by rw [show (ad.add j).block = ad.block by unfold Addr.add; split <;> rfl]; exact hlt)).trans (hs j u hj)
  have HZ : Hid (w.heap.size ≤ (w.alloc (.cells #[] 132)).heap.size) := HB1.out.size
  have HL : Hid ((pcells l).length = l.length * 2) := pcells_len l
  clear hs
  go_enter Tryz.func231, Tryz.ntmps231
  go_wp2_with (at_builtin; refine wpApAt _ rfl (.tmp 5) (.tmp 6) 121 132 Tryz.underlying121 _ 2 24 info_part rfl (by decide) (by decide) rfl w.heap.size (.slice (some ⟨w.heap.size, 0, none⟩) 0 0) 0 [] rfl HR1.out ad l.length c (pcells l) rfl HL.out HS1.out (one_pcells l) (by omega) HZ.out ?_; intro v1 w1 ho1 hg1 hb1)
  have HF : Hid (OwnsP w.heap.size w1 v1 l ∧ Below w.heap.size w w1) := by
    refine ⟨?_, HB1.out.grown hg1 HB1.out.size (fun k hk => by cases hk; exact Nat.le_refl _)⟩
    unfold OwnsP
    simpa using ho1
  clear ho1 hg1 hb1
  go_ret
  exact ⟨v1, rfl, HF.out⟩

/-- Lists, each in a block of its own, apart from each other. -/
structure ManyP (B : Nat) (w : World) (vs : List Value) (ls : List (List (ByteArray × Nat))) : Prop where
  n : vs.length = ls.length
  o : ∀ i (h : i < vs.length) (h' : i < ls.length), OwnsP B w (vs[i]'h) (ls[i]'(h'))
  a : vs.Pairwise fun u v => ∀ g, u.ownBlock = some g → v.ownBlock ≠ some g
theorem ManyP.keep {B : Nat} {w w' : World} {vs : List Value} {ls : List (List (ByteArray × Nat))} (h : ManyP B w vs ls) {F : Nat → Prop} (m : Mod F w w') (hF : ∀ v ∈ vs, ∀ g, v.ownBlock = some g → ¬ F g) : ManyP B w' vs ls :=
  ⟨h.n, fun i hi hi' => m.row (h.o i hi hi') (hF _ (List.getElem_mem hi)), h.a⟩
theorem ManyP.lt {B : Nat} {w : World} {vs : List Value} {ls : List (List (ByteArray × Nat))} (h : ManyP B w vs ls) {v : Value} (hv : v ∈ vs) (g : Nat) (hg : v.ownBlock = some g) : B ≤ g ∧ g < w.heap.size := by
  obtain ⟨i, hi, rfl⟩ := List.getElem_of_mem hv
  exact World.ownsRow.lt (h.o i hi (by have := h.n; omega)) g hg
theorem ManyP.snoc {B : Nat} {w : World} {vs : List Value} {ls : List (List (ByteArray × Nat))} (h : ManyP B w vs ls) {v : Value} {l : List (ByteArray × Nat)} (ho : OwnsP B w v l) (ha : ∀ u ∈ vs, ∀ g, u.ownBlock = some g → v.ownBlock ≠ some g) : ManyP B w (vs ++ [v]) (ls ++ [l]) := by
  refine ⟨by simp [h.n], fun i hi hi' => ?_, List.pairwise_append.2 ⟨h.a, by simp, fun u hu x hx => by simp at hx; subst hx; exact ha u hu⟩⟩
  by_cases hl : i < vs.length
  · rw [List.getElem_append_left hl, List.getElem_append_left (by have := h.n; omega)]
    exact h.o i hl _
  · have hil : i = vs.length := by simp at hi; omega
    subst hil
    rw [List.getElem_append_right (Nat.le_refl _), List.getElem_append_right (by have := h.n; omega)]
    simpa [h.n] using ho
theorem manyP_nil (B : Nat) (w : World) : ManyP B w [] [] := ⟨rfl, fun i hi => by simp at hi, List.Pairwise.nil⟩
/-- What shares hands back. -/
structure ShP (B : Nat) (w : World) (v : Value) (vs : List Value) (ls : List (List (ByteArray × Nat))) : Prop where
  row : w.ownsRow B 121 1 v vs.length vs
  many : ManyP B w vs ls

set_option maxHeartbeats 1000000 in
set_option maxRecDepth 20000 in
theorem sharesP_any (g o n c : Nat) (il : List (ByteArray × Nat)) (most : Nat) (w : World) (hn : il.length = n) (hc : n ≤ c) (hb : n ≤ 100000) (hm : 0 < most) (hm2 : most ≤ 100) (hs : ∀ j u, (pcells il)[j]? = some u → w.cell? ⟨g, o + j, none⟩ = some u) (hlt : g < w.heap.size) :
    Calls Tryz.prog 177 #[.slice (some ⟨g, o, none⟩) n c, .int .i64 (most : Nat)] w fun r w' => ∃ v vs, r = .returned v ∧ ShP w.heap.size w' v vs (Tr.shares il most) ∧ Below w.heap.size w w' := by
  subst hn
  obtain ⟨hn1, hn2, -⟩ := Tr.shares_num il most hm
  obtain ⟨K, hK⟩ : ∃ K, K = (il.length + most - 1) / most := ⟨_, rfl⟩
  have HSH : Hid (Tr.shares il most = Tr.sh K il) := by show _ = _; unfold Tr.shares; rw [hK]
  have hq1 : ((il.length : Int) + (most : Int) - 1).tdiv (most : Int) = (K : Int) := by
    rw [show (il.length : Int) + (most : Int) - 1 = ((il.length + most - 1 : Nat) : Int) by omega, hK]
    exact Int.ofNat_tdiv _ _
  rw [← hK] at hn1 hn2
  clear hK hn1
  have HS := hid hs
  clear hs
  have hm0 : ¬ (most : Int) = 0 := by omega
  go_enter Tryz.func177, Tryz.ntmps177
  go_wp2_with fail
  go_loopw [0, 5, 6] (fun t0 t5 t6 wr => ∃ (m off : Nat) (a : Addr) (vs : List Value) (ls : List (List (ByteArray × Nat))), t6 = .int .i64 (m : Nat) ∧ off + m ≤ il.length ∧ t0 = .slice (some a) (il.length - off) (c - off) ∧ (il.length - off = 0 ∨ a = ⟨g, o + off * 2, none⟩) ∧ ShP w.heap.size wr t5 vs ls ∧ Hid (ls ++ Tr.sh m (il.drop off) = Tr.shares il most) ∧ ls.length ≤ K ∧ ls.length + m = K ∧ Below w.heap.size w wr) (fun _ _ i _ => (intOf i).toNat)
  case atStart => exact ⟨K, 0, ⟨g, o, none⟩, [], [], rfl, by omega, rfl, .inr (by simp), ⟨World.ownsRow_nil _ _ _ _, manyP_nil _ _⟩, by show _ = _; rw [HSH.out]; rfl, by simp, by simp, Below.refl _ _⟩
  case round =>
    obtain ⟨m, off, a, vs, ls, rfl, hom, rfl, ha, hsh, hls, hlk, hlm, hbel⟩ := hrel
    have HQ := hid hsh
    have HB := hid hbel
    have hbs := hbel.size
    clear hsh hbel
    by_cases hm1 : m = 0
    · subst hm1
      have HF : Hid (ls = Tr.shares il most) := by
        show _ = _; rw [← hls.out]; simp [Tr.sh]
      clear hls
      go_wp2_with fail
      go_ret
      exact ⟨_, vs, rfl, by rw [← HF.out]; exact HQ.out, HB.out⟩
    · have ha' : a = ⟨g, o + off * 2, none⟩ := ha.resolve_left (by omega)
      subst ha'
      clear ha
      obtain ⟨q, hq⟩ : ∃ q, q = (il.length - off + (m - 1)) / (m - 1 + 1) := ⟨_, rfl⟩
      have hq2 : (((il.length - off : Nat) : Int) + (m : Int) - 1).tdiv (m : Int) = (q : Int) := by
        rw [show ((il.length - off : Nat) : Int) + (m : Int) - 1 = ((il.length - off + (m - 1) : Nat) : Int) by omega, show (m : Int) = ((m - 1 + 1 : Nat) : Int) by omega, hq]
        exact Int.ofNat_tdiv _ _
      have hqle : q ≤ il.length - off := by rw [hq]; exact Tr.div_le _ _
      have hdl : (il.drop off).length = il.length - off := List.length_drop
      have HN : Hid ((ls ++ [(il.drop off).take q]) ++ Tr.sh (m - 1) (il.drop (off + q)) = Tr.shares il most) := by
        show _ = _
        rw [← hls.out, List.append_assoc]
        congr 1
        conv => rhs; rw [show m = m - 1 + 1 by omega, Tr.sh]
        rw [hdl, ← hq, List.drop_drop]
        rfl
      have hqm : off + q + (m - 1) ≤ il.length := by
        have h1 : q * (m - 1 + 1) ≤ il.length - off + (m - 1) := by rw [hq]; exact Nat.div_mul_le_self _ _
        have h2 : q * (m - 1 + 1) = q * (m - 1) + q := by rw [Nat.mul_add, Nat.mul_one]
        rcases (show q = 0 ∨ q = 1 ∨ 2 ≤ q by omega) with h | h | h
        · omega
        · omega
        · have h3 : 2 * (m - 1) ≤ q * (m - 1) := Nat.mul_le_mul_right _ h
          omega
      have hm2' : ¬ (m : Int) = 0 := by omega
      have hm3 : (0 : Int) < (m : Int) := by omega
      have hm4 : 0 < m := by omega
      have HCL := hid (cloneP_any ⟨g, o + off * 2, none⟩ q (c - off) ((il.drop off).take q) wr (by rw [List.length_take, hdl]; omega) (by omega) (fun j u hj => by
        rw [off_add, Nat.add_assoc]
        have hj' : (pcells il)[off * 2 + j]? = some u := by
          rw [pcells_take _ _ (by omega), List.getElem?_take] at hj
          split at hj
          · rw [pcells_drop _ _ (by omega), List.getElem?_drop] at hj; exact hj
          · cases hj
        exact (HB.out.cell (p := ⟨g, o + (off * 2 + j), none⟩) hlt).trans (HS.out _ _ hj')) (Nat.lt_of_lt_of_le hlt hbs))
      clear hq hls hdl
      have hqc : q ≤ c - off := by omega
      go_wp2_with fail
      refine HCL.out.mono ?_
      rintro r w1 ⟨v1, rfl, ho1, hb1⟩
      have hb1s := hb1.size
      have HQ1 : Hid (ShP w.heap.size w1 u5 vs ls) := ⟨row_below HQ.out.row hb1 (Nat.le_refl _), HQ.out.many.keep (Mod.of_below (F := fun _ => False) hb1) (fun _ _ _ _ q => q)⟩
      have HO1 : Hid (OwnsP w.heap.size w1 v1 ((il.drop off).take q)) := row_shrink ho1 hbs
      have HAP : Hid (∀ u ∈ vs, ∀ g, u.ownBlock = some g → v1.ownBlock ≠ some g) := fun u hu k hk hk' => by
        have h1 := (HQ.out.many.lt hu k hk).2
        have h2 := (World.ownsRow.lt ho1 k hk').1
        omega
      have HB1 := hid (HB.out.trans (hb1.mono hbs))
      clear HCL hb1 ho1
      obtain ⟨x1, y1, z1, rfl⟩ := shape3 HO1.out
      have hbs1 : w.heap.size ≤ w1.heap.size := HB1.out.size
      have hvl : vs.length ≤ 100000 := by have := HQ1.out.many.n; omega
      go_wp2_with (at_builtin; refine wpApG w1 rfl (.tmp 26) (.tmp 31) 230 121 Tryz.underlying230 _ 1 24 info_rowP rfl (by decide) (by decide) rfl w.heap.size u5 vs.length vs rfl HQ1.out.row [.slice x1 y1 z1] rfl (by intro u hu; simp at hu; subst hu; rfl) rfl (by omega) hbs1 ?_; intro v2 w2 ho2 hg2 hb2)
      have HSQ : Hid (ShP w.heap.size w2 v2 (vs ++ [.slice x1 y1 z1]) (ls ++ [(il.drop off).take q])) := by
        have m2 := Mod.of_grown hg2
        refine ⟨by rw [List.length_append]; exact ho2, ?_⟩
        refine (HQ1.out.many.snoc HO1.out HAP.out).keep m2 fun u hu k hk hk' => ?_
        rcases List.mem_append.1 hu with h | h
        · obtain ⟨i, hi, rfl⟩ := List.getElem_of_mem h
          exact rowsE_apart (HQ1.out.many.o i hi (by have := HQ1.out.many.n; omega)) HQ1.out.row (by decide) k hk hk'
        · simp at h; subst h
          exact rowsE_apart HO1.out HQ1.out.row (by decide) k hk hk'
      have HB2 : Hid (Below w.heap.size w w2) := HB1.out.grown hg2 hbs1 (fun k hk => (World.ownsRow.lt HQ1.out.row k hk).1)
      clear ho2 hg2 hb2 HQ1 HO1 HAP HB1 HQ HB
      refine ⟨⟨m - 1, off + q, (if c - off = q then ⟨g, o + off * 2, none⟩ else ⟨g, o + off * 2 + q * 2, none⟩), _, _, ?_, hqm, ?_, ?_, HSQ.out, HN.out, by simp; omega, by simp; omega, HB2.out⟩, by simp [intOf]; omega⟩
      · congr 1; omega
      · rw [show il.length - (off + q) = il.length - off - q by omega, show c - (off + q) = c - off - q by omega]
        split <;> rfl
      · by_cases h0 : il.length - (off + q) = 0
        · exact .inl h0
        · right
          rw [if_neg (by omega)]
          congr 1; omega
end Go.Proofs.YtolgpnaoaodepaaGreat
