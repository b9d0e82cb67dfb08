/- The walks of pages' writeBranch and Write, and of silt's Write. -/
import Derived.Test.YtolgpnaoaodepaaWalkS
namespace Go.Proofs.Ytolgpnaoaodepaa
open Go.RowKit

theorem flat_len {α : Type} (f : α → List UInt8) (n : Nat) : ∀ (l : List α), (∀ x ∈ l, (f x).length ≤ n) → (l.flatMap f).length ≤ n * l.length
  | [], _ => by simp
  | x :: r, h => by
    rw [List.flatMap_cons, List.length_append, List.length_cons, Nat.mul_add]
    have h1 := h x (by simp)
    have h2 := flat_len f n r (fun y hy => h y (by simp [hy]))
    omega
theorem pivotsC_len (cl : List Nat) (pl : List (List UInt8)) (h1 : cl.length ≤ 4) (h2 : pl.length ≤ 4) (hc : ∀ c ∈ cl, c ≤ 2147483647) (hp : ∀ p ∈ pl, p.length ≤ 12) : (Pg.pivotsC cl pl).length ≤ 400 := by
  unfold Pg.pivotsC
  rw [List.length_append]
  have a := flat_len Pg.num 10 cl (fun c hcm => num_short c (by have := hc c hcm; omega))
  have b := flat_len Pg.text 30 pl (fun p hpm => by have := text_len p (by have := hp p hpm; omega); have := hp p hpm; omega)
  omega

set_option maxHeartbeats 2000000 in
set_option maxRecDepth 100000 in
theorem writeBranch_any (kd : Int) (v1 v2 v3 v4 : Value) (cl : List Nat) (pl : List ByteArray) (ml : List (Int × ByteArray × ByteArray)) (w : World) (h1 : ∃ a n c, v1 = .slice a n c) (h2 : IsRow w v2 cl.length (ncells cl)) (h3 : IsRow w v3 pl.length (pl.map .string)) (h4 : IsChs w v4 ml)
    (hc4 : cl.length ≤ 4) (hcc : ∀ c ∈ cl, c ≤ 2147483647) (hp4 : pl.length ≤ 4) (hps : ∀ p ∈ pl, p.size ≤ 12) (hm8 : ml.length ≤ 8) (hms : ∀ c ∈ ml, (0 ≤ c.1 ∧ c.1 ≤ 255) ∧ c.2.1.size ≤ 12 ∧ c.2.2.size ≤ 16) :
    Calls Try.prog 40 #[.agg #[.int .i64 kd, v1, v2, v3, v4]] w fun r w' => r = .returned (.string ⟨(Pg.branch cl (lists pl) (plainCh ml)).toArray⟩) ∧ Below w.heap.size w w' := by
  obtain ⟨a1, n1, p1, rfl⟩ := h1
  obtain ⟨a2, p2, rfl, -, -⟩ := id h2
  obtain ⟨a3, p3, rfl, -, -⟩ := id h3
  obtain ⟨a4, p4, rfl, -, -⟩ := id h4
  have BA := (Below.refl w.heap.size w).alloc (Nat.le_refl _) (.cells #[.int .i64 kd, .slice a1 n1 p1, .slice a2 cl.length p2, .slice a3 pl.length p3, .slice a4 ml.length p4] 34)
  have HB0 := hid BA
  have H2 := hid (h2.below BA)
  have H3 := hid (h3.below BA)
  have H4 := hid (h4.below BA)
  have HN : Hid ((w.alloc (.cells #[.int .i64 kd, .slice a1 n1 p1, .slice a2 cl.length p2, .slice a3 pl.length p3, .slice a4 ml.length p4] 34)).heap[w.heap.size]? = some (.cells #[.int .i64 kd, .slice a1 n1 p1, .slice a2 cl.length p2, .slice a3 pl.length p3, .slice a4 ml.length p4] 34 (0, 0))) := heap_alloc_new _ _
  have hws : w.heap.size < (w.alloc (.cells #[.int .i64 kd, .slice a1 n1 p1, .slice a2 cl.length p2, .slice a3 pl.length p3, .slice a4 ml.length p4] 34)).heap.size := by simp
  have hpl := pivotsC_len cl (lists pl) hc4 (by simp [lists]; exact hp4) hcc (by intro p hp; simp only [lists, List.mem_map] at hp; obtain ⟨f, hf, rfl⟩ := hp; rw [len_size]; exact hps f hf)
  have hcl := changesLen (plainCh ml) (plainCh_sz (fun x hx => ⟨⟨(hms x hx).1.1, by have := (hms x hx).1.2; omega⟩, (hms x hx).2⟩))
  have hcl2 : (plainCh ml).length = ml.length := by simp [plainCh]
  rw [hcl2] at hcl
  have hs1 := Pg.section_len [112] (Pg.pivotsC cl (lists pl)) (by omega)
  have hs2 := Pg.section_len [109] (Pg.changes (plainCh ml)) (by omega)
  have HMS := hid hms
  have HPS := hid hps
  have HCC := hid hcc
  obtain ⟨bt, hbt, hbl⟩ := low1 cl.length
  have HBT := hid hbt
  have HBR : Hid (Pg.branch cl (lists pl) (plainCh ml) = Pg.sealed ([83, 50, 73, bt] ++ Pg.low (Pg.branchP cl (lists pl)).length 2 ++ Pg.low (Pg.branchM (plainCh ml)).length 2 ++ List.replicate 56 0) ++ Pg.branchP cl (lists pl) ++ Pg.branchM (plainCh ml)) := by
    show _ = _; unfold Pg.branch; rw [hbl]; rfl
  have HP : Hid (Pg.section_ [112] (Pg.pivotsC cl (lists pl)) = Pg.branchP cl (lists pl)) := rfl
  have HM : Hid (Pg.section_ [109] (Pg.changes (plainCh ml)) = Pg.branchM (plainCh ml)) := rfl
  have hpl2 : (Pg.branchP cl (lists pl)).length ≤ 500 := by rw [← HP.out]; simp at hs1; omega
  have hml2 : (Pg.branchM (plainCh ml)).length ≤ 600 := by rw [← HM.out]; simp at hs2; omega
  clear BA h2 h3 h4 hms hps hcc hbt hbl hs1 hs2 hcl2
  go_enter Try.func40, Try.ntmps40
  go_wp2_with fail
  generalize w.alloc (.cells #[.int .i64 kd, .slice a1 n1 p1, .slice a2 cl.length p2, .slice a3 pl.length p3, .slice a4 ml.length p4] 34) = w0 at *
  refine (children_any _ _ cl pl _ H2.out H3.out (by omega) (by omega) (fun c hc => by have := HCC.out c hc; omega) (fun p hp => by have := HPS.out p hp; omega)).mono ?_
  rintro r w1 ⟨u1, rfl, ho1, hb1⟩
  have HO1 := hid ho1
  have H4' := hid (H4.out.below hb1)
  have HN1 := hid ((hb1.block w.heap.size (by omega)).trans HN.out)
  have HB1 := hid (HB0.out.trans (hb1.mono (by omega)))
  have hz1 := hb1.size
  clear ho1 hb1 H2 H3 H4 HN
  go_wp2_with fail
  refine (writeSec_any w0.heap.size 112 u1 _ _ HO1.out (by omega)).mono ?_
  rintro r w2 ⟨rfl, hb2⟩
  have H4'' := hid (H4'.out.below hb2)
  have HN2 := hid ((hb2.block w.heap.size (by omega)).trans HN1.out)
  have HB2 := hid (HB1.out.trans (hb2.mono (by omega)))
  have hz2 := hb2.size
  obtain ⟨m0, m1, m2, m3, m4⟩ := node_cells HN2.out
  rw [HP.out]
  clear hb2 H4' HN1
  go_wp2_with fail
  refine (changesC_any _ ml _ H4''.out (by omega) (fun c hc => by have := HMS.out c hc; omega)).mono ?_
  rintro r w3 ⟨u3, rfl, ho3, hb3⟩
  have HO3 := hid ho3
  have HN3 := hid ((hb3.block w.heap.size (by omega)).trans HN2.out)
  have HB3 := hid (HB2.out.trans (hb3.mono (by omega)))
  have hz3 := hb3.size
  clear ho3 hb3 HN2 m0 m1 m2 m3 m4
  go_wp2_with fail
  refine (writeSec_any w2.heap.size 109 u3 _ _ HO3.out (by omega)).mono ?_
  rintro r w4 ⟨rfl, hb4⟩
  have HN4 := hid ((hb4.block w.heap.size (by omega)).trans HN3.out)
  have HB4 := hid (HB3.out.trans (hb4.mono (by omega)))
  have hz4 := hb4.size
  rw [HM.out]
  clear hb4 HN3
  obtain ⟨m0, m1, m2, m3, m4⟩ := node_cells HN4.out
  generalize Pg.branchP cl (lists pl) = ps at *
  generalize Pg.branchM (plainCh ml) = ms at *
  have hzp := size_mk ps
  have hzm := size_mk ms
  have hcv := Joins.run_convert_bytes_const_at (P := Try.prog) w4 59 5 #[.int .u8 83, .int .u8 50, .int .u8 73] 3 3 w4.heap.size rfl Try.underlying59 Try.underlying5
  have k2 : (w4.alloc (.cells #[.int .u8 83, .int .u8 50, .int .u8 73] 5 (3, 4))).cell? ⟨w.heap.size, 2, none⟩ = some (.slice a2 cl.length p2) := by
    rw [World.cell?_alloc_past _ _ _ (by show w.heap.size < _; omega)]; exact m2
  go_wp2_with (first
    | (at_builtin; refine wpApL w4 rfl (.tmp 17) (.tmp 22) rfl 83 50 73 _ _ _ _ rfl rfl rfl bt ?_ w4.heap.size (w4.heap.size + 1) rfl rfl rfl rfl w.heap.size (by omega) ?_))
  · rw [HBT.out]; omega
  intro v5 w5 ho5 hb5 k5 hk5 e5 hs5
  have HO5 := hid ho5
  have HB5 := hid (HB4.out.trans (hb5.mono (by omega)))
  clear ho5 hb5 hk5 e5 hcv m0 m1 m2 m3 m4 k2
  go_wp2_with fail
  refine (apShort_any w.heap.size v5 _ ps.length _ HO5.out (by omega) (by simp)).mono ?_
  rintro r w6 ⟨v6, rfl, ho6, hg6⟩
  have HO6 := hid ho6
  have HB6 := hid (HB5.out.trans (hg6.below HO5.out (by omega)))
  have hz6 := hg6.size
  have hl1 := Pg.low_len 2 ps.length
  clear ho6 hg6
  go_wp2_with fail
  refine (apShort_any w.heap.size v6 _ ms.length _ HO6.out (by omega) (by simp [hl1])).mono ?_
  rintro r w7 ⟨v7, rfl, ho7, hg7⟩
  have HO7 := hid ho7
  have HB7 := hid (HB6.out.trans (hg7.below HO6.out (by omega)))
  have hz7 := hg7.size
  have hl2 := Pg.low_len 2 ms.length
  clear ho7 hg7
  go_wp2_with fail
  refine (sealHead_any w.heap.size v7 _ _ HO7.out (by omega) (by simp) (by simp [hl1, hl2])).mono ?_
  rintro r w8 ⟨v8, rfl, ho8, hg8⟩
  have HLH : Hid (Pg.sealed ([83, 50, 73, bt] ++ Pg.low ps.length 2 ++ Pg.low ms.length 2 ++ List.replicate (64 - ([83, 50, 73, bt] ++ Pg.low ps.length 2 ++ Pg.low ms.length 2).length) 0) = Pg.sealed ([83, 50, 73, bt] ++ Pg.low ps.length 2 ++ Pg.low ms.length 2 ++ List.replicate 56 0)) := by
    show _ = _; rw [show ([83, 50, 73, bt] ++ Pg.low ps.length 2 ++ Pg.low ms.length 2).length = 8 by simp [hl1, hl2]]
  rw [HLH.out] at ho8
  have hcv := ho8.str
  have HB8 := hid (HB7.out.trans (hg8.below HO7.out (by omega)))
  have hsl : (Pg.sealed ([83, 50, 73, bt] ++ Pg.low ps.length 2 ++ Pg.low ms.length 2 ++ List.replicate 56 0)).length ≤ 100 := by rw [Pg.seal_len]; simp [hl1, hl2]
  generalize Pg.sealed ([83, 50, 73, bt] ++ Pg.low ps.length 2 ++ Pg.low ms.length 2 ++ List.replicate 56 0) = hs at *
  have hzh := size_mk hs
  clear ho8 hg8
  have e1 : ∀ w, (Op.stringOp .add ⟨hs.toArray⟩ ⟨ps.toArray⟩).run Try.prog w = .ok (.string (⟨hs.toArray⟩ ++ ⟨ps.toArray⟩)) w := fun w => run_string_add_sum w _ _ (by omega)
  have e2 : ∀ w, (Op.stringOp .add (⟨hs.toArray⟩ ++ ⟨ps.toArray⟩) ⟨ms.toArray⟩).run Try.prog w = .ok (.string (⟨hs.toArray⟩ ++ ⟨ps.toArray⟩ ++ ⟨ms.toArray⟩)) w := fun w => run_string_add_sum w _ _ (by rw [ByteArray.size_append']; omega)
  go_wp2_with fail
  go_ret
  exact ⟨ret_str (by rw [HBR.out]; simp), HB8.out⟩
end Go.Proofs.Ytolgpnaoaodepaa
