/- The walk of pages' writeLeaf. -/
import Derived.Test.YtolgpnaoaodepaaWalkN
namespace Go.Proofs.Ytolgpnaoaodepaa
open Go.RowKit
namespace Pg
theorem heads_snoc : ∀ (ss : List Nat) (ks : List (List UInt8)) (s : Nat) (k : List UInt8), ss.length = ks.length → heads (ss ++ [s]) (ks ++ [k]) = heads ss ks ++ ent1 s k
  | [], [], s, k, _ => by simp [heads]
  | a :: ss, b :: ks, s, k, h => by
    rw [List.cons_append, List.cons_append, heads, heads_snoc ss ks s k (by simpa using h), heads, List.append_assoc]
  | [], b :: ks, _, _, h => by simp at h
  | a :: ss, [], _, _, h => by simp at h
theorem many_step {n : Nat} (h : 0 < n) : many n = many (n - 4) + 1 := by unfold many; omega
theorem entry_is (k v : List UInt8) (r : List (List UInt8 × List UInt8)) : entry ((k, v) :: r) = ent1 (base ((k, v) :: r)).length k := rfl
end Pg

theorem leaf_step (r : List (ByteArray × ByteArray)) (kb : ByteArray) (vb : List UInt8) (q : List (List UInt8 × List UInt8)) (h : plain r = (kb.data.toList, vb) :: q) (n : Nat) (hn : n = min r.length 4) (sec : List UInt8) (hs : Pg.base (plain r) = sec) :
    Pg.entries (Pg.many r.length) (plain r) = Pg.ent1 sec.length kb.data.toList ++ Pg.entries (Pg.many (r.drop n).length) (plain (r.drop n)) ∧ Pg.bases (Pg.many r.length) (plain r) = sec ++ Pg.bases (Pg.many (r.drop n).length) (plain (r.drop n)) ∧ Pg.many r.length = Pg.many (r.drop n).length + 1 := by
  have hpl : (plain r).length = r.length := by simp [plain]
  have hr : 0 < r.length := by rw [← hpl, h]; simp
  have hne : plain r ≠ [] := by rw [h]; simp
  have hd : r.drop n = r.drop 4 := by
    by_cases h4 : r.length ≤ 4
    · rw [List.drop_eq_nil_of_le (show r.length ≤ n by omega), List.drop_eq_nil_of_le h4]
    · rw [show n = 4 by omega]
  have hm : Pg.many r.length = Pg.many (r.drop n).length + 1 := by rw [hd, List.length_drop]; exact Pg.many_step hr
  have he : Pg.entry (plain r) = Pg.ent1 sec.length kb.data.toList := by rw [← hs, h, Pg.entry_is]
  rw [hm, entries_next _ _ hne, bases_next _ _ hne, ← plain_drop, ← hd, he, hs]
  exact ⟨rfl, rfl, rfl⟩
theorem items_drop {w : World} {b off cap : Nat} {r : List (ByteArray × ByteArray)} (hia : ItemsAt w b off r) (hb : b < w.heap.size) (hc1 : r.length ≤ cap) (hc2 : cap ≤ 9223372036854775807) (n : Nat) : IsItems w (.slice (some ⟨b, off + n * 2, none⟩) (r.length - n) (cap - n)) (r.drop n) := by
  refine .inr ⟨b, off + n * 2, cap - n, by rw [List.length_drop], by rw [List.length_drop]; omega, by omega, hb, ?_⟩
  have := hia.part n r.length
  rw [List.take_of_length_le (by rw [List.length_drop]; omega)] at this
  exact this
theorem items_drop2 {w : World} {b off cap : Nat} {r : List (ByteArray × ByteArray)} (hia : ItemsAt w b off r) (hb : b < w.heap.size) (hc1 : r.length ≤ cap) (hc2 : cap ≤ 9223372036854775807) (n : Nat) : IsItems w (.slice (if cap = n then some ⟨b, off, none⟩ else some ⟨b, off + n * 2, none⟩) (r.length - n) (cap - n)) (r.drop n) := by
  by_cases h : cap = n
  · rw [if_pos h, show r.length - n = 0 by omega]
    exact .inl ⟨_, _, rfl, List.drop_eq_nil_of_le (by omega)⟩
  · rw [if_neg h]; exact items_drop hia hb hc1 hc2 n
theorem lists_snoc2 (fs : List ByteArray) (f : ByteArray) : lists (fs ++ [f]) = lists fs ++ [f.data.toList] := by simp [lists]

set_option maxHeartbeats 4000000 in
set_option maxRecDepth 20000 in
theorem writeLeaf_any (v : Value) (l : List (ByteArray × ByteArray)) (w : World) (hv : IsItems w v l) (hl : l.length ≤ 16) (hsz : ∀ x ∈ l, x.1.size ≤ 12 ∧ x.2.size ≤ 16) :
    Calls Try.prog 39 #[v] w fun r w' => r = .returned (.string ⟨(Pg.leaf (plain l)).toArray⟩) ∧ Below w.heap.size w w' := by
  have HV := hid hv
  have HSZ := hid hsz
  clear hv hsz
  have HST := hid (lhd_start w.heap.size w w (Below.refl _ w) (Nat.le_refl _))
  go_enter Try.func39, Try.ntmps39
  go_wp2_with fail
  go_loopw [0, 4] (fun x s wr => ∃ (r : List (ByteArray × ByteArray)) (body : ByteArray) (ss : List Nat) (fs : List ByteArray) (vs vf : Value), IsItems w x r ∧ s = .string body ∧ LHd w.heap.size w.heap.size w wr ss fs vs vf ∧ r.length ≤ 16 ∧ (∀ y ∈ r, y.1.size ≤ 12 ∧ y.2.size ≤ 16) ∧ ss.length = fs.length ∧ (∀ f ∈ fs, f.size ≤ 12) ∧ ss.length + Pg.many r.length = Pg.many l.length ∧ body.size ≤ ss.length * 1000 ∧ Pg.heads ss (lists fs) ++ Pg.entries (Pg.many r.length) (plain r) = Pg.entries (Pg.many l.length) (plain l) ∧ body.data.toList ++ Pg.bases (Pg.many r.length) (plain r) = Pg.bases (Pg.many l.length) (plain l)) (fun x _ _ => match x with | .slice _ n _ => n | _ => 0)
  case atStart => exact ⟨l, ⟨#[]⟩, [], [], _, _, HV.out, rfl, HST.out, hl, HSZ.out, rfl, by simp, by simp, by decide, by simp [Pg.heads], by simp⟩
  case round =>
    clear HST
    obtain ⟨r, body, ss, fs, vs, vf, hit, rfl, hlh, hr16, hrs, hsf, hfs, hmany, hbody, hheads, hbases⟩ := hrel
    have HLH := hid hlh
    have HRS := hid hrs
    have HSF := hid hsf
    have HFS := hid hfs
    have HMANY := hid hmany
    have HHE := hid hheads
    have HBA := hid hbases
    have HBEL := hid hlh.bel
    have hszr := hlh.lt
    have hml : Pg.many l.length ≤ 4 := by unfold Pg.many; omega
    have hss4 : ss.length ≤ 4 := by omega
    obtain ⟨d0, d1, z0, z1⟩ := hlh.cells
    obtain ⟨sa, sc, rfl⟩ := rowShape hlh.szs
    obtain ⟨fa, fc, rfl⟩ := hlh.fst.shape
    clear hlh hrs hsf hfs hmany hheads hbases
    obtain ⟨xa, xc, rfl⟩ := hit.shape
    by_cases hr0 : 0 < r.length
    · obtain ⟨b, off, cap, hve, hcap1, hcap2, hbw, hia⟩ := hit.resolve_left (by rintro ⟨_, _, _, rfl⟩; simp at hr0)
      injection hve with hve1 hve2 hve3
      subst hve1 hve3
      have HIA := hid hia
      obtain ⟨n, hn⟩ : ∃ n : Nat, n = min r.length 4 := ⟨_, rfl⟩
      have hn1 : min (r.length : Int) 4 = (n : Int) := by omega
      have hn2 : n ≤ r.length ∧ n ≤ 4 ∧ 0 < n := by omega
      have HN := hid hn
      have HBASE : Hid (Pg.section_ [98] (Pg.basement (plain (r.take n))) = Pg.base (plain r)) := by
        show _ = _; unfold Pg.base; rw [plain_take, hn]
        by_cases h4 : r.length ≤ 4
        · rw [List.take_of_length_le (show (plain r).length ≤ min r.length 4 by simp [plain]; omega), List.take_of_length_le (show (plain r).length ≤ 4 by simp [plain]; omega)]
        · rw [show min r.length 4 = 4 by omega]
      have hbl := Pg.basement_len (plain (r.take n)) (plain_sz (fun x hx => HRS.out x (List.mem_of_mem_take hx)))
      have hbl2 : (plain (r.take n)).length ≤ 4 := by simp [plain]; omega
      have HIT : Hid (IsItems wr (.slice (some ⟨b, off, none⟩) n xc) (r.take n)) := by
        refine .inr ⟨b, off, xc, by rw [List.length_take, Nat.min_eq_left hn2.1], by rw [List.length_take]; omega, hcap2, by omega, ?_⟩
        have := (hia.below HBEL.out hbw).part 0 n
        simpa using this
      have hc0 := (hia.below HBEL.out hbw) 0 hr0
      have HHD : Hid (∃ q, plain r = ((r[0]'hr0).1.data.toList, (r[0]'hr0).2.data.toList) :: q) := by
        cases r with
        | nil => simp at hr0
        | cons y ys => exact ⟨plain ys, rfl⟩
      have hfsz := (HRS.out _ (List.getElem_mem hr0)).1
      generalize r[0]'hr0 = y at *
      obtain ⟨kb, vb⟩ := y
      simp only [Nat.zero_mul, Nat.add_zero] at hc0 hfsz
      obtain ⟨hc0, -⟩ := hc0
      have HK0 : Hid (w.cell? ⟨b, off, none⟩ = some (.string kb)) := ((HBEL.out.cell (p := ⟨b, off, none⟩) hbw).symm.trans hc0)
      clear hn hia hit
      have hi1 : (0 : Int) ≤ (n : Int) := by omega
      have hi2 : (n : Int) ≤ (xc : Int) := by omega
      go_wp2_with fail
      refine (base_any _ (r.take n) _ HIT.out (by rw [List.length_take]; omega) (fun x hx => by have := HRS.out x (List.mem_of_mem_take hx); omega)).mono ?_
      rintro r2 w2 ⟨v2, rfl, ho2, hb2⟩
      have HO2 := hid ho2
      have HB2 := hid hb2
      have hs2 := hb2.size
      clear ho2 hb2
      go_wp2_with fail
      refine (writeSec_any wr.heap.size 98 v2 _ _ HO2.out (by omega)).mono ?_
      rintro r2 w3 ⟨rfl, hb3⟩
      have HB3 := hid (HB2.out.trans (hb3.mono hs2))
      have hsl := Pg.section_len [98] (Pg.basement (plain (r.take n))) (by omega)
      rw [HBASE.out] at hsl ⊢
      have HLH3 := hid (HLH.out.below HB3.out)
      have HIA3 := hid (HB3.out.cell (p := ⟨b, off, none⟩) (show b < _ by omega))
      have c3 := HIA3.out.trans hc0
      obtain ⟨d0', d1', z0', z1'⟩ := HLH3.out.cells
      have hs3 := HLH3.out.lt
      clear hb3 d0 d1 z0 z1 hc0 HIA3
      have hsl2 : (Pg.base (plain r)).length ≤ 300 := by simp at hsl; omega
      generalize hsec : Pg.base (plain r) = sec at *
      have HSEC := hid hsec
      clear hsec
      have hzs := size_mk sec
      go_wp2_with (first
        | (at_builtin; refine wpApG w3 rfl (.tmp 19) (.tmp 22) 29 3 Try.underlying29 _ 1 8 info_int rfl (by decide) (by decide) rfl (w.heap.size + 1) (.slice sa ss.length sc) ss.length (ncells ss) rfl HLH3.out.szs [.int .i64 (sec.length : Int)] rfl (by intro u hu; simp at hu; subst hu; rfl) rfl (by omega) hs3 ?_))
      intro v4 w4 ho4 hg4 hat4
      obtain ⟨a4, c4, rfl⟩ := rowShape ho4
      have HA := hid (HLH3.out.apN ho4 hg4 hat4)
      obtain ⟨e0, e1, y0, y1⟩ := HLH3.out.mid HA.out.1
      clear ho4 hg4 hat4 d0' d1' z0' z1' c3
      generalize hl4 : ss.length + 1 = l4 at *
      have HL4 := hid hl4
      clear hl4
      go_wp2_with fail
      have HH4 := hid HA.out.2
      clear HA e0 e1 y0 y1 HLH3
      generalize w4.setCell ⟨w.heap.size, 0, none⟩ (.slice a4 l4 c4) = w5 at *
      obtain ⟨d0, d1, z0, z1⟩ := HH4.out.cells
      have k5 := (HH4.out.bel.cell (p := ⟨b, off, none⟩) hbw).trans HK0.out
      have HH5 := hid (HH4.out.below (((Below.refl _ w5).alloc (Nat.le_refl _) (.cells #[.string kb] 9)).drew))
      have HCE : Hid (((w5.alloc (.cells #[.string kb] 9)).drew).cell? ⟨w5.heap.size, 0, none⟩ = some (.string kb)) := cell_new w5 _ _
      obtain ⟨-, d1a, -, z1a⟩ := HH5.out.cells
      have hfl : fs.length ≤ 4 := by rw [← HSF.out]; omega
      have hi0 : (0 : Int) < (r.length : Int) := by omega
      go_region_law (refine stepApT _ (by rfl) (.tmp 26) (.tmp 31) (by rfl) (w.heap.size + 1) (.slice fa fs.length fc) fs (by simp [Act.eval]) HH5.out.fst kb w5.heap.size (by simp [Act.eval]) HCE.out (by omega) HH5.out.lt ?_; intro v6 w6 ho6 hg6 hat6; obtain ⟨a6, c6, rfl⟩ := ho6.shape; generalize hl6 : (fs ++ [kb]).length = l6 at *; clear hl6; have HB := hid (HH5.out.apF ho6 hg6 hat6); obtain ⟨d0', d1', z0', z1'⟩ := HH5.out.mid HB.out.1; clear ho6 hg6 hat6)
      all_goals
        have hi3 : (0 : Int) ≤ (n : Int) := by omega
        have hi4 : (n : Int) ≤ (r.length : Int) := by omega
        have e1 : ∀ w, (Op.stringOp .add body ⟨sec.toArray⟩).run Try.prog w = .ok (.string (body ++ ⟨sec.toArray⟩)) w := fun w => run_string_add_sum w _ _ (by omega)
        go_wp2_with fail
        go_roundw
        case rel =>
          obtain ⟨q, hq⟩ := HHD.out
          obtain ⟨s1, s2, s3⟩ := leaf_step r kb _ q hq n HN.out sec HSEC.out
          refine ⟨r.drop n, _, ss ++ [sec.length], fs ++ [kb], _, _, items_drop2 HIA.out hbw hcap1 hcap2 n, rfl, HB.out.2, by rw [List.length_drop]; omega, fun z hz => HRS.out z (List.mem_of_mem_drop hz), by rw [List.length_append, List.length_append, HSF.out]; rfl, ?_, ?_, ?_, ?_, ?_⟩
          · intro f hf
            rcases List.mem_append.1 hf with h | h
            · exact HFS.out f h
            · rw [List.mem_singleton.1 h]; exact hfsz
          · have := HMANY.out
            rw [List.length_append, ← this, s3]; simp; omega
          · rw [ByteArray.size_append', hzs, List.length_append]; simp; omega
          · rw [lists_snoc2, Pg.heads_snoc _ _ _ _ (by rw [HSF.out]; simp [lists]), ← HHE.out, s1, List.append_assoc]
          · rw [← HBA.out, s2]; simp
        case measure => simp; omega
    · have hr1 : r = [] := List.length_eq_zero_iff.1 (by omega)
      subst hr1
      have HE1 : Hid (Pg.heads ss (lists fs) = Pg.entries (Pg.many l.length) (plain l)) := by
        show _ = _; rw [← HHE.out]; simp [Pg.many, Pg.entries]
      have HE2 : Hid (body.data.toList = Pg.bases (Pg.many l.length) (plain l)) := by
        show _ = _; rw [← HBA.out]; simp [Pg.many, Pg.bases]
      have HE3 : Hid (ss.length = Pg.many l.length) := by
        show _ = _; rw [← HMANY.out]; simp [Pg.many]
      have hfl : fs.length ≤ 4 := by rw [← HSF.out]; omega
      have HIL := hid (HLH.out.isLH (by omega) (by omega))
      go_wp2_with fail
      refine (headWrite_any _ ss fs _ HIL.out HSF.out hfl HFS.out).mono ?_
      rintro r2 w2 ⟨rfl, hb2⟩
      have HB2 := hid (HBEL.out.trans (hb2.mono (by omega)))
      have hhl : (Pg.headW ss (lists fs)).length ≤ 200 := by
        have hh := Pg.heads_len ss (lists fs) (by rw [HSF.out]; simp [lists]) (by intro k hk; simp only [lists, List.mem_map] at hk; obtain ⟨f, hf, rfl⟩ := hk; rw [len_size]; exact HFS.out f hf)
        unfold Pg.headW; rw [Pg.seal_len]; simp only [List.length_append, Pg.low_len, List.length_replicate, hh]; simp; omega
      have HLF : Hid (Pg.headW ss (lists fs) ++ body.data.toList = Pg.leaf (plain l)) := by
        show _ = _; unfold Pg.headW Pg.leaf
        rw [show (plain l).length = l.length by simp [plain], HE1.out, HE2.out, HE3.out]
      generalize Pg.headW ss (lists fs) = hw at *
      have hzz := size_mk hw
      have e1 : ∀ w, (Op.stringOp .add ⟨hw.toArray⟩ body).run Try.prog w = .ok (.string (⟨hw.toArray⟩ ++ body)) w := fun w => run_string_add_sum w _ _ (by omega)
      clear hb2
      go_wp2_with fail
      go_ret
      exact ⟨ret_str (by rw [← HLF.out]; simp), HB2.out⟩
end Go.Proofs.Ytolgpnaoaodepaa
