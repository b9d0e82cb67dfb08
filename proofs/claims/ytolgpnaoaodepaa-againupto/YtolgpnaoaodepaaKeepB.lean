/- The walk of siltkeep's Again. -/
import Derived.Test.YtolgpnaoaodepaaKeepA
namespace Go.Proofs.Ytolgpnaoaodepaa
open Go.RowKit

theorem spread_res (l : List UInt8) : (Sq.spread l = none ∧ spreadS l = ⟨#[]⟩ ∧ spreadE l = 2) ∨ ∃ u, Sq.spread l = some u ∧ spreadS l = ⟨u.toArray⟩ ∧ spreadE l = 0 := by
  unfold spreadS spreadE
  cases Sq.spread l with
  | none => exact .inl ⟨rfl, rfl, rfl⟩
  | some u => exact .inr ⟨u, rfl, rfl, rfl⟩
set_option maxHeartbeats 2000000 in
set_option maxRecDepth 20000 in
theorem again_any (text : ByteArray) (times : Int) (packed : ByteArray) (w : World) (h1 : -9223372036854775808 ≤ times) (h2 : times ≤ 9223372036854775807) (ht : text.size ≤ 2000000) (hp : packed.size ≤ 2000000) :
    Calls Try.prog 3 #[.string text, .int .i64 times, .string packed] w fun r w' => r = .returned (.bool true) ∧ Below w.heap.size w w' := by
  go_enter Try.func3, Try.ntmps3
  go_wp2_with fail
  refine (head_any _).mono ?_
  rintro r w1 ⟨rfl, hb1⟩
  have HB1 := hid hb1
  clear hb1
  have hpk := pk_lt times 4 (by decide)
  go_wp2_with fail
  go_loopw [8, 9] (fun s i wr => ∃ (k : Nat) (sb : ByteArray), k ≤ 4 ∧ i = .int .i64 k ∧ s = .string sb ∧ sb.size ≤ 2000600 ∧ Below w.heap.size w wr) (fun _ i _ => 4 - (intOf i).toNat)
  case atStart => exact ⟨0, text, by omega, rfl, rfl, by omega, HB1.out⟩
  case round =>
    clear HB1
    obtain ⟨k, sb, hk, rfl, rfl, hsb, hb⟩ := hrel
    have HB := hid hb
    have hsz := hb.size
    clear hb
    have CPK := hid (pick_any times 4 wr h1 h2 (by decide) (by decide))
    generalize pk times 4 = p at *
    by_cases hgo : k < p ∧ sb.size < 600
    · obtain ⟨hg1, hg2⟩ := hgo
      have e1 : ∀ w, (Op.stringOp .add sb text).run Try.prog w = .ok (.string (sb ++ text)) w := fun w => run_string_add_sum w _ _ (by omega)
      go_wp2_with fail
      refine CPK.out.mono ?_
      rintro r w2 ⟨rfl, rfl⟩
      have hd1 : decide ((k : Int) < (p : Int)) = true := by simp; omega
      go_wp2_with fail
      go_roundw
      case rel => exact ⟨k + 1, sb ++ text, by omega, by go_num, rfl, by rw [ByteArray.size_append']; omega, HB.out⟩
      case measure => simp [intOf]; omega
    · have HSQ := hid (Sq.spread_squeeze sb.data.toList)
      have hss := Sq.squeeze_short sb.data.toList
      rw [len_size] at hss
      have hor : p ≤ k ∨ (k < p ∧ 600 ≤ sb.size) := by omega
      clear hgo
      go_wp2_with fail
      refine CPK.out.mono ?_
      rintro r w2 ⟨rfl, rfl⟩
      clear CPK
      rcases hor with hq | ⟨hq, hq2⟩
      all_goals
        go_wp2_with fail
        refine (siltSqueeze_any sb _ (by omega)).mono ?_
        rintro r w3 ⟨rfl, hb3⟩
        have HB3 := hid (HB.out.trans (hb3.mono hsz))
        have hs3 := HB3.out.size
        clear hb3
        generalize Sq.squeeze sb.data.toList = sq at *
        have hzq := size_mk sq
        have CSP : Hid (∀ W, Calls Try.prog 9 #[.string ⟨sq.toArray⟩] W fun r w' => r = .returned (.tuple #[.string sb, .int .i64 0]) ∧ Below W.heap.size W w') := fun W => by
          have := siltSpread_any ⟨sq.toArray⟩ W (by rw [size_mk]; omega)
          rw [show (⟨sq.toArray⟩ : ByteArray).data.toList = sq from rfl] at this
          rcases spread_res sq with ⟨hn, _⟩ | ⟨u, hu, e1, e2⟩
          · rw [HSQ.out] at hn; simp at hn
          · rw [HSQ.out] at hu
            simp only [Option.some.injEq] at hu
            rw [e1, e2, ← hu, mk_data] at this
            exact this
        go_wp2_with fail
        refine (CSP.out w3).mono ?_
        rintro r w4 ⟨rfl, hb4⟩
        have HB4 := hid (HB3.out.trans (hb4.mono hs3))
        have hs4 := HB4.out.size
        clear hb4 CSP
        have hle : ((sq.length : Int)) ≤ (sb.size : Int) + ((sb.size : Int) + 127) / 128 := by omega
        have hle2 : ¬ ((sb.size : Int) + ((sb.size : Int) + 127) / 128 < (sq.length : Int)) := by omega
        go_wp2_with fail
        refine (siltSpread_any packed _ (by omega)).mono ?_
        rintro r w5 ⟨rfl, hb5⟩
        have HB5 := hid (HB4.out.trans (hb5.mono hs4))
        have hs5 := HB5.out.size
        clear hb5
        rcases spread_res packed.data.toList with ⟨hn, e1, e2⟩ | ⟨u, hu, e1, e2⟩
        · rw [e1, e2]
          clear e1 e2 hn
          go_wp2_with fail
          go_ret
          exact ⟨rfl, HB5.out⟩
        · have hq3 := Sq.squeeze_spread hu
          have hul : u.length ≤ 132000000 := by
            unfold Sq.spread at hu
            split at hu
            · rename_i t ht'
              have := Sq.decode_le _ _ _ ht'
              rw [len_size] at this
              split at hu
              · simp at hu; subst hu; simp at this; omega
              · simp at hu
            · simp at hu
          rw [e1, e2]
          have CSQ : Hid (∀ W, Calls Try.prog 8 #[.string ⟨u.toArray⟩] W fun r w' => r = .returned (.string packed) ∧ Below W.heap.size W w') := fun W => by
            have := siltSqueeze_any ⟨u.toArray⟩ W (by rw [size_mk]; omega)
            rw [show (⟨u.toArray⟩ : ByteArray).data.toList = u from rfl, hq3, mk_data] at this
            exact this
          clear e1 e2 hu hq3
          go_wp2_with fail
          refine (CSQ.out w5).mono ?_
          rintro r w6 ⟨rfl, hb6⟩
          have HB6 := hid (HB5.out.trans (hb6.mono hs5))
          clear hb6
          go_wp2_with fail
          go_ret
          exact ⟨rfl, HB6.out⟩
end Go.Proofs.Ytolgpnaoaodepaa
