/-
  The walks of the statements NumWide, NumDigits, NumMarks, NumOrder and NumShort: each law returns true and writes nothing that was there; the statements themselves are proved in texts of their own.
-/
import Derived.Test.YtdjbddnbilemaaaNumAwake
namespace Go.Proofs.Ytdjbddnbilemaaa.Num
open Go.RowKit Go.Proofs.Ytdjbddnbilemaaa.Base Go.Proofs.Ytdjbddnbilemaaa.NumM

theorem ret_true {b : Bool} (h : b = true) : Ending.returned (.bool b) = .returned (.bool true) := by rw [h]
theorem putOk_wider {n wide : Int} (h : putOk n wide = true) (h19 : wide ≤ 19) : putOk n (wide + 1) = true := by
  obtain ⟨h0, h2, _, hf⟩ := putOk_iff.1 h
  refine putOk_iff.2 ⟨h0, by omega, by omega, Nat.lt_of_lt_of_le hf (Nat.pow_le_pow_right (by omega) (by omega))⟩
theorem putOk_nine {n wide : Int} (h0 : 0 ≤ n) (hn : n < 9223372036854775808) (h9 : 9 ≤ wide) (h20 : wide ≤ 20) : putOk n wide = true := by
  refine putOk_iff.2 ⟨h0, by omega, h20, ?_⟩
  have h1 : (256 : Nat) ^ 8 ≤ 256 ^ (wide - 1).toNat := Nat.pow_le_pow_right (by omega) (by omega)
  have h2 : (256 : Nat) ^ 8 = 18446744073709551616 := by decide
  omega

set_option maxHeartbeats 1600000 in
theorem wide_walk (n wide : Int) (w : World) (hn : n < 9223372036854775808) :
    Calls Try.prog 5 #[.int .i64 n, .int .i64 wide] w fun e w' => e = .returned (.bool true) ∧ Below w.heap.size w w' := by
  by_cases h2 : wide < 2
  · go_enter Try.func5, Try.ntmps5
    go_wp2_with fail
    refine (awake_any w).mono ?_
    rintro e w1 ⟨rfl, hb1⟩
    have Hb1 := Lib.hid hb1
    clear hb1
    go_wp2_with fail
    go_ret
    exact ⟨rfl, Hb1.out⟩
  · by_cases h19 : 19 < wide
    · go_enter Try.func5, Try.ntmps5
      go_wp2_with fail
      refine (awake_any w).mono ?_
      rintro e w1 ⟨rfl, hb1⟩
      have Hb1 := Lib.hid hb1
      clear hb1
      go_wp2_with fail
      go_ret
      exact ⟨rfl, Hb1.out⟩
    · cases hp : putOk n wide
      · have hneg : Hid (9 ≤ wide → n < 0) := Lib.hid fun h9 => by
          by_cases h0 : 0 ≤ n
          · rw [putOk_nine h0 hn h9 (by omega)] at hp; cases hp
          · omega
        have Hp := Lib.hid hp
        clear hp
        go_enter Try.func5, Try.ntmps5
        go_wp2_with fail
        refine (awake_any w).mono ?_
        rintro e w1 ⟨rfl, hb1⟩
        have Hb1 := Lib.hid hb1
        clear hb1
        go_wp2_with fail
        refine (put_no n wide w1 hn Hp.out).mono ?_
        rintro e w2 ⟨rfl, hb2⟩
        have Hb2 := Lib.hid (Hb1.out.trans (hb2.mono Hb1.out.size))
        clear hb2 Hb1
        go_wp2_with fail
        have hany : Calls Try.prog 13 #[.int .i64 n, .int .i64 (wide + 1)] w2 fun e w' => (∃ v b, e = .returned (.tuple #[v, .bool b])) ∧ Below w2.heap.size w2 w' := by
          cases hq : putOk n (wide + 1)
          · exact (put_no n (wide + 1) w2 hn hq).mono fun _ _ h => ⟨⟨_, _, h.1⟩, h.2⟩
          · exact (put_yes n (wide + 1) w2 hn hq).mono fun _ _ ⟨v, h1, _, h2⟩ => ⟨⟨v, _, h1⟩, h2⟩
        refine hany.mono ?_
        rintro e w3 ⟨⟨v, b, rfl⟩, hb3⟩
        have Hb3 := Lib.hid (Hb2.out.trans (hb3.mono Hb2.out.size))
        clear hb3 Hb2 hany
        by_cases h9 : wide < 9
        · by_cases h0 : 0 ≤ n
          · go_wp2_with fail
            go_ret
            exact ⟨rfl, Hb3.out⟩
          · go_wp2_with fail
            go_ret
            exact ⟨rfl, Hb3.out⟩
        · have h0 : n < 0 := hneg.out (by omega)
          go_wp2_with fail
          go_ret
          exact ⟨ret_true (by simp; omega), Hb3.out⟩
      · have Hq := Lib.hid (putOk_wider hp (by omega))
        have h0 : 0 ≤ n := (putOk_iff.1 hp).1
        have Hp := Lib.hid hp
        clear hp
        go_enter Try.func5, Try.ntmps5
        go_wp2_with fail
        refine (awake_any w).mono ?_
        rintro e w1 ⟨rfl, hb1⟩
        have Hb1 := Lib.hid hb1
        clear hb1
        go_wp2_with fail
        refine (put_yes n wide w1 hn Hp.out).mono ?_
        rintro e w2 ⟨v, rfl, _, hb2⟩
        have Hb2 := Lib.hid (Hb1.out.trans (hb2.mono Hb1.out.size))
        clear hb2 Hb1
        go_wp2_with fail
        refine (put_yes n (wide + 1) w2 hn Hq.out).mono ?_
        rintro e w3 ⟨v', rfl, _, hb3⟩
        have Hb3 := Lib.hid (Hb2.out.trans (hb3.mono Hb2.out.size))
        clear hb3 Hb2
        by_cases h9 : wide < 9
        · go_wp2_with fail
          go_ret
          exact ⟨rfl, Hb3.out⟩
        · go_wp2_with fail
          go_ret
          exact ⟨rfl, Hb3.out⟩
end Go.Proofs.Ytdjbddnbilemaaa.Num
