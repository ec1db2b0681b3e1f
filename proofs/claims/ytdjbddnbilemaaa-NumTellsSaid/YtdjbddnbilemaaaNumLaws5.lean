/-
  The walk of the statement NumBack: the law returns true and writes nothing that was there; the statement itself is proved in a text of its own.
-/
import Derived.Test.YtdjbddnbilemaaaNumLaws4
namespace Go.Proofs.Ytdjbddnbilemaaa.Num
open Go.RowKit Go.Proofs.Ytdjbddnbilemaaa.Base Go.Proofs.Ytdjbddnbilemaaa.NumM

set_option maxHeartbeats 1600000 in
set_option maxRecDepth 100000 in
theorem back_long (n m wide : Int) (l : List UInt8) (v : Value) (B : Nat) (w : World) (hv : Rd w B v (bs l)) (hbig : l.length < 9223372036854775808) (hl : 60 < l.length) :
    Calls Try.prog 4 #[.int .i64 n, .int .i64 m, .int .i64 wide, v] w fun e w' => e = .returned (.bool true) ∧ Below w.heap.size w w' := by
  obtain ⟨A, cap, rfl, _, _⟩ := hv
  rw [bs_length]
  have g0 : decide ((60 : Int) < (l.length : Int)) = true := by simp; omega
  go_enter Try.func4, Try.ntmps4
  go_wp2_with fail
  refine (awake_any w).mono ?_
  rintro e w1 ⟨rfl, hb1⟩
  have Hb1 := Lib.hid hb1
  clear hb1
  go_wp2_with fail
  go_ret
  exact ⟨rfl, Hb1.out⟩

set_option maxHeartbeats 1600000 in
set_option maxRecDepth 100000 in
/-- The first one has no bytes. -/
theorem back_no (n m wide : Int) (l : List UInt8) (v : Value) (w : World) (hn : n < 9223372036854775808) (hm : m < 9223372036854775808) (hv : Rd w w.heap.size v (bs l)) (hl : l.length ≤ 60) (hp : putOk n wide = false) :
    Calls Try.prog 4 #[.int .i64 n, .int .i64 m, .int .i64 wide, v] w fun e w' => e = .returned (.bool true) ∧ Below w.heap.size w w' := by
  have Hv := Lib.hid hv
  obtain ⟨A, cap, rfl, _, _⟩ := hv
  rw [bs_length] at Hv ⊢
  have g0 : decide ((60 : Int) < (l.length : Int)) = false := by simp; omega
  have Hp := Lib.hid hp
  clear hp
  go_enter Try.func4, Try.ntmps4
  go_wp2_with fail
  refine (awake_any w).mono ?_
  rintro e w1 ⟨rfl, hb1⟩
  have Hb1 := Lib.hid hb1
  clear hb1
  go_wp2_with fail
  refine (put_no n wide w1 hn Hp.out).mono ?_
  rintro e w2 ⟨rfl, hb2⟩
  have Hb2 := Lib.hid (Hb1.out.trans (hb2.mono Hb1.out.size))
  clear hb2 Hb1
  go_wp2_with fail
  refine (put_some m wide w2 hm).mono ?_
  rintro e w3 ⟨q, rfl, _, hb3⟩
  have Hb3 := Lib.hid (Hb2.out.trans (hb3.mono Hb2.out.size))
  clear hb3 Hb2
  go_wp2_with fail
  refine (get_no [] _ 0 w3 (Rd.nil _ _) (Nat.zero_le _) (by simp) (fun N hN => by have := hN.two; simp at this)).mono ?_
  rintro e w4 ⟨rfl, hb4⟩
  have Hb4 := Lib.hid (Hb3.out.trans (hb4.mono Hb3.out.size))
  clear hb4 Hb3
  go_wp2_with fail
  by_cases hex : ∃ N, IsNum l N
  · obtain ⟨N, hN⟩ := hex
    have HN := Lib.hid hN
    refine (get_yes l N _ _ w4 (Hv.out.keep Hb4.out) Hb4.out.size hN).mono ?_
    rintro e w5 ⟨rfl, hb5⟩
    have Hb5 := Lib.hid (Hb4.out.trans (hb5.mono Hb4.out.size))
    clear hb5 Hb4 hN
    go_wp2_with fail
    refine (put_yes (N : Int) (l.length : Int) w5 (by have := HN.out.small; omega) (putOk_num HN.out)).mono ?_
    rintro e w6 ⟨r, rfl, hr, hb6⟩
    have Hb6 := Lib.hid (Hb5.out.trans (hb6.mono Hb5.out.size))
    have hcr := str_of w6 _ _ _ hr.rd
    rw [Int.toNat_natCast, Int.toNat_natCast, HN.out.put] at hcr
    have hcb := str_of w6 _ _ _ (Hv.out.keep Hb6.out)
    have g1 : decide (0 ≤ (N : Int)) = true := by simp
    clear hb6 Hb5 hr
    go_wp2_with fail
    go_ret
    exact ⟨rfl, Hb6.out⟩
  · refine (get_no l _ _ w4 (Hv.out.keep Hb4.out) Hb4.out.size (by omega) (fun N hN => hex ⟨N, hN⟩)).mono ?_
    rintro e w5 ⟨rfl, hb5⟩
    have Hb5 := Lib.hid (Hb4.out.trans (hb5.mono Hb4.out.size))
    clear hb5 Hb4 hex
    go_wp2_with fail
    refine (put_some 0 (l.length : Int) w5 (by omega)).mono ?_
    rintro e w6 ⟨r, rfl, _, hb6⟩
    have Hb6 := Lib.hid (Hb5.out.trans (hb6.mono Hb5.out.size))
    clear hb6 Hb5
    generalize putOk 0 (l.length : Int) = ok
    go_wp2_with fail
    go_ret
    exact ⟨rfl, Hb6.out⟩

set_option maxHeartbeats 3200000 in
set_option maxRecDepth 100000 in
/-- The first one has bytes. -/
theorem back_yes (N D : Nat) (m : Int) (l : List UInt8) (v : Value) (w : World) (hn : N < 9223372036854775808) (hm : m < 9223372036854775808) (hv : Rd w w.heap.size v (bs l)) (hl : l.length ≤ 60) (h1 : 1 ≤ D) (h19 : D ≤ 19) (hf : N < 256 ^ D) :
    Calls Try.prog 4 #[.int .i64 (N : Int), .int .i64 m, .int .i64 ((D : Int) + 1), v] w fun e w' => e = .returned (.bool true) ∧ Below w.heap.size w w' := by
  have Hv := Lib.hid hv
  obtain ⟨A, cap, rfl, _, _⟩ := hv
  rw [bs_length] at Hv ⊢
  have g0 : decide ((60 : Int) < (l.length : Int)) = false := by simp; omega
  have g2 : decide ((N : Int) < 0) = false := by simp
  have hnum : IsNum (putL (D + 1) N) N := isNum_put (by omega) (by omega) hn (by rw [Nat.add_sub_cancel]; exact hf)
  have Hnum := Lib.hid hnum
  have Hf := Lib.hid hf
  clear hf hnum
  go_enter Try.func4, Try.ntmps4
  go_wp2_with fail
  refine (awake_any w).mono ?_
  rintro e w1 ⟨rfl, hb1⟩
  have Hb1 := Lib.hid hb1
  clear hb1
  go_wp2_with fail
  refine (put_nat N D w1 hn h1 h19 Hf.out).mono ?_
  rintro e w2 ⟨g, cap2, rfl, hp, _, _, hb2⟩
  have Hb2 := Lib.hid (Hb1.out.trans (hb2.mono Hb1.out.size))
  have Hp2 := Lib.hid hp
  clear hb2 Hb1 hp
  go_wp2_with fail
  refine (put_some m ((D : Int) + 1) w2 hm).mono ?_
  rintro e w3 ⟨q, rfl, hq, hb3⟩
  have Hb3 := Lib.hid (Hb2.out.trans (hb3.mono Hb2.out.size))
  have Hp3 := Lib.hid (Hp2.out.keep hb3)
  have Hq3 := Lib.hid hq
  clear hb3 Hb2 Hp2 hq
  go_wp2_with fail
  refine (get_yes (putL (D + 1) N) N _ _ w3 Hp3.out.rd (Nat.le_refl _) Hnum.out).mono ?_
  rintro e w4 ⟨rfl, hb4⟩
  have Hb4 := Lib.hid (Hb3.out.trans (hb4.mono Hb3.out.size))
  have Hp4 := Lib.hid (Hp3.out.keep hb4)
  cases hc : putOk m ((D : Int) + 1)
  · clear hb4 Hb3 Hp3 Hq3 Hp4 hc
    go_wp2_with fail
    by_cases hex : ∃ Y, IsNum l Y
    · obtain ⟨Y, hN⟩ := hex
      have HN := Lib.hid hN
      refine (get_yes l Y _ _ w4 (Hv.out.keep Hb4.out) Hb4.out.size hN).mono ?_
      rintro e w5 ⟨rfl, hb5⟩
      have Hb5 := Lib.hid (Hb4.out.trans (hb5.mono Hb4.out.size))
      clear hb5 Hb4 hN
      go_wp2_with fail
      refine (put_yes (Y : Int) (l.length : Int) w5 (by have := HN.out.small; omega) (putOk_num HN.out)).mono ?_
      rintro e w6 ⟨r, rfl, hr, hb6⟩
      have Hb6 := Lib.hid (Hb5.out.trans (hb6.mono Hb5.out.size))
      have hcr := str_of w6 _ _ _ hr.rd
      rw [Int.toNat_natCast, Int.toNat_natCast, HN.out.put] at hcr
      have hcb := str_of w6 _ _ _ (Hv.out.keep Hb6.out)
      have g1 : decide (0 ≤ (Y : Int)) = true := by simp
      clear hb6 Hb5 hr
      go_wp2_with fail
      go_ret
      exact ⟨rfl, Hb6.out⟩
    · refine (get_no l _ _ w4 (Hv.out.keep Hb4.out) Hb4.out.size (by omega) (fun Y hN => hex ⟨Y, hN⟩)).mono ?_
      rintro e w5 ⟨rfl, hb5⟩
      have Hb5 := Lib.hid (Hb4.out.trans (hb5.mono Hb4.out.size))
      clear hb5 Hb4 hex
      go_wp2_with fail
      refine (put_some 0 (l.length : Int) w5 (by omega)).mono ?_
      rintro e w6 ⟨r, rfl, _, hb6⟩
      have Hb6 := Lib.hid (Hb5.out.trans (hb6.mono Hb5.out.size))
      clear hb6 Hb5
      generalize putOk 0 (l.length : Int) = ok
      go_wp2_with fail
      go_ret
      exact ⟨rfl, Hb6.out⟩
  · have Hq4 := Lib.hid ((Hq3.out hc).keep hb4)
    obtain ⟨m0, _, _, mf⟩ := putOk_iff.1 hc
    obtain ⟨M, rfl⟩ := Int.eq_ofNat_of_zero_le m0
    have hcp := str_of w4 _ _ _ Hp4.out.rd
    have hcq := str_of w4 _ _ _ Hq4.out.rd
    rw [Int.toNat_natCast, show ((D : Int) + 1).toNat = D + 1 by omega] at hcq
    rw [Int.toNat_natCast, show ((D : Int) + 1 - 1).toNat = D by omega] at mf
    by_cases hNM : N = M
    · subst hNM
      generalize putL (D + 1) N = x at hcp hcq
      clear hb4 Hb3 Hp3 Hq3 Hp4 hc Hq4 mf m0
      go_wp2_with fail
      by_cases hex : ∃ Y, IsNum l Y
      · obtain ⟨Y, hN⟩ := hex
        have HN := Lib.hid hN
        refine (get_yes l Y _ _ w4 (Hv.out.keep Hb4.out) Hb4.out.size hN).mono ?_
        rintro e w5 ⟨rfl, hb5⟩
        have Hb5 := Lib.hid (Hb4.out.trans (hb5.mono Hb4.out.size))
        clear hb5 Hb4 hN
        go_wp2_with fail
        refine (put_yes (Y : Int) (l.length : Int) w5 (by have := HN.out.small; omega) (putOk_num HN.out)).mono ?_
        rintro e w6 ⟨r, rfl, hr, hb6⟩
        have Hb6 := Lib.hid (Hb5.out.trans (hb6.mono Hb5.out.size))
        have hcr := str_of w6 _ _ _ hr.rd
        rw [Int.toNat_natCast, Int.toNat_natCast, HN.out.put] at hcr
        have hcb := str_of w6 _ _ _ (Hv.out.keep Hb6.out)
        have g1 : decide (0 ≤ (Y : Int)) = true := by simp
        clear hb6 Hb5 hr
        go_wp2_with fail
        go_ret
        exact ⟨rfl, Hb6.out⟩
      · refine (get_no l _ _ w4 (Hv.out.keep Hb4.out) Hb4.out.size (by omega) (fun Y hN => hex ⟨Y, hN⟩)).mono ?_
        rintro e w5 ⟨rfl, hb5⟩
        have Hb5 := Lib.hid (Hb4.out.trans (hb5.mono Hb4.out.size))
        clear hb5 Hb4 hex
        go_wp2_with fail
        refine (put_some 0 (l.length : Int) w5 (by omega)).mono ?_
        rintro e w6 ⟨r, rfl, _, hb6⟩
        have Hb6 := Lib.hid (Hb5.out.trans (hb6.mono Hb5.out.size))
        clear hb6 Hb5
        generalize putOk 0 (l.length : Int) = ok
        go_wp2_with fail
        go_ret
        exact ⟨rfl, Hb6.out⟩
    · have hle : (putL (D + 1) N == putL (D + 1) M) = false := str_ne (fun e => hNM (putL_inj (by omega) (by rw [Nat.add_sub_cancel]; exact Hf.out) (by rw [Nat.add_sub_cancel]; exact mf) e))
      have hie : ((N : Int) == (M : Int)) = false := by simp; omega
      generalize putL (D + 1) N = x at hcp hle
      generalize putL (D + 1) M = y at hcq hle
      clear hb4 Hb3 Hp3 Hq3 Hp4 hc Hq4 mf m0 hNM
      go_wp2_with fail
      by_cases hex : ∃ Y, IsNum l Y
      · obtain ⟨Y, hN⟩ := hex
        have HN := Lib.hid hN
        refine (get_yes l Y _ _ w4 (Hv.out.keep Hb4.out) Hb4.out.size hN).mono ?_
        rintro e w5 ⟨rfl, hb5⟩
        have Hb5 := Lib.hid (Hb4.out.trans (hb5.mono Hb4.out.size))
        clear hb5 Hb4 hN
        go_wp2_with fail
        refine (put_yes (Y : Int) (l.length : Int) w5 (by have := HN.out.small; omega) (putOk_num HN.out)).mono ?_
        rintro e w6 ⟨r, rfl, hr, hb6⟩
        have Hb6 := Lib.hid (Hb5.out.trans (hb6.mono Hb5.out.size))
        have hcr := str_of w6 _ _ _ hr.rd
        rw [Int.toNat_natCast, Int.toNat_natCast, HN.out.put] at hcr
        have hcb := str_of w6 _ _ _ (Hv.out.keep Hb6.out)
        have g1 : decide (0 ≤ (Y : Int)) = true := by simp
        clear hb6 Hb5 hr
        go_wp2_with fail
        go_ret
        exact ⟨rfl, Hb6.out⟩
      · refine (get_no l _ _ w4 (Hv.out.keep Hb4.out) Hb4.out.size (by omega) (fun Y hN => hex ⟨Y, hN⟩)).mono ?_
        rintro e w5 ⟨rfl, hb5⟩
        have Hb5 := Lib.hid (Hb4.out.trans (hb5.mono Hb4.out.size))
        clear hb5 Hb4 hex
        go_wp2_with fail
        refine (put_some 0 (l.length : Int) w5 (by omega)).mono ?_
        rintro e w6 ⟨r, rfl, _, hb6⟩
        have Hb6 := Lib.hid (Hb5.out.trans (hb6.mono Hb5.out.size))
        clear hb6 Hb5
        generalize putOk 0 (l.length : Int) = ok
        go_wp2_with fail
        go_ret
        exact ⟨rfl, Hb6.out⟩

theorem back_walk (n m wide : Int) (l : List UInt8) (v : Value) (w : World) (hn : n < 9223372036854775808) (hm : m < 9223372036854775808) (hv : Rd w w.heap.size v (bs l)) (hbig : l.length < 9223372036854775808) :
    Calls Try.prog 4 #[.int .i64 n, .int .i64 m, .int .i64 wide, v] w fun e w' => e = .returned (.bool true) ∧ Below w.heap.size w w' := by
  by_cases hl : 60 < l.length
  · exact back_long n m wide l v _ w hv hbig hl
  · cases hp : putOk n wide
    · exact back_no n m wide l v w hn hm hv (by omega) hp
    · obtain ⟨h0, h2, h20, hf⟩ := putOk_iff.1 hp
      obtain ⟨N, rfl⟩ := Int.eq_ofNat_of_zero_le h0
      obtain ⟨D, hD⟩ : ∃ D : Nat, wide = (D : Int) + 1 := ⟨(wide - 1).toNat, by omega⟩
      subst hD
      rw [Int.toNat_natCast, show ((D : Int) + 1 - 1).toNat = D by omega] at hf
      exact back_yes N D m l v w (by omega) hm hv (by omega) (by omega) (by omega) hf
end Go.Proofs.Ytdjbddnbilemaaa.Num
