/-
  The walks of the statements NumDigits (all inputs) and NumOrder: each law returns true and writes nothing that was there; the statements themselves are proved in texts of their own.
-/
import Derived.Test.YtdjbddnbilemaaaNumLaws2
namespace Go.Proofs.Ytdjbddnbilemaaa.Num
open Go.RowKit Go.Proofs.Ytdjbddnbilemaaa.Base Go.Proofs.Ytdjbddnbilemaaa.NumM

/-- A number that has just one digit more: its first digit is no 0. -/
theorem first_digit {D N : Nat} (h : ¬ N < 8 ^ D) (h2 : N < 8 ^ (D + 1)) : ∃ s : ByteArray, s = ⟨(octs (D + 1) N).toArray⟩ ∧ ∃ h : 0 < s.size, s[0].toNat ≠ 48 := by
  refine ⟨_, rfl, by simp [ByteArray.size, octs_length], ?_⟩
  have e : octs (D + 1) N = oc (N / 8 ^ D % 8) :: octs D N := octs_cons _ _
  have hx : (oc (N / 8 ^ D % 8)).toNat = 48 + N / 8 ^ D % 8 := oc_toNat (Nat.mod_lt _ (by omega))
  have hd : N / 8 ^ D < 8 := by
    rw [Nat.div_lt_iff_lt_mul (Nat.pow_pos (by omega))]
    rw [Nat.pow_succ] at h2
    omega
  have hp := Nat.div_pos (Nat.le_of_not_lt h) (Nat.pow_pos (n := D) (show 0 < 8 by omega))
  rw [Nat.mod_eq_of_lt hd] at hx
  have e2 : ({ data := (octs (D + 1) N).toArray } : ByteArray)[0]'(by simp [ByteArray.size, octs_length]) = oc (N / 8 ^ D % 8) := by
    show (octs (D + 1) N)[0]'_ = _
    simp [e]
  rw [e2, Nat.mod_eq_of_lt hd, hx]
  omega

set_option maxHeartbeats 1600000 in
set_option maxRecDepth 100000 in
theorem digits_out (n digits : Int) (w : World) (h : digits < 1 ∨ 19 < digits) :
    Calls Try.prog 6 #[.int .i64 n, .int .i64 digits] w fun e w' => e = .returned (.bool true) ∧ Below w.heap.size w w' := by
  rcases h with h | h
  · go_enter Try.func6, Try.ntmps6
    go_wp2_with fail
    refine (awake_any w).mono ?_
    rintro e w1 ⟨rfl, hb1⟩
    have Hb1 := Lib.hid hb1
    clear hb1
    go_wp2_with fail
    go_ret
    exact ⟨rfl, Hb1.out⟩
  · go_enter Try.func6, Try.ntmps6
    go_wp2_with fail
    refine (awake_any w).mono ?_
    rintro e w1 ⟨rfl, hb1⟩
    have Hb1 := Lib.hid hb1
    clear hb1
    go_wp2_with fail
    go_ret
    exact ⟨rfl, Hb1.out⟩

set_option maxHeartbeats 1600000 in
set_option maxRecDepth 100000 in
/-- Neither has an answer. -/
theorem digits_none (n digits : Int) (w : World) (hn : n < 9223372036854775808) (h1 : 1 ≤ digits) (h19 : digits ≤ 19) (ho1 : octOk n digits = false) (ho2 : octOk n (digits + 1) = false) :
    Calls Try.prog 6 #[.int .i64 n, .int .i64 digits] w fun e w' => e = .returned (.bool true) ∧ Below w.heap.size w w' := by
  have Ho1 := Lib.hid ho1
  have Ho2 := Lib.hid ho2
  clear ho1 ho2
  have hl1 : decide (digits < 1) = false := by simp; omega
  have hl2 : decide (19 < digits) = false := by simp; omega
  by_cases h0 : n < 0
  · have h0' : decide (n < 0) = true := by simpa using h0
    go_enter Try.func6, Try.ntmps6
    go_wp2_with fail
    refine (awake_any w).mono ?_
    rintro e w1 ⟨rfl, hb1⟩
    have Hb1 := Lib.hid hb1
    clear hb1
    go_wp2_with fail
    refine (oct_no _ _ w1 hn Ho1.out).mono ?_
    rintro e w2 ⟨rfl, hb2⟩
    have Hb2 := Lib.hid (Hb1.out.trans (hb2.mono Hb1.out.size))
    clear hb2 Hb1
    go_wp2_with fail
    refine (oct_no _ _ w2 hn Ho2.out).mono ?_
    rintro e w3 ⟨rfl, hb3⟩
    have Hb3 := Lib.hid (Hb2.out.trans (hb3.mono Hb2.out.size))
    clear hb3 Hb2
    go_wp2_with fail
    go_ret
    exact ⟨rfl, Hb3.out⟩
  · have h0' : decide (n < 0) = false := by simpa using h0
    go_enter Try.func6, Try.ntmps6
    go_wp2_with fail
    refine (awake_any w).mono ?_
    rintro e w1 ⟨rfl, hb1⟩
    have Hb1 := Lib.hid hb1
    clear hb1
    go_wp2_with fail
    refine (oct_no _ _ w1 hn Ho1.out).mono ?_
    rintro e w2 ⟨rfl, hb2⟩
    have Hb2 := Lib.hid (Hb1.out.trans (hb2.mono Hb1.out.size))
    clear hb2 Hb1
    go_wp2_with fail
    refine (oct_no _ _ w2 hn Ho2.out).mono ?_
    rintro e w3 ⟨rfl, hb3⟩
    have Hb3 := Lib.hid (Hb2.out.trans (hb3.mono Hb2.out.size))
    clear hb3 Hb2
    go_wp2_with fail
    go_ret
    exact ⟨rfl, Hb3.out⟩

set_option maxHeartbeats 1600000 in
set_option maxRecDepth 100000 in
/-- It has just one digit more. -/
theorem digits_more (N D : Nat) (w : World) (hn : N < 9223372036854775808) (h1 : 1 ≤ D) (h19 : D ≤ 19) (hf : ¬ N < 8 ^ D) (hf2 : N < 8 ^ (D + 1)) :
    Calls Try.prog 6 #[.int .i64 (N : Int), .int .i64 (D : Int)] w fun e w' => e = .returned (.bool true) ∧ Below w.heap.size w w' := by
  obtain ⟨t, ht, ht0, ht1⟩ := first_digit hf hf2
  have ho1 : octOk (N : Int) (D : Int) = false := by rw [octOk_nat h1 (by omega)]; simpa using hf
  have ho2 : octOk (N : Int) ((D : Int) + 1) = true := by
    rw [show ((D : Int) + 1) = ((D + 1 : Nat) : Int) by omega, octOk_nat (by omega) (by omega)]
    simpa using hf2
  have Ho1 := Lib.hid ho1
  have Ho2 := Lib.hid ho2
  have Ht := Lib.hid ht
  have Ht1 := Lib.hid ht1
  clear ho1 ho2 hf hf2 ht ht1
  have hl1 : decide ((D : Int) < 1) = false := by simp; omega
  have hl2 : decide ((19 : Int) < D) = false := by simp; omega
  have h0' : decide ((N : Int) < 0) = false := by simp
  go_enter Try.func6, Try.ntmps6
  go_wp2_with fail
  refine (awake_any w).mono ?_
  rintro e w1 ⟨rfl, hb1⟩
  have Hb1 := Lib.hid hb1
  clear hb1
  go_wp2_with fail
  refine (oct_no _ _ w1 (by omega) Ho1.out).mono ?_
  rintro e w2 ⟨rfl, hb2⟩
  have Hb2 := Lib.hid (Hb1.out.trans (hb2.mono Hb1.out.size))
  clear hb2 Hb1
  go_wp2_with fail
  refine (oct_yes _ _ w2 (by omega) Ho2.out).mono ?_
  rintro e w3 ⟨rfl, hb3⟩
  have Hb3 := Lib.hid (Hb2.out.trans (hb3.mono Hb2.out.size))
  clear hb3 Hb2
  rw [Int.toNat_natCast, show ((D : Int) + 1).toNat = D + 1 by omega, ← Ht.out]
  have hne : ((t[0].toNat : Int) != 48) = true := by
    have := Ht1.out
    simp
    omega
  have hte : t.toList.isEmpty = false := by
    rw [ByteArray.toList_eq]
    cases hl : t.data.toList with
    | nil =>
      have h3 : t.size = t.data.toList.length := by rw [Array.length_toList]; rfl
      rw [hl, List.length_nil] at h3
      exact absurd ht0 (by omega)
    | cons _ _ => rfl
  go_wp2_with fail
  go_ret
  exact ⟨rfl, Hb3.out⟩

theorem digits_walk (n digits : Int) (w : World) (hn : n < 9223372036854775808) :
    Calls Try.prog 6 #[.int .i64 n, .int .i64 digits] w fun e w' => e = .returned (.bool true) ∧ Below w.heap.size w w' := by
  by_cases hr : digits < 1 ∨ 19 < digits
  · exact digits_out n digits w hr
  · cases ho1 : octOk n digits
    · cases ho2 : octOk n (digits + 1)
      · exact digits_none n digits w hn (by omega) (by omega) ho1 ho2
      · obtain ⟨h0, _, _, hf2⟩ := octOk_iff.1 ho2
        obtain ⟨N, rfl⟩ := Int.eq_ofNat_of_zero_le h0
        obtain ⟨D, rfl⟩ := Int.eq_ofNat_of_zero_le (show 0 ≤ digits by omega)
        rw [octOk_nat (by omega) (by omega), decide_eq_false_iff_not] at ho1
        rw [Int.toNat_natCast, show ((D : Int) + 1).toNat = D + 1 by omega] at hf2
        exact digits_more N D w (by omega) (by omega) (by omega) ho1 hf2
    · obtain ⟨h0, _, _, hf⟩ := octOk_iff.1 ho1
      obtain ⟨N, rfl⟩ := Int.eq_ofNat_of_zero_le h0
      obtain ⟨D, rfl⟩ := Int.eq_ofNat_of_zero_le (show 0 ≤ digits by omega)
      rw [Int.toNat_natCast, Int.toNat_natCast] at hf
      exact digits_few N D w (by omega) (by omega) (by omega) hf

/-! ### The order of digits -/
theorem less_cons (a b : UInt8) (x y : List UInt8) : (Op.bytesLess (a :: x) (b :: y) || (a :: x) == (b :: y)) = (decide (a < b) || (a == b && (Op.bytesLess x y || x == y))) := by
  rw [Op.bytesLess, List.cons_beq_cons]
  cases decide (a < b) <;> cases a == b <;> cases Op.bytesLess x y <;> cases x == y <;> rfl
theorem octs_order : ∀ (d n m : Nat) (l : List UInt8), n % 8 ^ d ≤ m % 8 ^ d → (Op.bytesLess (octs d n ++ l) (octs d m ++ l) || (octs d n ++ l) == (octs d m ++ l)) = true
  | 0, n, m, l, _ => by simp [octs, digs]
  | d + 1, n, m, l, h => by
    rw [octs_cons, octs_cons, List.cons_append, List.cons_append, less_cons]
    have ha := Nat.mod_lt (n / 8 ^ d) (show 0 < 8 by omega)
    have hb := Nat.mod_lt (m / 8 ^ d) (show 0 < 8 by omega)
    have hk : 0 < 8 ^ d := Nat.pow_pos (by omega)
    rw [Nat.pow_succ, Nat.mod_mul, Nat.mod_mul] at h
    have h1 := Nat.mod_lt n hk
    have h2 := Nat.mod_lt m hk
    rcases Nat.lt_trichotomy (n / 8 ^ d % 8) (m / 8 ^ d % 8) with h3 | h3 | h3
    · have : oc (n / 8 ^ d % 8) < oc (m / 8 ^ d % 8) := by
        rw [UInt8.lt_iff_toNat_lt, oc_toNat ha, oc_toNat hb]; omega
      simp [this]
    · rw [h3] at h ⊢
      have ih := octs_order d n m l (by omega)
      rw [ih]
      simp
    · exfalso
      obtain ⟨j, hj⟩ : ∃ j, n / 8 ^ d % 8 = m / 8 ^ d % 8 + 1 + j := ⟨n / 8 ^ d % 8 - m / 8 ^ d % 8 - 1, by omega⟩
      rw [hj, Nat.mul_add, Nat.mul_add, Nat.mul_one] at h
      omega

theorem plain_putOk {n wide : Int} (h : plainOk n wide = true) : putOk n wide = true := by
  simp only [plainOk, Bool.and_eq_true] at h
  obtain ⟨h2, h20⟩ := widOk_iff.1 h.1
  exact octOk_putOk h2 h20 h.2

set_option maxHeartbeats 1600000 in
set_option maxRecDepth 100000 in
theorem order_out (n m wide : Int) (w : World) (h : n < 0 ∨ m < n) :
    Calls Try.prog 8 #[.int .i64 n, .int .i64 m, .int .i64 wide] w fun e w' => e = .returned (.bool true) ∧ Below w.heap.size w w' := by
  by_cases h0 : n < 0
  · go_enter Try.func8, Try.ntmps8
    go_wp2_with fail
    refine (awake_any w).mono ?_
    rintro e w1 ⟨rfl, hb1⟩
    have Hb1 := Lib.hid hb1
    clear hb1
    go_wp2_with fail
    go_ret
    exact ⟨rfl, Hb1.out⟩
  · have h1 : m < n := by omega
    clear h
    go_enter Try.func8, Try.ntmps8
    go_wp2_with fail
    refine (awake_any w).mono ?_
    rintro e w1 ⟨rfl, hb1⟩
    have Hb1 := Lib.hid hb1
    clear hb1
    go_wp2_with fail
    go_ret
    exact ⟨rfl, Hb1.out⟩

/-- Put, whatever it answers. -/
theorem put_some (n wide : Int) (w : World) (hn : n < 9223372036854775808) :
    Calls Try.prog 13 #[.int .i64 n, .int .i64 wide] w fun e w' => ∃ v, e = .returned (.tuple #[v, .bool (putOk n wide)]) ∧ (putOk n wide = true → Own w' w.heap.size 5 v (bs (putL wide.toNat n.toNat))) ∧ Below w.heap.size w w' := by
  cases h : putOk n wide
  · exact (put_no n wide w hn h).mono fun _ _ hh => ⟨_, hh.1, fun e => (by cases e), hh.2⟩
  · exact (put_yes n wide w hn h).mono fun _ _ ⟨v, h1, h2, h3⟩ => ⟨v, h1, fun _ => h2, h3⟩

set_option maxHeartbeats 1600000 in
set_option maxRecDepth 100000 in
/-- The greater one is not plain. -/
theorem order_big (n m wide : Int) (w : World) (hm : m < 9223372036854775808) (h0 : 0 ≤ n) (h1 : n ≤ m) (hi : putOk m wide = true → putOk n wide = true) (hpl : plainOk m wide = false) :
    Calls Try.prog 8 #[.int .i64 n, .int .i64 m, .int .i64 wide] w fun e w' => e = .returned (.bool true) ∧ Below w.heap.size w w' := by
  have g0 : decide (n < 0) = false := by simp; omega
  have g1 : decide (m < n) = false := by simp; omega
  have Hi := Lib.hid hi
  have Hpl := Lib.hid hpl
  clear hi hpl
  go_enter Try.func8, Try.ntmps8
  go_wp2_with fail
  refine (awake_any w).mono ?_
  rintro e w1 ⟨rfl, hb1⟩
  have Hb1 := Lib.hid hb1
  clear hb1
  go_wp2_with fail
  refine (put_some n wide w1 (by omega)).mono ?_
  rintro e w2 ⟨p, rfl, _, hb2⟩
  have Hb2 := Lib.hid (Hb1.out.trans (hb2.mono Hb1.out.size))
  clear hb2 Hb1
  go_wp2_with fail
  refine (put_some m wide w2 hm).mono ?_
  rintro e w3 ⟨q, rfl, _, hb3⟩
  have Hb3 := Lib.hid (Hb2.out.trans (hb3.mono Hb2.out.size))
  clear hb3 Hb2
  cases hc : putOk m wide
  · clear hc
    go_wp2_with fail
    refine (plain_any m wide w3 hm).mono ?_
    rintro e w4 ⟨rfl, hb4⟩
    rw [Hpl.out]
    have Hb4 := Lib.hid (Hb3.out.trans (hb4.mono Hb3.out.size))
    clear hb4 Hb3
    go_wp2_with fail
    go_ret
    exact ⟨rfl, Hb4.out⟩
  · rw [Hi.out hc]
    clear hc
    go_wp2_with fail
    refine (plain_any m wide w3 hm).mono ?_
    rintro e w4 ⟨rfl, hb4⟩
    rw [Hpl.out]
    have Hb4 := Lib.hid (Hb3.out.trans (hb4.mono Hb3.out.size))
    clear hb4 Hb3
    go_wp2_with fail
    go_ret
    exact ⟨rfl, Hb4.out⟩

set_option maxHeartbeats 1600000 in
set_option maxRecDepth 100000 in
/-- Both are plain. -/
theorem order_small (n m wide : Int) (w : World) (hm : m < 9223372036854775808) (h0 : 0 ≤ n) (h1 : n ≤ m) (hpn : plainOk n wide = true) (hpm : plainOk m wide = true) (hle : (Op.bytesLess (putL wide.toNat n.toNat) (putL wide.toNat m.toNat) || putL wide.toNat n.toNat == putL wide.toNat m.toNat) = true) :
    Calls Try.prog 8 #[.int .i64 n, .int .i64 m, .int .i64 wide] w fun e w' => e = .returned (.bool true) ∧ Below w.heap.size w w' := by
  have g0 : decide (n < 0) = false := by simp; omega
  have g1 : decide (m < n) = false := by simp; omega
  have Hpn := Lib.hid hpn
  have Hpm := Lib.hid hpm
  have Hle := Lib.hid hle
  clear hpn hpm hle
  go_enter Try.func8, Try.ntmps8
  go_wp2_with fail
  refine (awake_any w).mono ?_
  rintro e w1 ⟨rfl, hb1⟩
  have Hb1 := Lib.hid hb1
  clear hb1
  go_wp2_with fail
  refine (put_yes n wide w1 (by omega) (plain_putOk Hpn.out)).mono ?_
  rintro e w2 ⟨p, rfl, hp, hb2⟩
  have Hb2 := Lib.hid (Hb1.out.trans (hb2.mono Hb1.out.size))
  have Hp2 := Lib.hid hp
  clear hb2 Hb1 hp
  go_wp2_with fail
  refine (put_yes m wide w2 hm (plain_putOk Hpm.out)).mono ?_
  rintro e w3 ⟨q, rfl, hq, hb3⟩
  have Hb3 := Lib.hid (Hb2.out.trans (hb3.mono Hb2.out.size))
  have Hp3 := Lib.hid (Hp2.out.keep hb3)
  have Hq3 := Lib.hid hq
  clear hb3 Hb2 hq Hp2
  go_wp2_with fail
  refine (plain_any m wide w3 hm).mono ?_
  rintro e w4 ⟨rfl, hb4⟩
  rw [Hpm.out]
  have Hb4 := Lib.hid (Hb3.out.trans (hb4.mono Hb3.out.size))
  have Hp4 := Lib.hid (Hp3.out.keep hb4)
  have Hq4 := Lib.hid (Hq3.out.keep hb4)
  clear hb4 Hb3 Hp3 Hq3
  go_wp2_with fail
  refine (plain_any n wide w4 (by omega)).mono ?_
  rintro e w5 ⟨rfl, hb5⟩
  rw [Hpn.out]
  have hcp := str_of w5 _ _ _ (Hp4.out.keep hb5).rd
  have hcq := str_of w5 _ _ _ (Hq4.out.keep hb5).rd
  have hle := Hle.out
  have Hb5 := Lib.hid (Hb4.out.trans (hb5.mono Hb4.out.size))
  clear hb5 Hb4 Hp4 Hq4 Hle
  generalize putL wide.toNat n.toNat = x at hcp hle
  generalize putL wide.toNat m.toNat = y at hcq hle
  go_wp2_with fail
  go_ret
  exact ⟨ret_true (by simp), Hb5.out⟩

theorem order_walk (n m wide : Int) (w : World) (hn : n < 9223372036854775808) (hm : m < 9223372036854775808) :
    Calls Try.prog 8 #[.int .i64 n, .int .i64 m, .int .i64 wide] w fun e w' => e = .returned (.bool true) ∧ Below w.heap.size w w' := by
  by_cases hr : n < 0 ∨ m < n
  · exact order_out n m wide w hr
  · have h0 : 0 ≤ n := by omega
    have h1 : n ≤ m := by omega
    cases hpm : plainOk m wide
    · refine order_big n m wide w hm h0 h1 (fun h => ?_) hpm
      obtain ⟨_, a, b, c⟩ := putOk_iff.1 h
      exact putOk_iff.2 ⟨h0, a, b, by omega⟩
    · have hpm' := hpm
      simp only [plainOk, Bool.and_eq_true] at hpm'
      obtain ⟨_, a, b, c⟩ := octOk_iff.1 hpm'.2
      have hon : octOk n (wide - 1) = true := octOk_iff.2 ⟨h0, a, b, by omega⟩
      have hpn : plainOk n wide = true := by simp [plainOk, hpm'.1, hon]
      obtain ⟨D, hD⟩ : ∃ D : Nat, wide = (D : Int) + 1 := ⟨(wide - 1).toNat, by omega⟩
      subst hD
      rw [show ((D : Int) + 1 - 1).toNat = D by omega] at c
      refine order_small n m _ w hm h0 h1 hpn hpm ?_
      rw [show ((D : Int) + 1).toNat = D + 1 by omega, putL_few (by rw [Nat.add_sub_cancel]; omega), putL_few (by rw [Nat.add_sub_cancel]; omega), Nat.add_sub_cancel]
      exact octs_order D _ _ _ (by rw [Nat.mod_eq_of_lt (by omega), Nat.mod_eq_of_lt c]; omega)
end Go.Proofs.Ytdjbddnbilemaaa.Num
