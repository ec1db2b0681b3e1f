/-
  The walks of the statements NumMarks and NumDigits: each law returns true and writes nothing that was there; the statements themselves are proved in texts of their own.
-/
import Derived.Test.YtdjbddnbilemaaaNumLaws
namespace Go.Proofs.Ytdjbddnbilemaaa.Num
open Go.RowKit Go.Proofs.Ytdjbddnbilemaaa.Base Go.Proofs.Ytdjbddnbilemaaa.NumM

/-- Put, over natural numbers, its slice written out; the width is d + 1. -/
theorem put_nat (n d : Nat) (w : World) (hn : n < 9223372036854775808) (h1 : 1 ≤ d) (h19 : d ≤ 19) (hf : n < 256 ^ d) :
    Calls Try.prog 13 #[.int .i64 (n : Int), .int .i64 ((d : Int) + 1)] w fun e w' => ∃ g cap, e = .returned (.tuple #[.slice (some ⟨g, 0, none⟩) (d + 1) cap, .bool true]) ∧
      Own w' w.heap.size 5 (.slice (some ⟨g, 0, none⟩) (d + 1) cap) (bs (putL (d + 1) n)) ∧ w.heap.size ≤ g ∧ g < w'.heap.size ∧ Below w.heap.size w w' := by
  refine (put_yes n ((d : Int) + 1) w (by omega) (putOk_iff.2 ⟨by omega, by omega, by omega, by rw [Int.toNat_natCast, show ((d : Int) + 1 - 1).toNat = d by omega]; exact hf⟩)).mono ?_
  rintro e w' ⟨v, rfl, hv, hb⟩
  rw [Int.toNat_natCast, show ((d : Int) + 1).toNat = d + 1 by omega] at hv
  have hl : (bs (putL (d + 1) n)).length = d + 1 := by rw [bs_length, putL_length (by omega)]
  obtain ⟨g, cap, hv', h1, h3⟩ := hv.form (by intro h; rw [h] at hl; simp at hl)
  rw [hl] at hv'
  subst hv'
  exact ⟨g, cap, rfl, hv, h1, h3, hb⟩
theorem putOk_nat {n W : Nat} (h2 : 2 ≤ W) (h20 : W ≤ 20) : putOk (n : Int) (W : Int) = decide (n < 256 ^ (W - 1)) := by
  unfold putOk
  rw [Int.toNat_natCast, show ((W : Int) - 1).toNat = W - 1 by omega]
  by_cases h : n < 256 ^ (W - 1)
  · simp only [h, and_true, decide_true, decide_eq_true_eq]; omega
  · simp [h]
theorem octOk_nat {n d : Nat} (h1 : 1 ≤ d) (h20 : d ≤ 20) : octOk (n : Int) (d : Int) = decide (n < 8 ^ d) := by
  unfold octOk
  rw [Int.toNat_natCast, Int.toNat_natCast]
  by_cases h : n < 8 ^ d
  · simp only [h, and_true, decide_true, decide_eq_true_eq]; omega
  · simp [h]

set_option maxHeartbeats 1600000 in
set_option maxRecDepth 100000 in
theorem marks_walk (n wide : Int) (w : World) (hn : n < 9223372036854775808) :
    Calls Try.prog 9 #[.int .i64 n, .int .i64 wide] w fun e w' => e = .returned (.bool true) ∧ Below w.heap.size w w' := by
  cases hp : putOk n wide
  · have Hp := Lib.hid hp
    clear hp
    go_enter Try.func9, Try.ntmps9
    go_wp2_with fail
    refine (awake_any w).mono ?_
    rintro e w1 ⟨rfl, hb1⟩
    have Hb1 := Lib.hid hb1
    clear hb1
    go_wp2_with fail
    refine (put_no n wide w1 hn Hp.out).mono ?_
    rintro e w2 ⟨rfl, hb2⟩
    have Hb2 := Lib.hid (Hb1.out.trans (hb2.mono Hb1.out.size))
    clear hb2 Hb1
    go_wp2_with fail
    go_ret
    exact ⟨rfl, Hb2.out⟩
  · obtain ⟨h0, h2, h20, hf⟩ := putOk_iff.1 hp
    obtain ⟨N, rfl⟩ := Int.eq_ofNat_of_zero_le h0
    obtain ⟨D, hD⟩ : ∃ D : Nat, wide = (D : Int) + 1 := ⟨(wide - 1).toNat, by omega⟩
    subst hD
    rw [Int.toNat_natCast, show ((D : Int) + 1 - 1).toNat = D by omega] at hf
    have h1 : 1 ≤ D := by omega
    have h19 : D ≤ 19 := by omega
    have Hf := Lib.hid hf
    clear hp hf h2 h20
    go_enter Try.func9, Try.ntmps9
    go_wp2_with fail
    refine (awake_any w).mono ?_
    rintro e w1 ⟨rfl, hb1⟩
    have Hb1 := Lib.hid hb1
    clear hb1
    go_wp2_with fail
    refine (put_nat N D w1 (by omega) h1 h19 Hf.out).mono ?_
    rintro e w2 ⟨g, cap, rfl, hv, hg1, hg2, hb2⟩
    have Hb2 := Lib.hid (Hb1.out.trans (hb2.mono Hb1.out.size))
    have Hv := Lib.hid hv
    clear hb2 Hb1 hv hg1 hg2
    have hl1 : decide ((D : Int) + 1 < 2) = false := by simp; omega
    have hl2 : ¬ ((D : Int) + 1 < 2) := by omega
    go_wp2_with fail
    by_cases hfew : N < 8 ^ D
    · have ho : octOk (N : Int) (D : Int) = true := by
        rw [octOk_nat (by omega) (by omega)]; simpa using hfew
      have hpl : plainOk (N : Int) ((D : Int) + 1) = true := by simp only [plainOk, show ((D : Int) + 1 - 1) = D by omega, ho, widOk, Bool.and_true, decide_eq_true_eq]; omega
      refine (oct_yes _ _ w2 hn ho).mono ?_
      rintro e w3 ⟨rfl, hb3⟩
      rw [Int.toNat_natCast, Int.toNat_natCast]
      have Hb3 := Lib.hid (Hb2.out.trans (hb3.mono Hb2.out.size))
      have Hv3 := Lib.hid (Hv.out.keep hb3)
      have Hpl := Lib.hid hpl
      have Hfew := Lib.hid hfew
      clear hb3 Hb2 Hv hpl ho hfew
      go_wp2_with fail
      refine (plain_any _ _ w3 hn).mono ?_
      rintro e w4 ⟨rfl, hb4⟩
      rw [Hpl.out]
      have hcv := str_of w4 _ _ _ (Hv3.out.keep hb4).rd
      rw [putL_few Hfew.out, Nat.add_sub_cancel] at hcv
      have hadd := run_string_add_lists (P := Try.prog) w4 (octs D N) [0] (by rw [octs_length]; omega) (by simp)
      generalize octs D N = q at hcv hadd ⊢
      have Hb4 := Lib.hid (Hb3.out.trans (hb4.mono Hb3.out.size))
      clear hb4 Hb3 Hv3
      go_wp2_with fail
      go_ret
      exact ⟨rfl, Hb4.out⟩
    · have ho : octOk (N : Int) (D : Int) = false := by
        rw [octOk_nat (by omega) (by omega)]; simpa using hfew
      have hpl : plainOk (N : Int) ((D : Int) + 1) = false := by simp only [plainOk, show ((D : Int) + 1 - 1) = D by omega, ho, Bool.and_false]
      refine (oct_no _ _ w2 hn ho).mono ?_
      rintro e w3 ⟨rfl, hb3⟩
      have Hb3 := Lib.hid (Hb2.out.trans (hb3.mono Hb2.out.size))
      have Hv3 := Lib.hid (Hv.out.keep hb3)
      have Hpl := Lib.hid hpl
      have Hfew := Lib.hid hfew
      clear hb3 Hb2 Hv hpl ho hfew
      go_wp2_with fail
      refine (plain_any _ _ w3 hn).mono ?_
      rintro e w4 ⟨rfl, hb4⟩
      rw [Hpl.out]
      have hc0 : w4.cell? ⟨g, 0, none⟩ = some (.int .u8 128) := by
        have h := (Hv3.out.keep hb4).rd
        rw [putL_many Hfew.out] at h
        obtain ⟨b, o, c, e, _, _, hu⟩ := h.at_ (j := 0) (by simp [bs])
        injection e with e
        injection e with e
        injection e with e1 e2
        subst e1 e2
        exact hu 0 _ rfl
      have Hb4 := Lib.hid (Hb3.out.trans (hb4.mono Hb3.out.size))
      clear hb4 Hb3 Hv3
      go_wp2_with fail
      go_ret
      exact ⟨rfl, Hb4.out⟩

theorem ba_eq {a b : ByteArray} (h : a.data.toList = b.data.toList) : a = b := by
  cases a; cases b
  simp only at h
  rw [ByteArray.mk.injEq]
  exact Array.toList_inj.1 h

/-- What is asked of a string of digits, and of the one with a digit more. -/
structure Digs (s t : ByteArray) (D : Nat) : Prop where
  size : s.size = D
  each : ∀ k (h : k < s.size), 48 ≤ s[k].toNat ∧ s[k].toNat ≤ 55
  more : t = ⟨#[48]⟩ ++ s
theorem digs_octs {D N : Nat} (h : N < 8 ^ D) : Digs ⟨(octs D N).toArray⟩ ⟨(octs (D + 1) N).toArray⟩ D := by
  have hl := octs_length D N
  refine ⟨by simpa [ByteArray.size] using hl, fun k hk => ?_, ?_⟩
  · have hk' : k < (octs D N).length := by simpa [ByteArray.size] using hk
    have := octs_mem (List.getElem_mem hk')
    exact this
  · apply ba_eq
    have e : octs (D + 1) N = 48 :: octs D N := digs_zero_cons 8 oc D N h
    rw [ByteArray.data_append, e]
    simp

set_option maxHeartbeats 1600000 in
set_option maxRecDepth 100000 in
theorem digits_few (N D : Nat) (w : World) (hn : N < 9223372036854775808) (h1 : 1 ≤ D) (h19 : D ≤ 19) (hf : N < 8 ^ D) :
    Calls Try.prog 6 #[.int .i64 (N : Int), .int .i64 (D : Int)] w fun e w' => e = .returned (.bool true) ∧ Below w.heap.size w w' := by
  have Hd := Lib.hid (digs_octs hf)
  have ho1 : octOk (N : Int) (D : Int) = true := by rw [octOk_nat h1 (by omega)]; simpa using hf
  have ho2 : octOk (N : Int) ((D : Int) + 1) = true := by
    rw [show ((D : Int) + 1) = ((D + 1 : Nat) : Int) by omega, octOk_nat (by omega) (by omega)]
    simp only [decide_eq_true_eq]
    exact Nat.lt_of_lt_of_le hf (Nat.pow_le_pow_right (by omega) (by omega))
  have Hpl : Hid (plainOk (N : Int) ((D : Int) + 1) = true) := Lib.hid (by simp only [plainOk, show ((D : Int) + 1 - 1) = D by omega, ho1, widOk, Bool.and_true, decide_eq_true_eq]; omega)
  have Ho1 := Lib.hid ho1
  have Ho2 := Lib.hid ho2
  clear ho1 ho2 hf
  go_enter Try.func6, Try.ntmps6
  go_wp2_with fail
  refine (awake_any w).mono ?_
  rintro e w1 ⟨rfl, hb1⟩
  have Hb1 := Lib.hid hb1
  clear hb1
  go_wp2_with fail
  refine (oct_yes _ _ w1 (by omega) Ho1.out).mono ?_
  rintro e w2 ⟨rfl, hb2⟩
  have Hb2 := Lib.hid (Hb1.out.trans (hb2.mono Hb1.out.size))
  clear hb2 Hb1
  rw [Int.toNat_natCast, Int.toNat_natCast]
  go_wp2_with fail
  refine (oct_yes _ _ w2 (by omega) Ho2.out).mono ?_
  rintro e w3 ⟨rfl, hb3⟩
  have Hb3 := Lib.hid (Hb2.out.trans (hb3.mono Hb2.out.size))
  clear hb3 Hb2
  rw [Int.toNat_natCast, show ((D : Int) + 1).toNat = D + 1 by omega]
  generalize ({ data := (octs D N).toArray } : ByteArray) = s at Hd ⊢
  generalize ({ data := (octs (D + 1) N).toArray } : ByteArray) = t at Hd ⊢
  have hsz := Hd.out.size
  subst hsz
  obtain rfl := Hd.out.more
  have Hadd := Lib.hid (run_string_add_sum (P := Try.prog) w3 ⟨#[48]⟩ s (by rw [show (({ data := #[48] } : ByteArray)).size = 1 from rfl]; omega))
  go_wp2_with fail
  go_loop [10] (fun i => ∃ k : Nat, k ≤ s.size ∧ i = .int .i64 k) (fun i => s.size - (intOf i).toNat)
  case atStart => exact ⟨0, Nat.zero_le _, rfl⟩
  case round =>
    obtain ⟨k, hk, rfl⟩ := hrel
    by_cases hlt : k < s.size
    · obtain ⟨e1, e2⟩ := Hd.out.each k hlt
      have e3 : ¬ ((s[k].toNat : Int) < 48) := by omega
      have e4 : ¬ (55 < (s[k].toNat : Int)) := by omega
      have e5 : decide ((s[k].toNat : Int) < 48) = false := by simpa using e3
      have e6 : decide (55 < (s[k].toNat : Int)) = false := by simpa using e4
      clear e1 e2
      go_wp2_with fail
      go_round
      case rel => exact ⟨k + 1, by omega, by go_num⟩
      case measure => simp [intOf]; omega
    · obtain rfl : k = s.size := by omega
      have hadd := Hadd.out
      go_wp2_with fail
      refine (plain_any _ _ w3 (by omega)).mono ?_
      rintro e w4 ⟨rfl, hb4⟩
      rw [Hpl.out]
      have Hb4 := Lib.hid (Hb3.out.trans (hb4.mono Hb3.out.size))
      clear hb4 Hb3
      go_wp2_with fail
      go_ret
      exact ⟨rfl, Hb4.out⟩
end Go.Proofs.Ytdjbddnbilemaaa.Num
