/-
  Contracts of package num, more: guess and Get: no statement is proved here.
-/
import Derived.Test.YtihigbaaajmjlaaNumPut
namespace Go.Proofs.Ytihigbaaajmjlaa.Num
open Go.RowKit Go.Proofs.Ytihigbaaajmjlaa.Base Go.Proofs.Ytihigbaaajmjlaa.NumM

theorem step_fold (b N m : Nat) (g y : Int) (hN : N < 9223372036854775808) (hg : g = ((N / b ^ (m + 1) : Nat) : Int)) (hy : y = ((N / b ^ m % b : Nat) : Int)) : wrap64 (wrap64 (g * (b : Int)) + y) = ((N / b ^ m : Nat) : Int) ∧ wrap64 (g * (b : Int)) + y = ((N / b ^ m : Nat) : Int) := by
  have h1 := div_step b N m
  have h2 := Nat.div_le_self N (b ^ m)
  subst hg hy
  have e : ((N / b ^ (m + 1) : Nat) : Int) * (b : Int) = ((N / b ^ (m + 1) * b : Nat) : Int) := by rw [Int.natCast_mul]
  rw [e]
  generalize N / b ^ (m + 1) * b = p at *
  generalize N / b ^ m % b = q at *
  generalize N / b ^ m = r at *
  rw [IntWalk.wrap64_in (p : Int) ⟨by omega, by omega⟩, IntWalk.wrap64_in _ ⟨by omega, by omega⟩]
  exact ⟨by omega, by omega⟩
theorem wrap64_range (x : Int) : -9223372036854775808 ≤ wrap64 x ∧ wrap64 x < 9223372036854775808 := by unfold wrap64; omega
theorem step_fold_oct (N m : Nat) (g y : Int) (hN : N < 9223372036854775808) (hg : g = ((N / 8 ^ (m + 1) : Nat) : Int)) (hy : y = ((48 + N / 8 ^ m % 8 : Nat) : Int)) (hs : N < 4611686018427387904) : wrap64 (wrap64 (wrap64 (g * 8) + y) - 48) = ((N / 8 ^ m : Nat) : Int) := by
  have h1 := div_step 8 N m
  have h2 := Nat.div_le_self N (8 ^ m)
  subst hg hy
  have e : ((N / 8 ^ (m + 1) : Nat) : Int) * 8 = ((N / 8 ^ (m + 1) * 8 : Nat) : Int) := by omega
  rw [e]
  have h3 := Nat.mod_lt (N / 8 ^ m) (show 0 < 8 by omega)
  generalize N / 8 ^ (m + 1) * 8 = p at *
  generalize N / 8 ^ m % 8 = q at *
  generalize N / 8 ^ m = r at *
  rw [IntWalk.wrap64_in (p : Int) ⟨by omega, by omega⟩, IntWalk.wrap64_in ((p : Int) + _) ⟨by omega, by omega⟩, IntWalk.wrap64_in _ ⟨by omega, by omega⟩]
  omega
theorem first_is {l : List UInt8} (h : 0 < l.length) (hy : (128 : Int) = (l[0].toNat : Int)) : l[0]? = some 128 := by
  rw [List.getElem?_eq_getElem h]
  congr 1
  apply UInt8.toNat_inj.1
  simp only [UInt8.reduceToNat]
  omega
theorem first_not {l : List UInt8} {y : Int} (h : 0 < l.length) (hy : y = (l[0].toNat : Int)) (hn : ¬ y = 128) : l[0]? ≠ some 128 := by
  rw [List.getElem?_eq_getElem h]
  intro e
  injection e with e
  rw [e] at hy
  exact hn hy
theorem few_small {n d : Nat} (h : n < 8 ^ d) (hd : d ≤ 19) : n < 4611686018427387904 := by
  have : 8 ^ d ≤ 8 ^ 19 := Nat.pow_le_pow_right (by omega) hd
  have e : 8 ^ 19 = 144115188075855872 := by decide
  omega

set_option maxRecDepth 100000 in
set_option maxHeartbeats 800000 in
theorem guess_any (l : List UInt8) (v : Value) (B : Nat) (w : World) (hv : Rd w B v (bs l)) (h1 : 1 ≤ l.length) (h20 : l.length ≤ 20) :
    Calls Try.prog 102 #[v] w fun e w' => w = w' ∧ ∃ g : Int, e = .returned (.int .i64 g) ∧ g < 9223372036854775808 ∧ ∀ N, IsNum l N → g = N := by
  obtain ⟨b, o, cap, rfl, _, _, hc⟩ := hv.at_ (j := 0) (by rw [bs_length]; omega)
  rw [bs_length]
  have Hc : Hid (∀ j (hj : j < l.length), w.cell? ⟨b, o + j, none⟩ = some (.int .u8 (l[j].toNat : Int))) := Lib.hid fun j hj => hc j _ (bs_at hj)
  clear hc
  have hc0 : w.cell? ⟨b, o, none⟩ = some (.int .u8 (l[0].toNat : Int)) := Hc.out 0 (by omega)
  obtain ⟨n, hn⟩ : ∃ n, l.length = n + 1 := ⟨l.length - 1, by omega⟩
  obtain ⟨y0, hy0⟩ : ∃ y : Int, y = (l[0].toNat : Int) := ⟨_, rfl⟩
  have hy0l : 0 ≤ y0 := by omega
  have hy0h : y0 ≤ 255 := by have := l[0].toNat_lt; omega
  rw [← hy0] at hc0
  have hn19 : n ≤ 19 := by omega
  have Hy0 := Lib.hid hy0
  have Hn := Lib.hid hn
  rw [hn]
  clear hy0 hn hv
  by_cases hm : y0 = 128
  · subst hm
    go_enter Try.func102, Try.ntmps102
    go_wp2_with fail
    go_loop [3, 13] (fun r i => ∃ (k : Nat) (g : Int), k ≤ n ∧ i = .int .i64 k ∧ r = .int .i64 g ∧ -9223372036854775808 ≤ g ∧ g < 9223372036854775808 ∧ Hid (∀ N, IsNum l N → g = ((N / 256 ^ (n - k) : Nat) : Int)))
      (fun _ i => n - (intOf i).toNat)
    case atStart =>
      refine ⟨0, 0, by omega, rfl, rfl, by omega, by omega, Lib.hid fun N hN => ?_⟩
      have := hN.fits
      rw [Hn.out, Nat.add_sub_cancel] at this
      rw [Nat.sub_zero, Nat.div_eq_of_lt this]
      rfl
    case round =>
      obtain ⟨k, g, hk, rfl, rfl, hg0, hg1, Hg⟩ := hrel
      by_cases hlt : k < n
      · have hck : w.cell? ⟨b, o + (k + 1), none⟩ = some (.int .u8 ((l[k + 1]'(by have := Hn.out; omega)).toNat : Int)) := Hc.out (k + 1) (by have := Hn.out; omega)
        obtain ⟨y, hy⟩ : ∃ y : Int, y = ((l[k + 1]'(by have := Hn.out; omega)).toNat : Int) := ⟨_, rfl⟩
        have hyl : 0 ≤ y := by omega
        have hyh : y ≤ 255 := by have := (l[k + 1]'(by have := Hn.out; omega)).toNat_lt; omega
        rw [← hy] at hck
        have Hy := Lib.hid hy
        clear hy
        go_wp2_with fail
        go_round
        case rel =>
          refine ⟨k + 1, wrap64 (wrap64 (g * 256) + y), by omega, by go_num, rfl, (wrap64_range _).1, (wrap64_range _).2, Lib.hid fun N hN => ?_⟩
          have hl := Hn.out
          refine (step_fold 256 N (n - (k + 1)) g y hN.small ?_ ?_).1
          · rw [Hg.out N hN, show n - (k + 1) + 1 = n - k by omega]
          · rw [Hy.out, hN.mark_at (first_is (by omega) Hy0.out) (k := k) (by omega) (by omega), show l.length - 2 - k = n - (k + 1) by omega]
        case measure => simp [intOf]; omega
      · obtain rfl : k = n := by omega
        go_wp2_with fail
        go_ret
        refine ⟨rfl, g, rfl, hg1, fun N hN => ?_⟩
        rw [Hg.out N hN]
        simp
  · have hmb : (y0 == 128) = false := by simp; exact hm
    have Hm := Lib.hid hm
    clear hm
    go_enter Try.func102, Try.ntmps102
    go_wp2_with fail
    go_loop [3, 30] (fun r i => ∃ (k : Nat) (g : Int), k ≤ n ∧ i = .int .i64 k ∧ r = .int .i64 g ∧ -9223372036854775808 ≤ g ∧ g < 9223372036854775808 ∧ Hid (∀ N, IsNum l N → g = ((N / 8 ^ (n - k) : Nat) : Int)))
      (fun _ i => n - (intOf i).toNat)
    case atStart =>
      refine ⟨0, 0, by omega, rfl, rfl, by omega, by omega, Lib.hid fun N hN => ?_⟩
      have := (hN.few (first_not (by have := Hn.out; omega) Hy0.out Hm.out)).1
      rw [Hn.out, Nat.add_sub_cancel] at this
      rw [Nat.sub_zero, Nat.div_eq_of_lt this]
      rfl
    case round =>
      obtain ⟨k, g, hk, rfl, rfl, hg0, hg1, Hg⟩ := hrel
      by_cases hlt : k < n
      · have hck : w.cell? ⟨b, o + k, none⟩ = some (.int .u8 ((l[k]'(by have := Hn.out; omega)).toNat : Int)) := Hc.out k (by have := Hn.out; omega)
        obtain ⟨y, hy⟩ : ∃ y : Int, y = ((l[k]'(by have := Hn.out; omega)).toNat : Int) := ⟨_, rfl⟩
        have hyl : 0 ≤ y := by omega
        have hyh : y ≤ 255 := by have := (l[k]'(by have := Hn.out; omega)).toNat_lt; omega
        rw [← hy] at hck
        have Hy := Lib.hid hy
        clear hy
        go_wp2_with fail
        go_round
        case rel =>
          refine ⟨k + 1, wrap64 (wrap64 (wrap64 (g * 8) + y) - 48), by omega, by go_num, rfl, (wrap64_range _).1, (wrap64_range _).2, Lib.hid fun N hN => ?_⟩
          have hl := Hn.out
          have h0 := first_not (by omega) Hy0.out Hm.out
          refine step_fold_oct N (n - (k + 1)) g y hN.small ?_ ?_ (few_small (hN.few h0).1 (by omega))
          · rw [Hg.out N hN, show n - (k + 1) + 1 = n - k by omega]
          · rw [Hy.out, hN.few_at h0 (k := k) (by omega) (by omega), show l.length - 2 - k = n - (k + 1) by omega]
        case measure => simp [intOf]; omega
      · obtain rfl : k = n := by omega
        go_wp2_with fail
        go_ret
        refine ⟨rfl, g, rfl, hg1, fun N hN => ?_⟩
        rw [Hg.out N hN]
        simp

theorem widOk_len {l : List UInt8} (h2 : 2 ≤ l.length) (h20 : l.length ≤ 20) : widOk (l.length : Int) = true := widOk_iff.2 ⟨by omega, by omega⟩
theorem putOk_num {l : List UInt8} {N : Nat} (h : IsNum l N) : putOk (N : Int) (l.length : Int) = true := by
  have h2 := h.two
  have h20 := h.most
  refine putOk_iff.2 ⟨by omega, by omega, by omega, ?_⟩
  rw [Int.toNat_natCast, show ((l.length : Int) - 1).toNat = l.length - 1 by omega]
  exact h.fits

set_option maxRecDepth 100000 in
set_option maxHeartbeats 800000 in
theorem get_yes (l : List UInt8) (N : Nat) (v : Value) (B : Nat) (w : World) (hv : Rd w B v (bs l)) (hB : B ≤ w.heap.size) (hN : IsNum l N) :
    Calls Try.prog 84 #[v] w fun e w' => e = .returned (.tuple #[.int .i64 (N : Int), .bool true]) ∧ Below w.heap.size w w' := by
  have h2 := hN.two
  have h20 := hN.most
  have hs := hN.small
  have HN := Lib.hid hN
  have Hw := Lib.hid (widOk_len h2 h20)
  have Hp := Lib.hid (putOk_num hN)
  have Hv := Lib.hid hv
  obtain ⟨A, cap, rfl, hcap, _⟩ := hv
  rw [bs_length] at Hv hcap ⊢
  clear hN
  go_enter Try.func84, Try.ntmps84
  go_wp2_with fail
  refine (isWidth_yes _ _ Hw.out).mono ?_
  rintro e w' ⟨rfl, rfl⟩
  go_wp2_with fail
  refine (guess_any l _ _ _ (by have := Hv.out; exact this) (by omega) (by omega)).mono ?_
  rintro e w' ⟨rfl, g, rfl, hg, hgN⟩
  obtain rfl : g = (N : Int) := hgN N HN.out
  clear hgN
  go_wp2_with fail
  refine (put_yes _ _ _ hg Hp.out).mono ?_
  rintro e w1 ⟨v1, rfl, hv1, hb1⟩
  have hcv1 := run_string_rd (P := Try.prog) w1 39 9 5 Try.underlying39 Try.underlying5 Try.underlying9 _ _ _ hv1.rd
  rw [Int.toNat_natCast, Int.toNat_natCast, HN.out.put] at hcv1
  have hcv2 := run_string_rd (P := Try.prog) w1 39 9 5 Try.underlying39 Try.underlying5 Try.underlying9 _ _ _ (Hv.out.keep (hb1.mono hB))
  have Hb1 := Lib.hid hb1
  clear hb1 hv1
  go_wp2_with fail
  go_ret2
  exact ⟨rfl, Hb1.out⟩

theorem str_ne {l m : List UInt8} (h : l ≠ m) : (l == m) = false := beq_eq_false_iff_ne.2 h

set_option maxRecDepth 100000 in
set_option maxHeartbeats 800000 in
theorem get_no (l : List UInt8) (v : Value) (B : Nat) (w : World) (hv : Rd w B v (bs l)) (hB : B ≤ w.heap.size) (hbig : l.length < 9223372036854775808) (hN : ∀ N, ¬ IsNum l N) :
    Calls Try.prog 84 #[v] w fun e w' => e = .returned (.tuple #[.int .i64 0, .bool false]) ∧ Below w.heap.size w w' := by
  have HN := Lib.hid hN
  have Hv := Lib.hid hv
  obtain ⟨A, cap, rfl, hcap, _⟩ := hv
  rw [bs_length] at Hv hcap ⊢
  clear hN
  cases hw : widOk (l.length : Int)
  · have Hw := Lib.hid hw
    clear hw
    go_enter Try.func84, Try.ntmps84
    go_wp2_with fail
    refine (isWidth_no _ _ Hw.out).mono ?_
    rintro e w' ⟨rfl, rfl⟩
    go_wp2_with fail
    go_ret2
    exact ⟨rfl, Below.refl _ _⟩
  · obtain ⟨h2, h20⟩ := widOk_iff.1 hw
    have Hw := Lib.hid hw
    clear hw
    go_enter Try.func84, Try.ntmps84
    go_wp2_with fail
    refine (isWidth_yes _ _ Hw.out).mono ?_
    rintro e w' ⟨rfl, rfl⟩
    go_wp2_with fail
    refine (guess_any l _ _ _ (by have := Hv.out; exact this) (by omega) (by omega)).mono ?_
    rintro e w' ⟨rfl, g, rfl, hg, _⟩
    go_wp2_with fail
    cases hp : putOk g (l.length : Int)
    · refine (put_no _ _ _ hg hp).mono ?_
      rintro e w1 ⟨rfl, hb1⟩
      have Hb1 := Lib.hid hb1
      have Hp := Lib.hid hp
      clear hb1 hp
      go_wp2_with fail
      go_ret2
      exact ⟨rfl, Hb1.out⟩
    · refine (put_yes _ _ _ hg hp).mono ?_
      rintro e w1 ⟨v1, rfl, hv1, hb1⟩
      have hcv1 := run_string_rd (P := Try.prog) w1 39 9 5 Try.underlying39 Try.underlying5 Try.underlying9 _ _ _ hv1.rd
      have hcv2 := run_string_rd (P := Try.prog) w1 39 9 5 Try.underlying39 Try.underlying5 Try.underlying9 _ _ _ (Hv.out.keep (hb1.mono hB))
      have hne : putL (l.length : Int).toNat g.toNat ≠ l := fun he => by
        obtain ⟨p0, p2, p20, pf⟩ := putOk_iff.1 hp
        rw [Int.toNat_natCast] at he
        exact HN.out g.toNat ⟨by omega, by omega, by omega, by rw [show ((l.length : Int) - 1).toNat = l.length - 1 by omega] at pf; exact pf, he⟩
      have hst := str_ne hne
      have Hb1 := Lib.hid hb1
      have Hp := Lib.hid hp
      clear hb1 hv1 hp hne
      rw [Int.toNat_natCast] at hcv1 hst
      generalize putL l.length g.toNat = q at hcv1 hst
      go_wp2_with fail
      go_ret2
      exact ⟨rfl, Hb1.out⟩
end Go.Proofs.Ytihigbaaajmjlaa.Num
