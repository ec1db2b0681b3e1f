/-
  The walks of the statements BlockMany, BlockBack, BlockApart, BlockZeros, BlockText: each law returns true and writes nothing that was there; the statements themselves are proved in texts of their own.
-/
import Derived.Test.YtfjkikodljdbeaaBlockS
namespace Go.Proofs.Ytfjkikodljdbeaa.Block
open Go.RowKit Go.Shelf Go.Proofs.Ytfjkikodljdbeaa.Base Go.Proofs.Ytfjkikodljdbeaa.BlockM Go.Proofs.Ytfjkikodljdbeaa.Str

set_option maxRecDepth 100000 in
set_option maxHeartbeats 2000000 in
theorem many_walk (n : Int) (w : World) (hn : n < 9223372036854775808) (hn' : -9223372036854775808 ≤ n) :
    Calls Try.prog 5 #[.int .i64 n] w fun e w' => e = .returned (.bool true) ∧ Stp w w' := by
  have h0 := Stp.refl w
  by_cases hin : 1 ≤ n ∧ n ≤ 4611686018427387904
  · obtain ⟨k, rfl⟩ := Int.eq_ofNat_of_zero_le (show 0 ≤ n by omega)
    obtain ⟨m, hm⟩ : ∃ m, manyN k = m := ⟨_, rfl⟩
    obtain ⟨m1, hm1⟩ : ∃ m, manyN (k + 1) = m := ⟨_, rfl⟩
    have e1 : manyV (k : Int) = (m : Int) := by rw [manyV_nat, hm]
    have e2 : manyV ((k : Int) + 1) = (m1 : Int) := by rw [← hm1, ← manyV_nat]; rfl
    have f : (k ≤ m * 512 ∧ (m - 1) * 512 < k ∧ 1 ≤ m) ∧ (k % 512 = 0 → m1 = m + 1) ∧ (k % 512 ≠ 0 → m1 = m) := by
      unfold manyN at hm hm1
      omega
    have g1 : ¬ (k : Int) < 1 := by omega
    have g2 : ¬ (4611686018427387904 : Int) < (k : Int) := by omega
    have g3 : decide ((k : Int) < 1) = false := decide_eq_false g1
    have g4 : decide ((4611686018427387904 : Int) < (k : Int)) = false := decide_eq_false g2
    have g5 : decide ((k : Int) ≤ (m : Int) * 512) = true := decide_eq_true (by omega)
    have g6 : decide (((m : Int) - 1) * 512 < (k : Int)) = true := decide_eq_true (by omega)
    have E1 := Lib.hid e1
    have E2 := Lib.hid e2
    have Ff := Lib.hid f
    have hmb : m ≤ 4611686018427387904 := by omega
    have hmb1 : m1 ≤ 4611686018427387905 := by unfold manyN at hm1; omega
    have hm512 : m * 512 ≤ 4611686018427388416 := by unfold manyN at hm; omega
    have cases2 : (((k : Int) % 512 == 0) = true ∧ ((m1 : Int) == (m : Int) + 1) = true) ∨ (((k : Int) % 512 == 0) = false ∧ ((k : Int) % 512 != 0) = true ∧ ((m1 : Int) == (m : Int)) = true) := by
      by_cases h : k % 512 = 0
      · exact .inl ⟨by rw [beq_iff_eq]; omega, by rw [beq_iff_eq]; have := f.2.1 h; omega⟩
      · exact .inr ⟨by rw [beq_eq_false_iff_ne]; omega, by rw [bne_iff_ne]; omega, by rw [beq_iff_eq]; have := f.2.2 h; omega⟩
    clear e1 e2 f hm hm1 Ff
    rcases cases2 with ⟨c1, c2⟩ | ⟨c1, c2, c3⟩
    all_goals
      go_enter Try.func5, Try.ntmps5
      go_wp2_with (first
        | (go_at_call 10; refine (awake_s _).mono ?_; rintro e w' ⟨rfl, hs⟩; replace h0 := Stp.trans h0 hs; clear hs)
        | (go_at_call 21; (with_reducible refine (many_s (k : Int) _ (by omega) (by omega)).mono ?_); rintro e w' ⟨rfl, hs⟩; replace h0 := Stp.trans h0 hs; clear hs; rw [E1.out])
        | (go_at_call 21; (with_reducible refine (many_s ((k : Int) + 1) _ (by omega) (by omega)).mono ?_); rintro e w' ⟨rfl, hs⟩; replace h0 := Stp.trans h0 hs; clear hs; rw [E2.out]))
      all_goals go_ret
      all_goals exact ⟨rfl, h0⟩
  · obtain ⟨m, hm⟩ : ∃ m, manyV n = m := ⟨_, rfl⟩
    have key : (decide (n < 1) = true ∧ decide ((4611686018427387904 : Int) < n) = false ∧ (m == 0) = true) ∨ (decide (n < 1) = false ∧ decide ((4611686018427387904 : Int) < n) = true) := by
      by_cases h : n < 1
      · exact .inl ⟨decide_eq_true h, decide_eq_false (by omega), by rw [← hm, manyV_neg h]; rfl⟩
      · exact .inr ⟨decide_eq_false h, decide_eq_true (by omega)⟩
    have Hm := Lib.hid hm
    clear hm hin
    rcases key with ⟨g1, g2, g3⟩ | ⟨g1, g2⟩
    all_goals
      go_enter Try.func5, Try.ntmps5
      go_wp2_with (first
        | (go_at_call 10; refine (awake_s _).mono ?_; rintro e w' ⟨rfl, hs⟩; replace h0 := Stp.trans h0 hs; clear hs)
        | (go_at_call 21; refine (many_s n _ hn hn').mono ?_; rintro e w' ⟨rfl, hs⟩; replace h0 := Stp.trans h0 hs; clear hs; rw [Hm.out]))
      all_goals go_ret
      all_goals exact ⟨rfl, h0⟩

/-! ### BlockBack -/
theorem back_facts (s : L) : (cutV s).length = manyN s.length ∧ textB (cutV s) s.length = true ∧ textV (cutV s) s.length = s ∧ mayV (cutV s) = true := ⟨cutV_length s, cutV_textB s, cutV_textV s, cutV_may s⟩

set_option maxRecDepth 100000 in
set_option maxHeartbeats 2000000 in
theorem back_walk (s : L) (i : Int) (w : World) (hs : s.length ≤ 9223372036854775807) (hi : i < 9223372036854775808) (hi' : -9223372036854775808 ≤ i) :
    Calls Try.prog 4 #[.string ⟨s.toArray⟩, .int .i64 i] w fun e w' => e = .returned (.bool true) ∧ Stp w w' := by
  have h0 := Stp.refl w
  by_cases h5 : s.length ≤ 5000
  · have g1 : decide ((5000 : Int) < (s.length : Int)) = false := decide_eq_false (by omega)
    obtain ⟨f1, f2, f3, f4⟩ := back_facts s
    obtain ⟨ls, hls⟩ : ∃ ls, cutV s = ls := ⟨_, rfl⟩
    obtain ⟨m, hm⟩ : ∃ m, manyN s.length = m := ⟨_, rfl⟩
    have f5 : manyV (s.length : Int) = (m : Int) := by rw [manyV_nat, hm]
    have hm10 : m ≤ 10 := by rw [← hm]; exact manyN_small (by omega)
    rw [hls] at f1 f2 f3 f4
    rw [hm] at f1
    have hbeh : ∀ k : Nat, s.length ≤ k → k < 512 * m → ∃ b, ls[k / 512]? = some b ∧ b[k % 512]? = some 0 := by
      intro k h1 h2
      rw [← hls]
      rw [← hm] at h2
      exact cutV_behind h1 h2
    have Hls := Lib.hid hls
    have F1 := Lib.hid f1
    have F2 := Lib.hid f2
    have F3 := Lib.hid f3
    have F4 := Lib.hid f4
    have F5 := Lib.hid f5
    have Hb := Lib.hid hbeh
    have hlm : s.length ≤ 512 * m := by rw [← hm]; exact manyN_le _
    clear f1 f2 f3 f4 f5 hbeh hls hm
    by_cases hin : (s.length : Int) ≤ i ∧ i < 512 * (m : Int)
    · obtain ⟨j, hj⟩ : ∃ j : Nat, i / 512 = (j : Int) := ⟨(i / 512).toNat, by omega⟩
      obtain ⟨r, hr⟩ : ∃ r : Nat, i % 512 = (r : Int) := ⟨(i % 512).toNat, by omega⟩
      obtain ⟨b, hb1, hb2⟩ := Hb.out i.toNat (by omega) (by omega)
      rw [show i.toNat / 512 = j by omega] at hb1
      rw [show i.toNat % 512 = r by omega] at hb2
      have hbl : b.length = 512 := mayV_iff.1 F4.out b (List.mem_of_getElem? hb1)
      have g2 : decide (i < (s.length : Int)) = false := decide_eq_false (by omega)
      have g3 : decide (512 * (m : Int) ≤ i) = false := decide_eq_false (by omega)
      have q1 : j < m := by omega
      have q2 : r < 512 := by omega
      have q3 : (bs b)[r]? = some (.int .u8 0) := by rw [bs_at (by rw [hbl]; exact q2), (List.getElem?_eq_some_iff.1 hb2).2]; rfl
      have Hb1 := Lib.hid hb1
      have Hbl := Lib.hid hbl
      have Hq3 := Lib.hid q3
      have h0i : 0 ≤ i := by omega
      clear hin hb1 hb2 hlm hbl q3
      go_enter Try.func4, Try.ntmps4
      go_wp2_with (first
        | (go_at_call 10; refine (awake_s _).mono ?_; rintro e w' ⟨rfl, hs⟩; replace h0 := Stp.trans h0 hs; clear hs)
        | (go_at_call 15; refine (cut_s s _ (by omega)).mono ?_; rintro e w' ⟨A, c, rfl, ha, hs⟩; replace h0 := Stp.trans h0 hs; clear hs; rw [Hls.out] at ha ⊢; rw [F1.out])
        | (go_at_call 12; have hc := text_s ls s.length _ _ _ ha (by rw [F1.out]; omega) (by omega) (by omega); rw [F1.out] at hc; refine hc.mono ?_; clear hc; rintro e w' ⟨rfl, hs⟩; replace h0 := Stp.trans h0 hs; replace ha := RdL.keep ha hs; clear hs; rw [F2.out, F3.out])
        | (go_at_call 21; refine (many_s _ _ (by omega) (by omega)).mono ?_; rintro e w' ⟨rfl, hs⟩; replace h0 := Stp.trans h0 hs; replace ha := RdL.keep ha hs; clear hs; rw [F5.out])
        | (go_at_call 23; have hc := may_s ls _ _ _ ha (by rw [F1.out]; omega); rw [F1.out] at hc; refine hc.mono ?_; clear hc; rintro e w' ⟨rfl, hs⟩; replace h0 := Stp.trans h0 hs; replace ha := RdL.keep ha hs; clear hs; rw [F4.out]; obtain ⟨p, o, A1, c1, rfl, ca, ra⟩ := ha.at_ Hb1.out; obtain ⟨p1, o1, rfl, hcell⟩ := ra.at_ (j := r) (by rw [bs_length, Hbl.out]; exact q2); rw [Hbl.out] at ca; have cb := hcell r _ Hq3.out; clear hcell ra))
      go_ret
      exact ⟨rfl, h0⟩
    · have key : decide (i < (s.length : Int)) = true ∨ (decide (i < (s.length : Int)) = false ∧ decide (512 * (m : Int) ≤ i) = true) := by
        simp only [decide_eq_true_eq, decide_eq_false_iff_not]
        omega
      clear hin hlm
      rcases key with g2 | ⟨g2, g3⟩
      all_goals
        go_enter Try.func4, Try.ntmps4
        go_wp2_with (first
          | (go_at_call 10; refine (awake_s _).mono ?_; rintro e w' ⟨rfl, hs⟩; replace h0 := Stp.trans h0 hs; clear hs)
          | (go_at_call 15; refine (cut_s s _ (by omega)).mono ?_; rintro e w' ⟨A, c, rfl, ha, hs⟩; replace h0 := Stp.trans h0 hs; clear hs; rw [Hls.out] at ha ⊢; rw [F1.out])
          | (go_at_call 12; have hc := text_s ls s.length _ _ _ ha (by rw [F1.out]; omega) (by omega) (by omega); rw [F1.out] at hc; refine hc.mono ?_; clear hc; rintro e w' ⟨rfl, hs⟩; replace h0 := Stp.trans h0 hs; replace ha := RdL.keep ha hs; clear hs; rw [F2.out, F3.out])
          | (go_at_call 21; refine (many_s _ _ (by omega) (by omega)).mono ?_; rintro e w' ⟨rfl, hs⟩; replace h0 := Stp.trans h0 hs; replace ha := RdL.keep ha hs; clear hs; rw [F5.out])
          | (go_at_call 23; have hc := may_s ls _ _ _ ha (by rw [F1.out]; omega); rw [F1.out] at hc; refine hc.mono ?_; clear hc; rintro e w' ⟨rfl, hs⟩; replace h0 := Stp.trans h0 hs; replace ha := RdL.keep ha hs; clear hs; rw [F4.out]))
        all_goals go_ret
        all_goals exact ⟨rfl, h0⟩
  · have g1 : decide ((5000 : Int) < (s.length : Int)) = true := decide_eq_true (by omega)
    go_enter Try.func4, Try.ntmps4
    go_wp2_with (go_at_call 10; refine (awake_s _).mono ?_; rintro e w' ⟨rfl, hs⟩; replace h0 := Stp.trans h0 hs; clear hs)
    go_ret
    exact ⟨rfl, h0⟩

/-! ### BlockApart -/
theorem apart_facts (a b : L) (k : Nat) : (((a.length : Int) != (b.length : Int)) = true ∨ ((a.length : Int) != (b.length : Int)) = false ∧ (cutV a == cutV b) = (a == b)) ∧
    (cutV a == cutV (a ++ noughts k)) = (manyV (a.length : Int) == manyV ((a ++ noughts k).length : Int)) := by
  constructor
  · by_cases h : a.length = b.length
    · refine .inr ⟨by simp [h], ?_⟩
      rw [Bool.eq_iff_iff, beq_iff_eq, beq_iff_eq]
      exact ⟨cutV_inj h, fun e => by rw [e]⟩
    · exact .inl (by rw [bne_iff_ne]; omega)
  · rw [Bool.eq_iff_iff, beq_iff_eq, beq_iff_eq, manyV_nat, manyV_nat, cutV_more_iff, List.length_append, noughts_length]
    omega

set_option maxRecDepth 100000 in
set_option maxHeartbeats 4000000 in
theorem apart_walk (a b : L) (n : Int) (w : World) (ha : a.length ≤ 9223372036854775807) (hb : b.length ≤ 9223372036854775807) :
    Calls Try.prog 9 #[.string ⟨a.toArray⟩, .string ⟨b.toArray⟩, .int .i64 n] w fun e w' => e = .returned (.bool true) ∧ Stp w w' := by
  have h0 := Stp.refl w
  by_cases hin : a.length ≤ 2500 ∧ b.length ≤ 2500 ∧ 0 ≤ n ∧ n ≤ 600
  · obtain ⟨h1, h2, h3, h4⟩ := hin
    obtain ⟨k, rfl⟩ := Int.eq_ofNat_of_zero_le h3
    obtain ⟨f1, f2⟩ := apart_facts a b k
    have g1 : decide ((2500 : Int) < (a.length : Int)) = false := decide_eq_false (by omega)
    have g2 : decide ((2500 : Int) < (b.length : Int)) = false := decide_eq_false (by omega)
    have g3 : decide ((k : Int) < 0) = false := decide_eq_false (by omega)
    have g4 : decide ((600 : Int) < (k : Int)) = false := decide_eq_false (by omega)
    obtain ⟨more, hmore⟩ : ∃ more, a ++ noughts k = more := ⟨_, rfl⟩
    have hadd := add_ll a (noughts k) (by rw [noughts_length]; omega)
    rw [hmore] at f2 hadd
    have hml : more.length ≤ 3100 := by rw [← hmore, List.length_append, noughts_length]; omega
    obtain ⟨S, hS⟩ : ∃ S, (cutV a == cutV b) = S := ⟨_, rfl⟩
    obtain ⟨T, hT⟩ : ∃ T, (cutV a == cutV more) = T := ⟨_, rfl⟩
    obtain ⟨x, hx⟩ : ∃ x, manyV (a.length : Int) = x := ⟨_, rfl⟩
    obtain ⟨y, hy⟩ : ∃ y, manyV (more.length : Int) = y := ⟨_, rfl⟩
    rw [hS] at f1
    rw [hT, hx, hy] at f2
    have l1 : (cutV a).length ≤ 10 := by rw [cutV_length]; exact manyN_small (by omega)
    have l2 : (cutV b).length ≤ 10 := by rw [cutV_length]; exact manyN_small (by omega)
    have l3 : (cutV more).length ≤ 10 := by rw [cutV_length]; exact manyN_small (by omega)
    have HS := Lib.hid hS
    have HT := Lib.hid hT
    have Hx := Lib.hid hx
    have Hy := Lib.hid hy
    have L1 := Lib.hid l1
    have L2 := Lib.hid l2
    have L3 := Lib.hid l3
    have F1 := Lib.hid f1
    have F2 := Lib.hid f2
    clear hS hT hx hy f1 f2 hmore l1 l2 l3
    have f3 : (T == (x == y)) = true := by simp [F2.out]
    have key : ((a.length : Int) != (b.length : Int)) = true ∨ ((a.length : Int) != (b.length : Int)) = false ∧ (S == (a == b)) = true := by
      rcases F1.out with h | ⟨h, e⟩
      · exact .inl h
      · exact .inr ⟨h, by simp [e]⟩
    clear F1 F2
    rcases key with q1 | ⟨q1, q2⟩
    all_goals
      go_enter Try.func9, Try.ntmps9
      go_wp2_with (first
        | (go_at_call 10; refine (awake_s _).mono ?_; rintro e w' ⟨rfl, hs⟩; replace h0 := Stp.trans h0 hs; clear hs)
        | (go_at_call 15; (with_reducible refine (cut_s more _ (by omega)).mono ?_); rintro e w' ⟨C, c3, rfl, rm, hs⟩; replace h0 := Stp.trans h0 hs; replace ra := RdL.keep ra hs; clear hs)
        | (go_at_call 15; (with_reducible refine (cut_s a _ (by omega)).mono ?_); rintro e w' ⟨A, c1, rfl, ra, hs⟩; replace h0 := Stp.trans h0 hs; clear hs)
        | (go_at_call 15; (with_reducible refine (cut_s b _ (by omega)).mono ?_); rintro e w' ⟨B, c2, rfl, rb, hs⟩; replace h0 := Stp.trans h0 hs; replace ra := RdL.keep ra hs; clear hs)
        | (go_at_call 24; (with_reducible refine (same_s (cutV a) (cutV b) _ _ _ _ _ ra rb (by have := L1.out; omega) (by have := L2.out; omega)).mono ?_); rintro e w' ⟨rfl, hs⟩; replace h0 := Stp.trans h0 hs; clear hs ra rb; rw [HS.out])
        | (go_at_call 24; (with_reducible refine (same_s (cutV a) (cutV more) _ _ _ _ _ ra rm (by have := L1.out; omega) (by have := L3.out; omega)).mono ?_); rintro e w' ⟨rfl, hs⟩; replace h0 := Stp.trans h0 hs; clear hs ra rm; rw [HT.out])
        | (at_make; refine wpList_make_blk _ rfl _ _ 31 rfl 5 (.int .u8 0) 1 Try.underlying31 byte_info rfl .i64 .i64 (k : Int) k rfl rfl rfl (by omega) (by unfold maxLen; omega) ?_; intro w1 hb1 hs1 hg1; have hcv := noughts_str hb1 (by omega); replace h0 := Stp.trans h0 (stp_of_grown hg1); clear hb1 hs1 hg1)
        | (go_at_call 21; (with_reducible refine (many_s (a.length : Int) _ (by omega) (by omega)).mono ?_); rintro e w' ⟨rfl, hs⟩; replace h0 := Stp.trans h0 hs; clear hs; rw [Hx.out])
        | (go_at_call 21; (with_reducible refine (many_s (more.length : Int) _ (by omega) (by omega)).mono ?_); rintro e w' ⟨rfl, hs⟩; replace h0 := Stp.trans h0 hs; clear hs; rw [Hy.out]))
      all_goals go_ret
      all_goals exact ⟨rfl, h0⟩
  · have key : decide ((2500 : Int) < (a.length : Int)) = true ∨ (decide ((2500 : Int) < (a.length : Int)) = false ∧ decide ((2500 : Int) < (b.length : Int)) = true) ∨
        (decide ((2500 : Int) < (a.length : Int)) = false ∧ decide ((2500 : Int) < (b.length : Int)) = false ∧ decide (n < 0) = true) ∨
        (decide ((2500 : Int) < (a.length : Int)) = false ∧ decide ((2500 : Int) < (b.length : Int)) = false ∧ decide (n < 0) = false ∧ decide (600 < n) = true) := by
      simp only [decide_eq_true_eq, decide_eq_false_iff_not]
      omega
    clear hin
    rcases key with g1 | ⟨g1, g2⟩ | ⟨g1, g2, g3⟩ | ⟨g1, g2, g3, g4⟩
    all_goals
      go_enter Try.func9, Try.ntmps9
      go_wp2_with (go_at_call 10; refine (awake_s _).mono ?_; rintro e w' ⟨rfl, hs⟩; replace h0 := Stp.trans h0 hs; clear hs)
      all_goals go_ret
      all_goals exact ⟨rfl, h0⟩
end Go.Proofs.Ytfjkikodljdbeaa.Block
