/-
  The walks of the statements BlockZeros and BlockText: no statement is proved here.
-/
import Derived.Test.YtfjkikodljdbeaaBlockLaws
namespace Go.Proofs.Ytfjkikodljdbeaa.Block
open Go.RowKit Go.Shelf Go.Proofs.Ytfjkikodljdbeaa.Base Go.Proofs.Ytfjkikodljdbeaa.BlockM Go.Proofs.Ytfjkikodljdbeaa.Str

/-! ### BlockZeros -/
set_option maxRecDepth 100000 in
set_option maxHeartbeats 4000000 in
theorem zeros_walk (n i : Int) (w : World) (hi : i < 9223372036854775808) (hi' : -9223372036854775808 ≤ i) :
    Calls Try.prog 7 #[.int .i64 n, .int .i64 i] w fun e w' => e = .returned (.bool true) ∧ Stp w w' := by
  have h0 := Stp.refl w
  by_cases hin : 1 ≤ n ∧ n ≤ 60
  · obtain ⟨k, rfl⟩ := Int.eq_ofNat_of_zero_le (show 0 ≤ n by omega)
    have g1 : decide ((k : Int) < 1) = false := decide_eq_false (by omega)
    have g2 : decide ((60 : Int) < (k : Int)) = false := decide_eq_false (by omega)
    have hk : k ≤ 60 := by omega
    have hz : zerosV (k : Int) = blks k [] := by rw [zerosV_yes (by omega), Int.toNat_natCast]
    have hz0 : zerosV 0 = [] := zerosV_no (by omega)
    have hz4 : zerosV 401 = [] := zerosV_no (by omega)
    have hcut : cutV (noughts (512 * k)) = blks k [] := cutV_noughts k
    have hmay : mayV (blks k []) = true := blks_may _ _
    have hlen : (blks k []).length = k := blks_length _ _
    have hat : ∀ j, j < k → ∃ b, (blks k [])[j]? = some b ∧ zeroV b = true ∧ b.length = 512 := fun j hj => zero_at hj
    obtain ⟨z, hzz⟩ : ∃ z, blks k [] = z := ⟨_, rfl⟩
    rw [hzz] at hz hcut hmay hlen hat
    have hself : (z == z) = true := by simp
    have Hz := Lib.hid hz
    have Hz0 := Lib.hid hz0
    have Hz4 := Lib.hid hz4
    have Hcut := Lib.hid hcut
    have Hmay := Lib.hid hmay
    have Hlen := Lib.hid hlen
    have Hat := Lib.hid hat
    have Hself := Lib.hid hself
    clear hz hz0 hz4 hcut hmay hlen hat hself hzz
    have key : decide (i < 0) = true ∨ (decide (i < 0) = false ∧ decide ((k : Int) ≤ i) = true) ∨ ∃ j : Nat, i = (j : Int) ∧ j < k ∧ decide ((j : Int) < 0) = false ∧ decide ((k : Int) ≤ (j : Int)) = false := by
      by_cases h1 : i < 0
      · exact .inl (decide_eq_true h1)
      · by_cases h2 : (k : Int) ≤ i
        · exact .inr (.inl ⟨decide_eq_false h1, decide_eq_true h2⟩)
        · exact .inr (.inr ⟨i.toNat, by omega, by omega, decide_eq_false (by omega), decide_eq_false (by omega)⟩)
    clear hin
    rcases key with q1 | ⟨q1, q2⟩ | ⟨j, rfl, hj, q1, q2⟩
    iterate 2
      · go_enter Try.func7, Try.ntmps7
        go_wp2_with (first
          | (go_at_call 10; refine (awake_s _).mono ?_; rintro e w' ⟨rfl, hs⟩; replace h0 := Stp.trans h0 hs; clear hs)
          | (go_at_call 17; (with_reducible refine (zeros_s (k : Int) _).mono ?_); rintro e w' ⟨A, c1, rfl, rz, hs⟩; replace h0 := Stp.trans h0 hs; clear hs; rw [Hz.out] at rz ⊢; rw [Hlen.out])
          | (at_make; refine wpList_make_blk _ rfl _ _ 31 rfl 5 (.int .u8 0) 1 Try.underlying31 byte_info rfl .i64 .i64 (512 * (k : Int)) (512 * k) rfl rfl (by omega) (by omega) (by unfold maxLen; omega) ?_; intro w1 hb1 hs1 hg1; have hcv := noughts_str hb1 (by omega); replace h0 := Stp.trans h0 (stp_of_grown hg1); replace rz := RdL.keep rz (stp_of_grown hg1); clear hb1 hs1 hg1)
          | (go_at_call 15; refine (cut_s (noughts (512 * k)) _ (by rw [noughts_length]; omega)).mono ?_; rintro e w' ⟨B, c2, rfl, rc, hs⟩; replace h0 := Stp.trans h0 hs; replace rz := RdL.keep rz hs; clear hs hcv; rw [Hcut.out] at rc ⊢; rw [Hlen.out])
          | (go_at_call 23; have hc := may_s z _ _ _ rz (by rw [Hlen.out]; omega); rw [Hlen.out] at hc; refine hc.mono ?_; clear hc; rintro e w' ⟨rfl, hs⟩; replace h0 := Stp.trans h0 hs; replace rz := RdL.keep rz hs; replace rc := RdL.keep rc hs; clear hs; rw [Hmay.out])
          | (go_at_call 24; have hc := same_s z z _ _ _ _ _ rz rc (by rw [Hlen.out]; omega) (by rw [Hlen.out]; omega); rw [Hlen.out] at hc; refine hc.mono ?_; clear hc; rintro e w' ⟨rfl, hs⟩; replace h0 := Stp.trans h0 hs; replace rz := RdL.keep rz hs; clear hs rc; rw [Hself.out])
          | (go_at_call 17; (with_reducible refine (zeros_s 0 _).mono ?_); rintro e w' ⟨A3, c3, rfl, r3, hs⟩; replace h0 := Stp.trans h0 hs; clear hs r3; rw [Hz0.out])
          | (go_at_call 17; (with_reducible refine (zeros_s 401 _).mono ?_); rintro e w' ⟨A3, c3, rfl, r3, hs⟩; replace h0 := Stp.trans h0 hs; clear hs r3; rw [Hz4.out]))
        all_goals go_ret
        all_goals exact ⟨rfl, h0⟩
    · obtain ⟨b, hb1, hb2, hb3⟩ := Hat.out j hj
      have Hb1 := Lib.hid hb1
      have Hb2 := Lib.hid hb2
      have Hb3 := Lib.hid hb3
      clear hb1 hb2 hb3
      go_enter Try.func7, Try.ntmps7
      go_wp2_with (first
        | (go_at_call 10; refine (awake_s _).mono ?_; rintro e w' ⟨rfl, hs⟩; replace h0 := Stp.trans h0 hs; clear hs)
        | (go_at_call 17; (with_reducible refine (zeros_s (k : Int) _).mono ?_); rintro e w' ⟨A, c1, rfl, rz, hs⟩; replace h0 := Stp.trans h0 hs; clear hs; rw [Hz.out] at rz ⊢; rw [Hlen.out])
        | (at_make; refine wpList_make_blk _ rfl _ _ 31 rfl 5 (.int .u8 0) 1 Try.underlying31 byte_info rfl .i64 .i64 (512 * (k : Int)) (512 * k) rfl rfl (by omega) (by omega) (by unfold maxLen; omega) ?_; intro w1 hb1 hs1 hg1; have hcv := noughts_str hb1 (by omega); replace h0 := Stp.trans h0 (stp_of_grown hg1); replace rz := RdL.keep rz (stp_of_grown hg1); clear hb1 hs1 hg1)
        | (go_at_call 15; refine (cut_s (noughts (512 * k)) _ (by rw [noughts_length]; omega)).mono ?_; rintro e w' ⟨B, c2, rfl, rc, hs⟩; replace h0 := Stp.trans h0 hs; replace rz := RdL.keep rz hs; clear hs hcv; rw [Hcut.out] at rc ⊢; rw [Hlen.out])
        | (go_at_call 23; have hc := may_s z _ _ _ rz (by rw [Hlen.out]; omega); rw [Hlen.out] at hc; refine hc.mono ?_; clear hc; rintro e w' ⟨rfl, hs⟩; replace h0 := Stp.trans h0 hs; replace rz := RdL.keep rz hs; replace rc := RdL.keep rc hs; clear hs; rw [Hmay.out])
        | (go_at_call 24; have hc := same_s z z _ _ _ _ _ rz rc (by rw [Hlen.out]; omega) (by rw [Hlen.out]; omega); rw [Hlen.out] at hc; refine hc.mono ?_; clear hc; rintro e w' ⟨rfl, hs⟩; replace h0 := Stp.trans h0 hs; replace rz := RdL.keep rz hs; clear hs rc; rw [Hself.out]; obtain ⟨p, o, A1, c4, rfl, ca, ra⟩ := rz.at_ Hb1.out; have hzc := zero_s b A1 c4 _ ra (by rw [Hb3.out]; omega); rw [Hb3.out] at ca hzc; clear ra)
        | (go_at_call 25; refine hzc.mono ?_; clear hzc; rintro e w' ⟨rfl, hs⟩; replace h0 := Stp.trans h0 hs; clear hs ca rz; rw [Hb2.out])
        | (go_at_call 17; (with_reducible refine (zeros_s 0 _).mono ?_); rintro e w' ⟨A3, c3, rfl, r3, hs⟩; replace h0 := Stp.trans h0 hs; clear hs r3; rw [Hz0.out])
        | (go_at_call 17; (with_reducible refine (zeros_s 401 _).mono ?_); rintro e w' ⟨A3, c3, rfl, r3, hs⟩; replace h0 := Stp.trans h0 hs; clear hs r3; rw [Hz4.out]))
      all_goals go_ret
      all_goals exact ⟨rfl, h0⟩
  · have key : decide (n < 1) = true ∨ (decide (n < 1) = false ∧ decide (60 < n) = true) := by
      simp only [decide_eq_true_eq, decide_eq_false_iff_not]
      omega
    clear hin
    rcases key with g1 | ⟨g1, g2⟩
    all_goals
      go_enter Try.func7, Try.ntmps7
      go_wp2_with (go_at_call 10; refine (awake_s _).mono ?_; rintro e w' ⟨rfl, hs⟩; replace h0 := Stp.trans h0 hs; clear hs)
      all_goals go_ret
      all_goals exact ⟨rfl, h0⟩

/-! ### BlockText -/
set_option maxRecDepth 100000 in
set_option maxHeartbeats 4000000 in
theorem text_walk (ls : List L) (n k : Int) (A : Option Addr) (c : Nat) (w : World) (ha : RdL w A c ls) (hl : ls.length < 9223372036854775808) (hls : ∀ l ∈ ls, l.length < 9223372036854775808)
    (hn : n < 9223372036854775808) (hn' : -9223372036854775808 ≤ n) (hk : k < 9223372036854775808) (hk' : -9223372036854775808 ≤ k) :
    Calls Try.prog 6 #[.slice A ls.length c, .int .i64 n, .int .i64 k] w fun e w' => e = .returned (.bool true) ∧ Stp w w' := by
  have h0 := Stp.refl w
  have Hls := Lib.hid hls
  clear hls
  cases hf : fewV ls
  · have Hf := Lib.hid hf
    clear hf
    go_enter Try.func6, Try.ntmps6
    go_wp2_with (first
      | (go_at_call 10; refine (awake_s _).mono ?_; rintro e w' ⟨rfl, hs⟩; replace h0 := Stp.trans h0 hs; replace ha := RdL.keep ha hs; clear hs)
      | (go_at_call 11; refine (few_s ls _ _ _ ha (by omega) Hls.out).mono ?_; rintro e w' ⟨rfl, hs⟩; replace h0 := Stp.trans h0 hs; clear hs; rw [Hf.out]))
    go_ret
    exact ⟨rfl, h0⟩
  have hl60 := (fewV_iff.1 hf).1
  obtain ⟨x, hx⟩ : ∃ x, manyV n = x := ⟨_, rfl⟩
  obtain ⟨y, hy⟩ : ∃ y, textB ls k = y := ⟨_, rfl⟩
  obtain ⟨t, ht⟩ : ∃ t, textV ls k = t := ⟨_, rfl⟩
  have Hf := Lib.hid hf
  have Hx := Lib.hid hx
  have Hbk := Lib.hid hy
  have Hvk := Lib.hid ht
  clear hf
  cases hb : textB ls n
  · have hv := textV_no hb
    have Hbn := Lib.hid hb
    have Hvn := Lib.hid hv
    have key : mayV ls = false ∨ (mayV ls = true ∧ decide (0 ≤ n) = false) ∨ (mayV ls = true ∧ decide (0 ≤ n) = true ∧ (x == (ls.length : Int)) = false) := by
      rw [Bool.eq_false_iff] at hb
      cases h1 : mayV ls
      · exact .inl rfl
      · by_cases h2 : 0 ≤ n
        · refine .inr (.inr ⟨rfl, decide_eq_true h2, ?_⟩)
          rw [beq_eq_false_iff_ne, ← hx]
          exact fun h3 => hb (textB_iff.2 ⟨h1, h2, h3⟩)
        · exact .inr (.inl ⟨rfl, decide_eq_false h2⟩)
    clear hb hv hx hy ht
    rcases key with hm | ⟨hm, q1⟩ | ⟨hm, q1, q2⟩
    all_goals
      have Hm := Lib.hid hm
      clear hm
      go_enter Try.func6, Try.ntmps6
      go_wp2_with (first
        | (go_at_call 10; refine (awake_s _).mono ?_; rintro e w' ⟨rfl, hs⟩; replace h0 := Stp.trans h0 hs; replace ha := RdL.keep ha hs; clear hs)
        | (go_at_call 11; refine (few_s ls _ _ _ ha (by omega) Hls.out).mono ?_; rintro e w' ⟨rfl, hs⟩; replace h0 := Stp.trans h0 hs; replace ha := RdL.keep ha hs; clear hs; rw [Hf.out])
        | (go_at_call 12; (with_reducible refine (text_s ls n _ _ _ ha (by omega) hn hn').mono ?_); rintro e w' ⟨rfl, hs⟩; replace h0 := Stp.trans h0 hs; replace ha := RdL.keep ha hs; clear hs; rw [Hbn.out, Hvn.out])
        | (go_at_call 12; (with_reducible refine (text_s ls k _ _ _ ha (by omega) hk hk').mono ?_); rintro e w' ⟨rfl, hs⟩; replace h0 := Stp.trans h0 hs; replace ha := RdL.keep ha hs; clear hs; rw [Hbk.out, Hvk.out])
        | (go_at_call 23; refine (may_s ls _ _ _ ha (by omega)).mono ?_; rintro e w' ⟨rfl, hs⟩; replace h0 := Stp.trans h0 hs; replace ha := RdL.keep ha hs; clear hs; rw [Hm.out])
        | (go_at_call 21; refine (many_s n _ hn hn').mono ?_; rintro e w' ⟨rfl, hs⟩; replace h0 := Stp.trans h0 hs; replace ha := RdL.keep ha hs; clear hs; rw [Hx.out]))
      all_goals go_ret
      all_goals exact ⟨rfl, h0⟩
  · obtain ⟨hm, hn0, hxl⟩ := textB_iff.1 hb
    have hvl := textV_length hb
    obtain ⟨m, rfl⟩ := Int.eq_ofNat_of_zero_le hn0
    rw [Int.toNat_natCast] at hvl
    have htk : y = true → (m : Int) ≤ k → m ≤ t.length ∧ (textV ls (m : Int) == t.take m) = true := by
      intro h1 h2
      rw [h1] at hy
      have h3 := textV_take hb hy h2
      have h4 := textV_length hy
      rw [ht] at h3 h4
      rw [Int.toNat_natCast] at h3
      exact ⟨by omega, by rw [h3]; simp⟩
    obtain ⟨v, hv⟩ : ∃ v, textV ls (m : Int) = v := ⟨_, rfl⟩
    rw [hv] at hvl htk
    rw [hx] at hxl
    have q1 : decide (0 ≤ (m : Int)) = true := decide_eq_true hn0
    have q2 : (x == (ls.length : Int)) = true := by rw [beq_iff_eq]; exact hxl
    have q3 : ((v.length : Int) != (m : Int)) = false := by simp [hvl]
    have Hbn := Lib.hid hb
    have Hvn := Lib.hid hv
    have Hm := Lib.hid hm
    have key : y = false ∨ (y = true ∧ decide (k < (m : Int)) = true) ∨ (y = true ∧ decide (k < (m : Int)) = false ∧ m ≤ t.length ∧ (v == t.take m) = true) := by
      cases h1 : y
      · exact .inl rfl
      · by_cases h2 : k < (m : Int)
        · exact .inr (.inl ⟨rfl, decide_eq_true h2⟩)
        · exact .inr (.inr ⟨rfl, decide_eq_false h2, htk h1 (by omega)⟩)
    clear hb hv hx hy ht hm htk hxl
    rcases key with rfl | ⟨rfl, q4⟩ | ⟨rfl, q4, q5, q6⟩
    iterate 2
      · go_enter Try.func6, Try.ntmps6
        go_wp2_with (first
          | (go_at_call 10; refine (awake_s _).mono ?_; rintro e w' ⟨rfl, hs⟩; replace h0 := Stp.trans h0 hs; replace ha := RdL.keep ha hs; clear hs)
          | (go_at_call 11; refine (few_s ls _ _ _ ha (by omega) Hls.out).mono ?_; rintro e w' ⟨rfl, hs⟩; replace h0 := Stp.trans h0 hs; replace ha := RdL.keep ha hs; clear hs; rw [Hf.out])
          | (go_at_call 12; (with_reducible refine (text_s ls (m : Int) _ _ _ ha (by omega) hn hn').mono ?_); rintro e w' ⟨rfl, hs⟩; replace h0 := Stp.trans h0 hs; replace ha := RdL.keep ha hs; clear hs; rw [Hbn.out, Hvn.out])
          | (go_at_call 12; (with_reducible refine (text_s ls k _ _ _ ha (by omega) hk hk').mono ?_); rintro e w' ⟨rfl, hs⟩; replace h0 := Stp.trans h0 hs; replace ha := RdL.keep ha hs; clear hs; rw [Hbk.out, Hvk.out])
          | (go_at_call 23; refine (may_s ls _ _ _ ha (by omega)).mono ?_; rintro e w' ⟨rfl, hs⟩; replace h0 := Stp.trans h0 hs; replace ha := RdL.keep ha hs; clear hs; rw [Hm.out])
          | (go_at_call 21; refine (many_s (m : Int) _ hn hn').mono ?_; rintro e w' ⟨rfl, hs⟩; replace h0 := Stp.trans h0 hs; replace ha := RdL.keep ha hs; clear hs; rw [Hx.out]))
        all_goals go_ret
        all_goals exact ⟨rfl, h0⟩
    · have hcut := cut_h t m q5
      go_enter Try.func6, Try.ntmps6
      go_wp2_with (first
        | (go_at_call 10; refine (awake_s _).mono ?_; rintro e w' ⟨rfl, hs⟩; replace h0 := Stp.trans h0 hs; replace ha := RdL.keep ha hs; clear hs)
        | (go_at_call 11; refine (few_s ls _ _ _ ha (by omega) Hls.out).mono ?_; rintro e w' ⟨rfl, hs⟩; replace h0 := Stp.trans h0 hs; replace ha := RdL.keep ha hs; clear hs; rw [Hf.out])
        | (go_at_call 12; (with_reducible refine (text_s ls (m : Int) _ _ _ ha (by omega) hn hn').mono ?_); rintro e w' ⟨rfl, hs⟩; replace h0 := Stp.trans h0 hs; replace ha := RdL.keep ha hs; clear hs; rw [Hbn.out, Hvn.out])
        | (go_at_call 12; (with_reducible refine (text_s ls k _ _ _ ha (by omega) hk hk').mono ?_); rintro e w' ⟨rfl, hs⟩; replace h0 := Stp.trans h0 hs; replace ha := RdL.keep ha hs; clear hs; rw [Hbk.out, Hvk.out])
        | (go_at_call 23; refine (may_s ls _ _ _ ha (by omega)).mono ?_; rintro e w' ⟨rfl, hs⟩; replace h0 := Stp.trans h0 hs; replace ha := RdL.keep ha hs; clear hs; rw [Hm.out])
        | (go_at_call 21; refine (many_s (m : Int) _ hn hn').mono ?_; rintro e w' ⟨rfl, hs⟩; replace h0 := Stp.trans h0 hs; replace ha := RdL.keep ha hs; clear hs; rw [Hx.out]))
      all_goals go_ret
      all_goals exact ⟨rfl, h0⟩
end Go.Proofs.Ytfjkikodljdbeaa.Block
