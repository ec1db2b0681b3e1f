/-
  The laws RecordMany, RecordApart and RecordBack of records, walked over the contracts: no statement is proved here.
-/
import Derived.Test.YtgjdbbhfgfodlaaRecA
namespace Go.Proofs.Ytgjdbbhfgfodlaa.Rec
open Go.RowKit Go.Shelf Go.Proofs.Ytgjdbbhfgfodlaa.Str Go.Proofs.Ytgjdbbhfgfodlaa.Base Go.Proofs.Ytgjdbbhfgfodlaa.BlockM Go.Proofs.Ytgjdbbhfgfodlaa.RecM

theorem few_n (ls : List L) (m : Nat) (hm : ls.length = m) (A : Option Addr) (c : Nat) (w : World) (ha : RdL w A c ls) (hl : m < 9223372036854775808) (hls : ∀ l ∈ ls, l.length < 9223372036854775808) :
    Calls Try.prog 18 #[.slice A m c] w fun e w' => e = .returned (.bool (Block.fewV ls)) ∧ Stp w w' := by
  subst hm
  exact Block.few_s ls A c w ha hl hls
theorem bmay_n (ls : List L) (m : Nat) (hm : ls.length = m) (A : Option Addr) (c : Nat) (w : World) (ha : RdL w A c ls) (hl : m < 9223372036854775808) :
    Calls Try.prog 29 #[.slice A m c] w fun e w' => e = .returned (.bool (mayV ls)) ∧ Stp w w' := by
  subst hm
  exact Block.may_s ls A c w ha hl

set_option maxRecDepth 100000 in
set_option maxHeartbeats 1000000 in
theorem many_walk (n b : Int) (w : World) (hn : n < 9223372036854775808) (hn' : -9223372036854775808 ≤ n) (hb : b < 9223372036854775808) (hb' : -9223372036854775808 ≤ b) :
    Calls Try.prog 7 #[.int .i64 n, .int .i64 b] w fun e w' => e = .returned (.bool true) ∧ Stp w w' := by
  have h0 := Stp.refl w
  obtain ⟨m, hm⟩ : ∃ m, rmanyV n b = m := ⟨_, rfl⟩
  have Hm := Lib.hid hm
  have key : (decide (n < 1) = true ∧ m = 0) ∨ (decide (n < 1) = false ∧ decide (1125899906842624 < n) = true) ∨ (decide (n < 1) = false ∧ decide (1125899906842624 < n) = false ∧ decide (b < 1) = true ∧ m = 0) ∨
      (decide (n < 1) = false ∧ decide (1125899906842624 < n) = false ∧ decide (b < 1) = false ∧ decide (20 < b) = true ∧ m = 0) ∨
      (1 ≤ n ∧ n ≤ 1125899906842624 ∧ 1 ≤ b ∧ b ≤ 20) := by
    by_cases h1 : n < 1
    · exact .inl ⟨decide_eq_true h1, by rw [← hm]; exact rmanyV_no (.inl h1)⟩
    · by_cases h2 : 1125899906842624 < n
      · exact .inr (.inl ⟨decide_eq_false h1, decide_eq_true h2⟩)
      · by_cases h3 : b < 1
        · exact .inr (.inr (.inl ⟨decide_eq_false h1, decide_eq_false h2, decide_eq_true h3, by rw [← hm]; exact rmanyV_no (.inr (by rw [Bool.eq_false_iff, ne_eq, holdV_iff]; omega))⟩))
        · by_cases h4 : 20 < b
          · exact .inr (.inr (.inr (.inl ⟨decide_eq_false h1, decide_eq_false h2, decide_eq_false h3, decide_eq_true h4, by rw [← hm]; exact rmanyV_no (.inr (by rw [Bool.eq_false_iff, ne_eq, holdV_iff]; omega))⟩)))
          · exact .inr (.inr (.inr (.inr ⟨by omega, by omega, by omega, by omega⟩)))
  rcases key with ⟨g1, e⟩ | ⟨g1, g2⟩ | ⟨g1, g2, g3, e⟩ | ⟨g1, g2, g3, g4, e⟩ | ⟨h1, h2, h3, h4⟩
  case inr.inr.inr.inr =>
    have hv : holdV b = true := holdV_iff.2 ⟨h3, h4⟩
    obtain ⟨s1, s2, s3, s4⟩ := rmanyV_sound (n := n) (b := b) h1 hv
    rw [hm] at s1 s2 s3 s4
    obtain ⟨p, hp⟩ : ∃ p, m * b = p := ⟨_, rfl⟩
    have hp2 : (m - 1) * b = p - b := by rw [Int.sub_mul, Int.one_mul, hp]
    rw [hp] at s1
    rw [hp2] at s2
    have g1 : decide (n < 1) = false := decide_eq_false (by omega)
    have g2 : decide (1125899906842624 < n) = false := decide_eq_false (by omega)
    have g3 : decide (b < 1) = false := decide_eq_false (by omega)
    have g4 : decide (20 < b) = false := decide_eq_false (by omega)
    have g5 : decide (n ≤ p) = true := decide_eq_true s1
    have g6 : decide (p - b < n) = true := decide_eq_true s2
    have H1 := Lib.hid (rmanyV_one h1)
    clear hm hv
    go_enter Try.func7, Try.ntmps7
    go_wp2_with (first
      | (go_at_call 17; refine (awake_s _).mono ?_; rintro e w1 ⟨rfl, hs⟩; replace h0 := Stp.trans h0 hs; clear hs)
      | (go_at_call 27; (with_reducible refine (many_s n b _ hn hn').mono ?_); rintro e w2 ⟨rfl, hs⟩; rw [Hm.out]; replace h0 := Stp.trans h0 hs; clear hs)
      | (go_at_call 27; (with_reducible refine (many_s n 1 _ hn hn').mono ?_); rintro e w2 ⟨rfl, hs⟩; rw [H1.out]; replace h0 := Stp.trans h0 hs; clear hs))
    all_goals go_ret
    all_goals exact ⟨rfl, h0⟩
  all_goals
    (try subst e)
    clear hm
    go_enter Try.func7, Try.ntmps7
    go_wp2_with (first
      | (go_at_call 17; refine (awake_s _).mono ?_; rintro e w1 ⟨rfl, hs⟩; replace h0 := Stp.trans h0 hs; clear hs)
      | (go_at_call 27; refine (many_s n b _ hn hn').mono ?_; rintro e w2 ⟨rfl, hs⟩; rw [Hm.out]; replace h0 := Stp.trans h0 hs; clear hs))
    all_goals go_ret
    all_goals exact ⟨rfl, h0⟩

theorem apart_facts (l k : List L) (b : Int) (hn : l.length = k.length) : groupB l b = false ∨ (groupB l b = true ∧ groupB k b = false) ∨
    (groupB l b = true ∧ groupB k b = true ∧ (groupV l b == groupV k b) = (l == k) ∧ decide ((0 : Int) < ((groupV l b).length : Int)) = decide ((0 : Int) < (l.length : Int))) := by
  cases hl : groupB l b
  · exact .inl rfl
  · cases hk : groupB k b
    · exact .inr (.inl ⟨rfl, rfl⟩)
    · refine .inr (.inr ⟨rfl, rfl, ?_, ?_⟩)
      · rw [Bool.eq_iff_iff, beq_iff_eq, beq_iff_eq]
        exact apart hl hk hn
      · rw [Bool.eq_iff_iff, decide_eq_true_eq, decide_eq_true_eq]
        have := some_of hl
        omega
theorem group_len (l : List L) (b : Int) : (groupV l b).length ≤ l.length := by
  cases hl : groupB l b
  · rw [groupV_no hl]
    simp
  · obtain ⟨⟨h1, h2⟩, -, -⟩ := groupB_iff.1 hl
    obtain ⟨n, rfl⟩ := Int.eq_ofNat_of_zero_le (show 0 ≤ b by omega)
    obtain ⟨k, hk, -, -, -, k3⟩ := many_nat l.length n (by omega) (by omega)
    have := groupV_length l hl
    omega

set_option maxRecDepth 100000 in
set_option maxHeartbeats 4000000 in
theorem apart_walk (ls ks : List L) (b : Int) (A B : Option Addr) (c d : Nat) (w : World) (ha : RdL w A c ls) (hb : RdL w B d ks) (hl : ls.length < 9223372036854775808) (hk : ks.length < 9223372036854775808)
    (hls : ∀ l ∈ ls, l.length < 9223372036854775808) (hks : ∀ l ∈ ks, l.length < 9223372036854775808) :
    Calls Try.prog 9 #[.slice A ls.length c, .slice B ks.length d, .int .i64 b] w fun e w' => e = .returned (.bool true) ∧ Stp w w' := by
  have h0 := Stp.refl w
  have Hls := Lib.hid hls
  have Hks := Lib.hid hks
  clear hls hks
  obtain ⟨n, hn⟩ : ∃ n, ls.length = n := ⟨_, rfl⟩
  obtain ⟨m, hm⟩ : ∃ m, ks.length = m := ⟨_, rfl⟩
  rw [hn] at hl
  rw [hm] at hk
  rw [hn, hm]
  have Hn := Lib.hid hn
  have Hm := Lib.hid hm
  by_cases hin : Block.fewV ls = true ∧ Block.fewV ks = true ∧ n = m
  · obtain ⟨f1, f2, rfl⟩ := hin
    have hn60 := (Block.fewV_iff.1 f1).1
    rw [hn] at hn60
    obtain ⟨x, hx⟩ : ∃ x, groupV ls b = x := ⟨_, rfl⟩
    obtain ⟨y, hy⟩ : ∃ y, groupV ks b = y := ⟨_, rfl⟩
    obtain ⟨p, hp⟩ : ∃ p, (ls == ks) = p := ⟨_, rfl⟩
    obtain ⟨q, hq⟩ : ∃ q, (x == y) = q := ⟨_, rfl⟩
    have hxl : x.length ≤ 60 := by rw [← hx]; have := group_len ls b; omega
    have hyl : y.length ≤ 60 := by rw [← hy]; have := group_len ks b; omega
    obtain ⟨xl, hxl'⟩ : ∃ xl, x.length = xl := ⟨_, rfl⟩
    obtain ⟨yl, hyl'⟩ : ∃ yl, y.length = yl := ⟨_, rfl⟩
    obtain ⟨i1, hi1⟩ : ∃ i, groupB ls b = i := ⟨_, rfl⟩
    obtain ⟨i2, hi2⟩ : ∃ i, groupB ks b = i := ⟨_, rfl⟩
    have hf : i1 = false ∨ (i1 = true ∧ i2 = false) ∨ (i1 = true ∧ i2 = true ∧ q = p ∧ (n = 0 ∧ xl = 0)) ∨ (i1 = true ∧ i2 = true ∧ q = p ∧ (0 < n ∧ 0 < xl)) := by
      have hf := apart_facts ls ks b (by omega)
      rw [hx, hy, hp, hq, hn, hxl', hi1, hi2] at hf
      rcases hf with h | h | ⟨h1, h2, h3, h4⟩
      · exact .inl h
      · exact .inr (.inl h)
      · rw [decide_eq_decide] at h4
        by_cases h0 : n = 0
        · exact .inr (.inr (.inl ⟨h1, h2, h3, h0, by omega⟩))
        · exact .inr (.inr (.inr ⟨h1, h2, h3, by omega, by omega⟩))
    rw [hxl'] at hxl
    rw [hyl'] at hyl
    have Hf1 := Lib.hid f1
    have Hf2 := Lib.hid f2
    have Hx := Lib.hid hx
    have Hy := Lib.hid hy
    have Hp := Lib.hid hp
    have Hq := Lib.hid hq
    have Hxl := Lib.hid hxl'
    have Hyl := Lib.hid hyl'
    have I1 := Lib.hid hi1
    have I2 := Lib.hid hi2
    have g0 : ((n : Int) != (n : Int)) = false := by simp
    clear f1 f2 hx hy hp hq hxl' hyl' hn hm hi1 hi2
    rcases hf with rfl | ⟨rfl, rfl⟩ | ⟨rfl, rfl, rfl, rfl, rfl⟩ | ⟨rfl, rfl, rfl, hn0, hx0⟩
    all_goals
      go_enter Try.func9, Try.ntmps9
      go_wp2_with (first
        | (go_at_call 17; refine (awake_s _).mono ?_; rintro e w1 ⟨rfl, hs⟩; replace h0 := Stp.trans h0 hs; replace ha := RdL.keep ha hs; replace hb := RdL.keep hb hs; clear hs)
        | (go_at_call 18; (with_reducible refine (few_n ls _ Hn.out _ _ _ ha hl Hls.out).mono ?_); rintro e w2 ⟨rfl, hs⟩; rw [Hf1.out]; replace h0 := Stp.trans h0 hs; replace ha := RdL.keep ha hs; replace hb := RdL.keep hb hs; clear hs)
        | (go_at_call 18; (with_reducible refine (few_n ks _ Hm.out _ _ _ hb hk Hks.out).mono ?_); rintro e w3 ⟨rfl, hs⟩; rw [Hf2.out]; replace h0 := Stp.trans h0 hs; replace ha := RdL.keep ha hs; replace hb := RdL.keep hb hs; clear hs)
        | (go_at_call 20; (with_reducible refine (group_n b ls _ Hn.out _ _ _ ha hl).mono ?_); rintro e w4 ⟨C, c1, rfl, hr, hs⟩; rw [Hx.out] at hr ⊢; rw [Hxl.out, I1.out]; have rx := hr; replace h0 := Stp.trans h0 hs; replace ha := RdL.keep ha hs; replace hb := RdL.keep hb hs; clear hs hr)
        | (go_at_call 20; (with_reducible refine (group_n b ks _ Hm.out _ _ _ hb hk).mono ?_); rintro e w5 ⟨D, c2, rfl, hr, hs⟩; rw [Hy.out] at hr ⊢; rw [Hyl.out, I2.out]; have ry := hr; replace h0 := Stp.trans h0 hs; replace ha := RdL.keep ha hs; replace hb := RdL.keep hb hs; replace rx := RdL.keep rx hs; clear hs hr)
        | (go_at_call 24; (with_reducible refine (rsame_n x y _ _ Hxl.out Hyl.out _ _ _ _ _ rx ry (by omega) (by omega)).mono ?_); rintro e w6 ⟨rfl, hs⟩; rw [Hq.out]; replace h0 := Stp.trans h0 hs; replace ha := RdL.keep ha hs; replace hb := RdL.keep hb hs; clear hs rx ry)
        | (go_at_call 24; (with_reducible refine (rsame_n ls ks _ _ Hn.out Hm.out _ _ _ _ _ ha hb (by omega) (by omega)).mono ?_); rintro e w7 ⟨rfl, hs⟩; rw [Hp.out]; replace h0 := Stp.trans h0 hs; clear hs ha hb))
      all_goals go_ret
      all_goals first | exact ⟨rfl, h0⟩ | (refine ⟨?_, h0⟩; simp)
  · obtain ⟨f1, hf1⟩ : ∃ f, Block.fewV ls = f := ⟨_, rfl⟩
    obtain ⟨f2, hf2⟩ : ∃ f, Block.fewV ks = f := ⟨_, rfl⟩
    have key : f1 = false ∨ (f1 = true ∧ f2 = false) ∨ (f1 = true ∧ f2 = true ∧ ((n : Int) != (m : Int)) = true) := by
      rw [hf1, hf2] at hin
      cases f1
      · exact .inl rfl
      · cases f2
        · exact .inr (.inl ⟨rfl, rfl⟩)
        · refine .inr (.inr ⟨rfl, rfl, ?_⟩)
          rw [bne_iff_ne]
          intro h
          exact hin ⟨rfl, rfl, by omega⟩
    have Hf1 := Lib.hid hf1
    have Hf2 := Lib.hid hf2
    clear hin hf1 hf2 hn hm
    rcases key with rfl | ⟨rfl, rfl⟩ | ⟨rfl, rfl, g0⟩
    all_goals
      go_enter Try.func9, Try.ntmps9
      go_wp2_with (first
        | (go_at_call 17; refine (awake_s _).mono ?_; rintro e w1 ⟨rfl, hs⟩; replace h0 := Stp.trans h0 hs; replace ha := RdL.keep ha hs; replace hb := RdL.keep hb hs; clear hs)
        | (go_at_call 18; (with_reducible refine (few_n ls _ Hn.out _ _ _ ha hl Hls.out).mono ?_); rintro e w2 ⟨rfl, hs⟩; rw [Hf1.out]; replace h0 := Stp.trans h0 hs; replace ha := RdL.keep ha hs; replace hb := RdL.keep hb hs; clear hs)
        | (go_at_call 18; (with_reducible refine (few_n ks _ Hm.out _ _ _ hb hk Hks.out).mono ?_); rintro e w3 ⟨rfl, hs⟩; rw [Hf2.out]; replace h0 := Stp.trans h0 hs; replace ha := RdL.keep ha hs; replace hb := RdL.keep hb hs; clear hs))
      all_goals go_ret
      all_goals exact ⟨rfl, h0⟩
end Go.Proofs.Ytgjdbbhfgfodlaa.Rec
