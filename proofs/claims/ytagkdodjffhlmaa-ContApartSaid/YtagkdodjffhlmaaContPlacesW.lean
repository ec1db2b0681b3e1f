/-
  The law ContPlaces, walked over the contracts: no statement is proved here.
-/
import Derived.Test.YtagkdodjffhlmaaContI
import Derived.Lib.QuietBelow
import Derived.BigQuiet
namespace Go.Proofs.Ytagkdodjffhlmaa.Cont
open Go.Sort Go.RowKit Go.Proofs.Ytagkdodjffhlmaa.Str Go.Proofs.Ytagkdodjffhlmaa.Base Go.Proofs.Ytagkdodjffhlmaa.Node Go.Proofs.Ytagkdodjffhlmaa.Head Go.Proofs.Ytagkdodjffhlmaa.Long Go.Proofs.Ytagkdodjffhlmaa.ContM
open Go.Proofs.Ytagkdodjffhlmaa.Tree (oneB)
set_option linter.unusedVariables false

theorem places_f {n : Nd} (hf : isFile n = true) (k : Int) : mayC n (512 * k) = (decide (0 ≤ k) && decide (k < ((n.data.length : Int) + 511) / 512)) ∧ mayC n (512 * k + 1) = false := by
  constructor
  · rw [Bool.eq_iff_iff, mayC_iff, Bool.and_eq_true, decide_eq_true_eq, decide_eq_true_eq]
    constructor
    · rintro ⟨-, a, b, -⟩
      omega
    · rintro ⟨a, b⟩
      exact ⟨hf, by omega, by omega, by omega⟩
  · cases h : mayC n (512 * k + 1)
    · rfl
    · have := (mayC_iff.1 h).2.2.2
      omega
set_option maxRecDepth 100000 in
set_option maxHeartbeats 4000000 in
theorem places_out (I : ContI) (n : Nd) (hn : SmallN n) (k : Int) (w : World) (hout : fewN n = false ∨ isFile n = false ∨ k < -20 ∨ 20 < k) :
    Calls Try.prog 7 #[nv n, .int .i64 k] w fun e w' => e = .returned (.bool true) ∧ Stp w w' := by
  have H := Lib.hid (Stp.alloc (Stp.refl w) (.cells (ncells n) 23))
  have Hb := Lib.hid (Blk.new w 23 (ncells n))
  obtain ⟨q0, q1, q2, q3, q4, q5, q6, q7⟩ := nd_cells Hb.out
  have HI := Lib.hid I
  have HA := Lib.hid (awake_s I)
  have Hn := Lib.hid hn
  obtain ⟨bf, hf⟩ : ∃ b, fewN n = b := ⟨_, rfl⟩
  obtain ⟨bi, hi⟩ : ∃ b, isFile n = b := ⟨_, rfl⟩
  obtain ⟨m, hm⟩ : ∃ m, manyC n = m := ⟨_, rfl⟩
  have h0 : (m == 0) = !bi := by
    rw [← hm, manyC, hi]
    cases bi
    · rfl
    · rw [if_pos rfl]
      split <;> rfl
  obtain ⟨b1, k1⟩ : ∃ b, decide (k < -20) = b := ⟨_, rfl⟩
  obtain ⟨b2, k2⟩ : ∃ b, decide (20 < k) = b := ⟨_, rfl⟩
  have key : bf = false ∨ (bf = true ∧ bi = false) ∨ (bf = true ∧ bi = true ∧ b1 = true) ∨ (bf = true ∧ bi = true ∧ b1 = false ∧ b2 = true) := by
    rw [hf, hi, ← decide_eq_true_eq (p := k < -20), ← decide_eq_true_eq (p := 20 < k), k1, k2] at hout
    cases bf <;> cases bi <;> cases b1 <;> cases b2 <;> simp_all
  have Hf := Lib.hid hf
  have Hm := Lib.hid hm
  clear I hn hf hi hm hout
  rcases key with rfl | ⟨rfl, rfl⟩ | ⟨rfl, rfl, rfl⟩ | ⟨rfl, rfl, rfl, rfl⟩
  all_goals
    go_enter Try.func7, Try.ntmps7
    go_wp2_with (first
      | (go_at_call 8; refine (HA.out _).mono ?_; rintro e w1 ⟨rfl, hs⟩; replace H := Lib.hid (Stp.trans H.out hs); replace Hb := Lib.hid (Hb.out.keep hs Hb.out.lt); clear hs q0 q1 q2 q3 q4 q5 q6 q7; obtain ⟨q0, q1, q2, q3, q4, q5, q6, q7⟩ := nd_cells Hb.out)
      | (go_at_call 9; (with_reducible refine (Long.few_s n _).mono ?_); rintro e w2 ⟨rfl, hs⟩; rw [Hf.out]; replace H := Lib.hid (Stp.trans H.out hs); replace Hb := Lib.hid (Hb.out.keep hs Hb.out.lt); clear hs q0 q1 q2 q3 q4 q5 q6 q7; obtain ⟨q0, q1, q2, q3, q4, q5, q6, q7⟩ := nd_cells Hb.out)
      | (go_at_call 13; (with_reducible refine (HI.out.many n _ rfl Hn.out m Hm.out _).mono ?_); rintro e w3 ⟨rfl, hs⟩; replace H := Lib.hid (Stp.trans H.out hs); clear hs q0 q1 q2 q3 q4 q5 q6 q7))
    go_ret
    exact ⟨rfl, H.out⟩
set_option maxRecDepth 100000 in
set_option maxHeartbeats 16000000 in
theorem places_in (I : ContI) (n : Nd) (hn : SmallN n) (k : Int) (w : World) (hf : fewN n = true) (hi : isFile n = true) (h1 : -20 ≤ k) (h2 : k ≤ 20) :
    Calls Try.prog 7 #[nv n, .int .i64 k] w fun e w' => e = .returned (.bool true) ∧ Stp w w' := by
  have H := Lib.hid (Stp.alloc (Stp.refl w) (.cells (ncells n) 23))
  have Hb := Lib.hid (Blk.new w 23 (ncells n))
  obtain ⟨q0, q1, q2, q3, q4, q5, q6, q7⟩ := nd_cells Hb.out
  have HI := Lib.hid I
  have HA := Lib.hid (awake_s I)
  have Hn := Lib.hid hn
  obtain ⟨m, hm⟩ : ∃ m, manyC n = m := ⟨_, rfl⟩
  obtain ⟨bp, hbp⟩ : ∃ b, decide ((100 : Int) < (n.path.length : Int)) = b := ⟨_, rfl⟩
  have h3 : (m == 3) = bp := by
    rw [← hm, manyC, if_pos hi, ← hbp]
    by_cases h : 100 < n.path.length
    · rw [if_pos h, decide_eq_true (by omega)]
      rfl
    · rw [if_neg h, decide_eq_false (by omega)]
      rfl
  have h0 : (m == 0) = false := by
    rw [← hm, manyC, if_pos hi]
    split <;> rfl
  have k1 : decide (k < -20) = false := decide_eq_false (by omega)
  have k2 : decide (20 < k) = false := decide_eq_false (by omega)
  obtain ⟨e1, e2⟩ := places_f hi k
  have hd := (fewN_iff.1 hf).2.2
  obtain ⟨c, hc⟩ : ∃ c : Int, ((n.data.length : Int) + 511) / 512 = c := ⟨_, rfl⟩
  rw [hc] at e1
  obtain ⟨b3, k3⟩ : ∃ b, decide (0 ≤ k) = b := ⟨_, rfl⟩
  obtain ⟨b4, k4⟩ : ∃ b, decide (k < c) = b := ⟨_, rfl⟩
  rw [k3, k4] at e1
  have g1 : 0 ≤ (n.data.length : Int) + 511 := by omega
  have g2 : (n.data.length : Int) ≤ 5000 := by omega
  have E1 := Lib.hid e1
  have E2 := Lib.hid e2
  have Hf := Lib.hid hf
  have Hm := Lib.hid hm
  clear I hn hf hi hm e1 e2 hd
  go_enter Try.func7, Try.ntmps7
  go_wp2_with (first
    | (go_at_call 8; refine (HA.out _).mono ?_; rintro e w1 ⟨rfl, hs⟩; replace H := Lib.hid (Stp.trans H.out hs); replace Hb := Lib.hid (Hb.out.keep hs Hb.out.lt); clear hs q0 q1 q2 q3 q4 q5 q6 q7; obtain ⟨q0, q1, q2, q3, q4, q5, q6, q7⟩ := nd_cells Hb.out)
    | (go_at_call 9; (with_reducible refine (Long.few_s n _).mono ?_); rintro e w2 ⟨rfl, hs⟩; rw [Hf.out]; replace H := Lib.hid (Stp.trans H.out hs); replace Hb := Lib.hid (Hb.out.keep hs Hb.out.lt); clear hs q0 q1 q2 q3 q4 q5 q6 q7; obtain ⟨q0, q1, q2, q3, q4, q5, q6, q7⟩ := nd_cells Hb.out)
    | (go_at_call 13; (with_reducible refine (HI.out.many n _ rfl Hn.out m Hm.out _).mono ?_); rintro e w3 ⟨rfl, hs⟩; replace H := Lib.hid (Stp.trans H.out hs); replace Hb := Lib.hid (Hb.out.keep hs Hb.out.lt); clear hs q0 q1 q2 q3 q4 q5 q6 q7; obtain ⟨q0, q1, q2, q3, q4, q5, q6, q7⟩ := nd_cells Hb.out))
  have v0 := cell_regrown q0
  have v1 := cell_regrown q1
  have v2 := cell_regrown q2
  have v3 := cell_regrown q3
  have v4 := cell_regrown q4
  have v5 := cell_regrown q5
  have v6 := cell_regrown q6
  have v7 := cell_regrown q7
  have cA : ∀ d os, Calls Try.prog 11 #[nv n, .int .i64 (512 * k)] (grow (redrawn w3 d) os) fun e w'' => e = .returned (.bool (b3 && b4)) ∧ ∃ p : Regrown, w'' = grow (redrawn w3 p.d) p.os := fun d os => Calls.regrown_of (HI.out.may n _ rfl Hn.out _ _ E1.out _)
  have cB : ∀ d os, Calls Try.prog 11 #[nv n, .int .i64 (512 * k + 1)] (grow (redrawn w3 d) os) fun e w'' => e = .returned (.bool false) ∧ ∃ p : Regrown, w'' = grow (redrawn w3 p.d) p.os := fun d os => Calls.regrown_of (HI.out.may n _ rfl Hn.out _ _ E2.out _)
  have cC : ∀ d os, Calls Try.prog 13 #[nv n] (grow (redrawn w3 d) os) fun e w'' => e = .returned (.int .i64 m) ∧ ∃ p : Regrown, w'' = grow (redrawn w3 p.d) p.os := fun d os => Calls.regrown_of (HI.out.many n _ rfl Hn.out _ Hm.out _)
  have hw1 : IntKind.i64.wrap (512 * k) = 512 * k := by rw [IntKind.wrap_i64] <;> omega
  have hw2 : IntKind.i64.wrap (512 * k + 1) = 512 * k + 1 := by rw [IntKind.wrap_i64] <;> omega
  clear q0 q1 q2 q3 q4 q5 q6 q7 Hb
  cases b3 <;> cases b4
  all_goals
    refine wp_region_quiet_below (by kernel_rfl) (by kernel_rfl) ?_
    repeat (go_big_quiet_step (first | with_reducible exact cA _ _ | with_reducible exact cB _ _ | with_reducible exact cC _ _))
    refine wpQuiet_nil ?_
    intro _ hw'
    obtain ⟨⟨dq, osq⟩, hw''⟩ := hw'
    subst hw''
    have X := Lib.hid (show Stp w3 (grow (redrawn w3 dq) osq) from below_regrown w3 dq osq)
    clear v0 v1 v2 v3 v4 v5 v6 v7 cA cB cC
    dsimp only
    generalize grow (redrawn w3 dq) osq = Y at X ⊢
    go_wp2
    go_ret
    exact ⟨by simp, Stp.trans H.out X.out⟩
theorem places_walk (I : ContI) (n : Nd) (hn : SmallN n) (k : Int) (w : World) :
    Calls Try.prog 7 #[nv n, .int .i64 k] w fun e w' => e = .returned (.bool true) ∧ Stp w w' := by
  by_cases h : fewN n = false ∨ isFile n = false ∨ k < -20 ∨ 20 < k
  · exact places_out I n hn k w h
  · rw [not_or, not_or, not_or] at h
    exact places_in I n hn k w (by simpa using h.1) (by simpa using h.2.1) (by omega) (by omega)
end Go.Proofs.Ytagkdodjffhlmaa.Cont
