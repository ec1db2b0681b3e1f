/-
  The walks of the statements PathBelow, PathSplit, PathParent, PathJoins: each law returns true and writes nothing that was there; the statements themselves are proved in texts of their own.
-/
import Derived.Test.YtkhkjohkgeionaaPathS
namespace Go.Proofs.Ytkhkjohkgeionaa.Path
open Go.RowKit Go.Shelf Go.Proofs.Ytkhkjohkgeionaa.Base Go.Proofs.Ytkhkjohkgeionaa.PathM

set_option maxRecDepth 100000 in
set_option maxHeartbeats 2000000 in
theorem below_walk (a b c : L) (w : World) (ha : a.length ≤ 9223372036854775807) (hb : b.length ≤ 9223372036854775807) (hc : c.length ≤ 9223372036854775807) :
    Calls Try.prog 7 #[.string ⟨a.toArray⟩, .string ⟨b.toArray⟩, .string ⟨c.toArray⟩] w fun e w' => e = .returned (.bool true) ∧ Stp w w' := by
  have h0 := Stp.refl w
  go_enter Try.func7, Try.ntmps7
  go_wp2_with (first
    | (go_at_call 10; refine (awake_s _).mono ?_; rintro e w' ⟨rfl, hs⟩; replace h0 := Stp.trans h0 hs; clear hs)
    | (go_at_call 21; refine (below_s _ _ _ (by assumption) (by assumption)).mono ?_; rintro e w' ⟨rfl, hs⟩; replace h0 := Stp.trans h0 hs; clear hs))
  all_goals go_ret
  all_goals first | exact ⟨rfl, h0⟩ | refine ⟨ret_bool ?_, h0⟩
  all_goals first
    | (have h := ‹belowB a a = true›; rw [belowB_irrefl] at h; cases h)
    | (rw [belowB_asymm ‹belowB a b = true›]; rfl)
    | exact absurd (belowB_trans ‹belowB a b = true› ‹belowB b c = true›) ‹¬ belowB a c = true›

set_option maxRecDepth 100000 in
set_option maxHeartbeats 2000000 in
theorem split_walk (p : L) (w : World) (hp : p.length ≤ 9223372036854775807) :
    Calls Try.prog 4 #[.string ⟨p.toArray⟩] w fun e w' => e = .returned (.bool true) ∧ Stp w w' := by
  have h0 := Stp.refl w
  cases hs : splB p
  · have hv := split_none_facts hs
    have Hl := Lib.hid (split_none_long hs)
    go_enter Try.func4, Try.ntmps4
    go_wp2_with (first
      | (go_at_call 10; refine (awake_s _).mono ?_; rintro e w' ⟨rfl, hs⟩; replace h0 := Stp.trans h0 hs; clear hs)
      | (go_at_call 13; refine (split_s p _ hp).mono ?_; rintro e w' ⟨rfl, hs⟩; replace h0 := Stp.trans h0 hs; clear hs; rw [hv])
      | (go_at_call 20; refine (may_s p _ hp).mono ?_; rintro e w' ⟨rfl, hs⟩; replace h0 := Stp.trans h0 hs; clear hs))
    all_goals go_ret
    all_goals first | exact ⟨rfl, h0⟩ | refine ⟨ret_bool ?_, h0⟩
    rcases Hl.out with h | h
    · exact absurd ‹mayB p = true› (by simp [h])
    · exact decide_eq_true (by omega)
  · obtain ⟨f1, f2, f3, f4, f5, f6, f7, f8⟩ := split_facts hs
    obtain ⟨⟨x, y⟩, hxy⟩ : ∃ xy, splV p = xy := ⟨_, rfl⟩
    rw [hxy] at f2 f3 f4 f5 f6 f7 f8
    simp only at f2 f3 f4 f5 f6 f7 f8
    have g1 : decide ((x.length : Int) ≤ 155) = true := decide_eq_true (by omega)
    have g2 : decide ((y.length : Int) ≤ 100) = true := decide_eq_true (by omega)
    have g3 : (y == []) = false := by simpa using f5
    have F1 := Lib.hid f1
    have F2 := Lib.hid f2
    have F6 := Lib.hid f6
    have F7 := Lib.hid f7
    have F8 := Lib.hid f8
    have Hs := Lib.hid hs
    have Hxy := Lib.hid hxy
    clear f1 f2 f5 f6 f7 f8 hs hxy
    go_enter Try.func4, Try.ntmps4
    go_wp2_with (first
      | (go_at_call 10; refine (awake_s _).mono ?_; rintro e w' ⟨rfl, hs⟩; replace h0 := Stp.trans h0 hs; clear hs)
      | (go_at_call 13; refine (split_s p _ hp).mono ?_; rintro e w' ⟨rfl, hs⟩; replace h0 := Stp.trans h0 hs; clear hs; rw [Hxy.out, Hs.out])
      | (go_at_call 22; refine (join_s x y _ (by omega)).mono ?_; rintro e w' ⟨rfl, hs⟩; replace h0 := Stp.trans h0 hs; clear hs; rw [F2.out])
      | (go_at_call 20; (with_reducible refine (may_s p _ hp).mono ?_); rintro e w' ⟨rfl, hs⟩; replace h0 := Stp.trans h0 hs; clear hs; rw [F1.out])
      | (go_at_call 20; (with_reducible refine (may_s y _ (by omega)).mono ?_); rintro e w' ⟨rfl, hs⟩; replace h0 := Stp.trans h0 hs; clear hs; rw [F7.out])
      | (go_at_call 20; (with_reducible refine (may_s x _ (by omega)).mono ?_); rintro e w' ⟨rfl, hs⟩; replace h0 := Stp.trans h0 hs; clear hs))
    all_goals go_ret
    all_goals first | exact ⟨rfl, h0⟩ | refine ⟨ret_bool ?_, h0⟩
    all_goals
      have hf := F6.out
      have hg := F8.out
      first
        | (exfalso; rcases hf with hf | hf <;> first | omega | (simp_all; done))
        | (rcases hg with hg | hg <;> simp [hg])

set_option maxRecDepth 100000 in
set_option maxHeartbeats 2000000 in
theorem parent_walk (p : L) (w : World) (hp : p.length ≤ 9223372036854775807) :
    Calls Try.prog 5 #[.string ⟨p.toArray⟩] w fun e w' => e = .returned (.bool true) ∧ Stp w w' := by
  have h0 := Stp.refl w
  cases hm : mayB p
  · have Hm := Lib.hid hm
    clear hm
    go_enter Try.func5, Try.ntmps5
    go_wp2_with (first
      | (go_at_call 10; refine (awake_s _).mono ?_; rintro e w' ⟨rfl, hs⟩; replace h0 := Stp.trans h0 hs; clear hs)
      | (go_at_call 20; refine (may_s p _ hp).mono ?_; rintro e w' ⟨rfl, hs⟩; replace h0 := Stp.trans h0 hs; clear hs; rw [Hm.out]))
    all_goals go_ret
    all_goals exact ⟨rfl, h0⟩
  · have hlp := okSize hm
    cases hb : parB p
    · obtain ⟨f1, f2⟩ := par_no hm hb
      have F1 := Lib.hid f1
      have F2 : Hid ((partV p).length = 1) := Lib.hid (by rw [partV_yes hm]; exact f2)
      have Hm := Lib.hid hm
      have Hb := Lib.hid hb
      clear hm hb f1 f2
      go_enter Try.func5, Try.ntmps5
      go_wp2_with (first
        | (go_at_call 10; refine (awake_s _).mono ?_; rintro e w' ⟨rfl, hs⟩; replace h0 := Stp.trans h0 hs; clear hs)
        | (go_at_call 20; refine (may_s p _ hp).mono ?_; rintro e w' ⟨rfl, hs⟩; replace h0 := Stp.trans h0 hs; clear hs; rw [Hm.out])
        | (go_at_call 11; refine (parent_s p _ hp).mono ?_; rintro e w' ⟨rfl, hs⟩; replace h0 := Stp.trans h0 hs; clear hs; rw [F1.out, Hb.out])
        | (go_at_call 16; refine (parts_s p _ hp).mono ?_; rintro e w' ⟨A, cap, rfl, hr, hs⟩; replace h0 := Stp.trans h0 hs; clear hs hr; rw [F2.out]))
      all_goals go_ret
      all_goals exact ⟨rfl, h0⟩
    · obtain ⟨_, f1, f2, f3⟩ := par_yes hb
      obtain ⟨q, hq⟩ : ∃ q, parV p = q := ⟨_, rfl⟩
      rw [hq] at f1 f2 f3
      obtain ⟨n, hn⟩ : ∃ n, n = (pcs q).length := ⟨_, rfl⟩
      have hn1 : 1 ≤ n := by have := pcs_pos q; omega
      have hn2 : n ≤ 301 := by have := pcs_length_le q; have := okSize f1; omega
      have hlq := okSize f1
      have F1 := Lib.hid f1
      have F2 := Lib.hid f2
      have F3 : Hid ((partV q).length = n) := Lib.hid (by rw [partV_yes f1, hn])
      have F4 : Hid ((partV p).length = n + 1) := Lib.hid (by rw [partV_yes hm, ← f3, hn])
      have Hq := Lib.hid hq
      have Hm := Lib.hid hm
      have Hb := Lib.hid hb
      clear hm hb f1 f2 f3 hq hn
      go_enter Try.func5, Try.ntmps5
      go_wp2_with (first
        | (go_at_call 10; refine (awake_s _).mono ?_; rintro e w' ⟨rfl, hs⟩; replace h0 := Stp.trans h0 hs; clear hs)
        | (go_at_call 20; (with_reducible refine (may_s p _ hp).mono ?_); rintro e w' ⟨rfl, hs⟩; replace h0 := Stp.trans h0 hs; clear hs; rw [Hm.out])
        | (go_at_call 20; (with_reducible refine (may_s q _ (by omega)).mono ?_); rintro e w' ⟨rfl, hs⟩; replace h0 := Stp.trans h0 hs; clear hs; rw [F1.out])
        | (go_at_call 21; (with_reducible refine (below_s p q _ hp (by omega)).mono ?_); rintro e w' ⟨rfl, hs⟩; replace h0 := Stp.trans h0 hs; clear hs; rw [F2.out])
        | (go_at_call 11; refine (parent_s p _ hp).mono ?_; rintro e w' ⟨rfl, hs⟩; replace h0 := Stp.trans h0 hs; clear hs; rw [Hq.out, Hb.out])
        | (go_at_call 16; (with_reducible refine (parts_s p _ hp).mono ?_); rintro e w' ⟨A, cap, rfl, hr, hs⟩; replace h0 := Stp.trans h0 hs; clear hs hr; rw [F4.out])
        | (go_at_call 16; (with_reducible refine (parts_s q _ (by omega)).mono ?_); rintro e w' ⟨A, cap, rfl, hr, hs⟩; replace h0 := Stp.trans h0 hs; clear hs hr; rw [F3.out]))
      all_goals go_ret
      all_goals first | exact ⟨rfl, h0⟩ | refine ⟨ret_bool ?_, h0⟩
      all_goals exact decide_eq_true (by omega)

set_option maxRecDepth 100000 in
set_option maxHeartbeats 2000000 in
theorem joins_long (a b : L) (w : World) (hl : ¬ (a.length ≤ 400 ∧ b.length ≤ 400 ∧ a ≠ [])) :
    Calls Try.prog 8 #[.string ⟨a.toArray⟩, .string ⟨b.toArray⟩] w fun e w' => e = .returned (.bool true) ∧ Stp w w' := by
  have h0 := Stp.refl w
  have key : decide (400 < (a.length : Int)) = true ∨ (decide (400 < (a.length : Int)) = false ∧ decide (400 < (b.length : Int)) = true) ∨ (decide (400 < (a.length : Int)) = false ∧ decide (400 < (b.length : Int)) = false ∧ a = []) := by
    simp only [decide_eq_true_eq, decide_eq_false_iff_not]
    by_cases h1 : a.length ≤ 400
    · by_cases h2 : b.length ≤ 400
      · exact .inr (.inr ⟨by omega, by omega, Classical.byContradiction fun h => hl ⟨h1, h2, h⟩⟩)
      · exact .inr (.inl ⟨by omega, by omega⟩)
    · exact .inl (by omega)
  clear hl
  rcases key with g1 | ⟨g1, g2⟩ | ⟨g1, g2, rfl⟩
  all_goals
    go_enter Try.func8, Try.ntmps8
    go_wp2_with (go_at_call 10; refine (awake_s _).mono ?_; rintro e w' ⟨rfl, hs⟩; replace h0 := Stp.trans h0 hs; clear hs)
    all_goals go_ret
    all_goals exact ⟨rfl, h0⟩

set_option maxRecDepth 100000 in
set_option maxHeartbeats 2000000 in
theorem joins_no (a b : L) (w : World) (ha : a.length ≤ 400) (hb : b.length ≤ 400) (hn : a ≠ []) (hno : mayB (joinV a b) = false) :
    Calls Try.prog 8 #[.string ⟨a.toArray⟩, .string ⟨b.toArray⟩] w fun e w' => e = .returned (.bool true) ∧ Stp w w' := by
  have h0 := Stp.refl w
  have g3 : (a == []) = false := by simpa using hn
  have add1 := add_ll a [47] (by simp; omega)
  have add2 := add_ll (a ++ [47]) b (by simp; omega)
  rw [List.append_assoc, List.singleton_append] at add2
  have Hj : Hid (joinV a b = a ++ 47 :: b) := Lib.hid (by simp [joinV, hn])
  rw [Hj.out] at hno
  have Hno := Lib.hid hno
  have Hmay := Lib.hid (mayB_append (a := a) (b := b))
  clear hn hno
  obtain ⟨c, hc⟩ : ∃ c, a ++ 47 :: b = c := ⟨_, rfl⟩
  rw [hc] at Hno Hj add2 Hmay
  have hlc : c.length ≤ 801 := by rw [← hc]; simp; omega
  clear hc
  go_enter Try.func8, Try.ntmps8
  go_wp2_with (first
    | (go_at_call 10; refine (awake_s _).mono ?_; rintro e w' ⟨rfl, hs⟩; replace h0 := Stp.trans h0 hs; clear hs)
    | (go_at_call 22; refine (join_s a b _ (by omega)).mono ?_; rintro e w' ⟨rfl, hs⟩; replace h0 := Stp.trans h0 hs; clear hs; rw [Hj.out])
    | (go_at_call 20; (with_reducible refine (may_s c _ (by omega)).mono ?_); rintro e w' ⟨rfl, hs⟩; replace h0 := Stp.trans h0 hs; clear hs; rw [Hno.out])
    | (go_at_call 20; (with_reducible refine (may_s a _ (by omega)).mono ?_); rintro e w' ⟨rfl, hs⟩; replace h0 := Stp.trans h0 hs; clear hs)
    | (go_at_call 20; (with_reducible refine (may_s b _ (by omega)).mono ?_); rintro e w' ⟨rfl, hs⟩; replace h0 := Stp.trans h0 hs; clear hs))
  all_goals go_ret
  all_goals first | exact ⟨rfl, h0⟩ | refine ⟨ret_bool ?_, h0⟩
  all_goals
    have h := Hmay.out
    rw [Hno.out, ‹mayB a = true›, ‹mayB b = true›] at h
    simp at h
    omega

set_option maxRecDepth 100000 in
set_option maxHeartbeats 2000000 in
theorem joins_yes (a b : L) (w : World) (ha : mayB a = true) (hb : mayB b = true) (hl : a.length + b.length < 300) :
    Calls Try.prog 8 #[.string ⟨a.toArray⟩, .string ⟨b.toArray⟩] w fun e w' => e = .returned (.bool true) ∧ Stp w w' := by
  have h0 := Stp.refl w
  have hn : a ≠ [] := by rintro rfl; exact absurd ha (by decide)
  have g3 : (a == []) = false := by simpa using hn
  have add1 := add_ll a [47] (by simp; omega)
  have add2 := add_ll (a ++ [47]) b (by simp; omega)
  rw [List.append_assoc, List.singleton_append] at add2
  have Hj : Hid (joinV a b = a ++ 47 :: b) := Lib.hid (by simp [joinV, hn])
  have hno : mayB (a ++ 47 :: b) = true := by rw [mayB_append, ha, hb]; simpa using hl
  have Hno := Lib.hid hno
  have Hbl : Hid (belowB (a ++ 47 :: b) a = true) := Lib.hid (belowB_iff.2 ⟨hno, ha, b, rfl⟩)
  have hpl : (partV (a ++ 47 :: b)).length = (partV a).length + (partV b).length := by
    rw [partV_yes hno, partV_yes ha, partV_yes hb, pcs_append, List.length_append]
  have Hpl := Lib.hid hpl
  have q1 := partV_len a
  have q2 := partV_len b
  have Ha := Lib.hid ha
  have Hb := Lib.hid hb
  clear hn hno ha hb hpl
  obtain ⟨c, hc⟩ : ∃ c, a ++ 47 :: b = c := ⟨_, rfl⟩
  rw [hc] at Hno Hj add2 Hbl Hpl
  have hlc : c.length ≤ 801 := by rw [← hc]; simp; omega
  clear hc
  go_enter Try.func8, Try.ntmps8
  go_wp2_with (first
    | (go_at_call 10; refine (awake_s _).mono ?_; rintro e w' ⟨rfl, hs⟩; replace h0 := Stp.trans h0 hs; clear hs)
    | (go_at_call 22; refine (join_s a b _ (by omega)).mono ?_; rintro e w' ⟨rfl, hs⟩; replace h0 := Stp.trans h0 hs; clear hs; rw [Hj.out])
    | (go_at_call 20; (with_reducible refine (may_s c _ (by omega)).mono ?_); rintro e w' ⟨rfl, hs⟩; replace h0 := Stp.trans h0 hs; clear hs; rw [Hno.out])
    | (go_at_call 20; (with_reducible refine (may_s a _ (by omega)).mono ?_); rintro e w' ⟨rfl, hs⟩; replace h0 := Stp.trans h0 hs; clear hs; rw [Ha.out])
    | (go_at_call 20; (with_reducible refine (may_s b _ (by omega)).mono ?_); rintro e w' ⟨rfl, hs⟩; replace h0 := Stp.trans h0 hs; clear hs; rw [Hb.out])
    | (go_at_call 21; (with_reducible refine (below_s c a _ (by omega) (by omega)).mono ?_); rintro e w' ⟨rfl, hs⟩; replace h0 := Stp.trans h0 hs; clear hs; rw [Hbl.out])
    | (go_at_call 16; (with_reducible refine (parts_s c _ (by omega)).mono ?_); rintro e w' ⟨A, cap, rfl, hr, hs⟩; replace h0 := Stp.trans h0 hs; clear hs hr; rw [Hpl.out])
    | (go_at_call 16; (with_reducible refine (parts_s a _ (by omega)).mono ?_); rintro e w' ⟨A, cap, rfl, hr, hs⟩; replace h0 := Stp.trans h0 hs; clear hs hr)
    | (go_at_call 16; (with_reducible refine (parts_s b _ (by omega)).mono ?_); rintro e w' ⟨A, cap, rfl, hr, hs⟩; replace h0 := Stp.trans h0 hs; clear hs hr))
  all_goals go_ret
  all_goals first | exact ⟨rfl, h0⟩ | refine ⟨ret_bool ?_, h0⟩

theorem joins_walk (a b : L) (w : World) :
    Calls Try.prog 8 #[.string ⟨a.toArray⟩, .string ⟨b.toArray⟩] w fun e w' => e = .returned (.bool true) ∧ Stp w w' := by
  by_cases hl : a.length ≤ 400 ∧ b.length ≤ 400 ∧ a ≠ []
  · obtain ⟨h1, h2, h3⟩ := hl
    cases hm : mayB (joinV a b)
    · exact joins_no a b w h1 h2 h3 hm
    · rw [joinV_may h3] at hm
      simp only [Bool.and_eq_true, decide_eq_true_eq] at hm
      exact joins_yes a b w hm.1 hm.2.1 hm.2.2
  · exact joins_long a b w hl
end Go.Proofs.Ytkhkjohkgeionaa.Path
