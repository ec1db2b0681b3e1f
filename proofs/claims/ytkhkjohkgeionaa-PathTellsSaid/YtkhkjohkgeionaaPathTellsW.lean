/-
  The walk of the statement PathTells: the law returns true and writes nothing that was there; the statement itself is proved in a text of its own.
-/
import Derived.Test.YtkhkjohkgeionaaPathRef2
import Derived.Test.YtkhkjohkgeionaaPathA
namespace Go.Proofs.Ytkhkjohkgeionaa.Path
open Go.RowKit Go.Shelf Go.Proofs.Ytkhkjohkgeionaa.Base Go.Proofs.Ytkhkjohkgeionaa.PathM

set_option maxRecDepth 100000 in
set_option maxHeartbeats 4000000 in
theorem tells_long (p q : L) (w : World) (h : ¬ (p.length ≤ 400 ∧ q.length ≤ 400)) :
    Calls Try.prog 3 #[.string ⟨p.toArray⟩, .string ⟨q.toArray⟩] w fun e w' => e = .returned (.bool true) ∧ Stp w w' := by
  have h0 := Stp.refl w
  have key : decide (400 < (p.length : Int)) = true ∨ (decide (400 < (p.length : Int)) = false ∧ decide (400 < (q.length : Int)) = true) := by
    simp only [decide_eq_true_eq, decide_eq_false_iff_not]
    omega
  clear h
  rcases key with g1 | ⟨g1, g2⟩
  all_goals
    go_enter Try.func3, Try.ntmps3
    go_wp2_with (go_at_call 10; refine (awake_s _).mono ?_; rintro e w' ⟨rfl, hs⟩; replace h0 := Stp.trans h0 hs; clear hs)
    go_ret
    exact ⟨rfl, h0⟩

set_option maxRecDepth 100000 in
set_option maxHeartbeats 4000000 in
theorem tells_short (p q : L) (w : World) (hp : p.length ≤ 400) (hq : q.length ≤ 400) :
    Calls Try.prog 3 #[.string ⟨p.toArray⟩, .string ⟨q.toArray⟩] w fun e w' => e = .returned (.bool true) ∧ Stp w w' := by
  have h0 := Stp.refl w
  have g1 : decide (400 < (p.length : Int)) = false := decide_eq_false (by omega)
  have g2 : decide (400 < (q.length : Int)) = false := decide_eq_false (by omega)
  have hpl := partV_len p
  obtain ⟨a, ha⟩ : ∃ a, parV p = a := ⟨_, rfl⟩
  obtain ⟨ab, hab⟩ : ∃ ab, parB p = ab := ⟨_, rfl⟩
  obtain ⟨⟨x, y⟩, hxy⟩ : ∃ xy, splV p = xy := ⟨_, rfl⟩
  obtain ⟨sb, hsb⟩ : ∃ sb, splB p = sb := ⟨_, rfl⟩
  obtain ⟨m, hm⟩ : ∃ m, mayB p = m := ⟨_, rfl⟩
  obtain ⟨bl, hbl⟩ : ∃ bl, belowB p q = bl := ⟨_, rfl⟩
  obtain ⟨j, hj⟩ : ∃ j, joinV p q = j := ⟨_, rfl⟩
  obtain ⟨xs, hxs⟩ : ∃ xs, partV p = xs := ⟨_, rfl⟩
  rw [hxs] at hpl
  have Ha := Lib.hid ha
  have Hab := Lib.hid hab
  have Hxy := Lib.hid hxy
  have Hsb := Lib.hid hsb
  have Hm := Lib.hid hm
  have Hbl := Lib.hid hbl
  have Hj := Lib.hid hj
  have Hxs := Lib.hid hxs
  clear ha hab hxy hsb hm hbl hj hxs
  go_enter Try.func3, Try.ntmps3
  go_wp2_with (first
    | (go_at_call 10; refine (awake_s _).mono ?_; rintro e w' ⟨rfl, hs⟩; replace h0 := Stp.trans h0 hs; clear hs)
    | (go_at_call 11; refine (parent_s p _ (by omega)).mono ?_; rintro e w' ⟨rfl, hs⟩; replace h0 := Stp.trans h0 hs; clear hs; rw [Ha.out, Hab.out])
    | (go_at_call 12; refine (rparent_s p _ (by omega)).mono ?_; rintro e w' ⟨rfl, hs⟩; replace h0 := Stp.trans h0 hs; clear hs; rw [Ha.out, Hab.out])
    | (go_at_call 13; refine (split_s p _ (by omega)).mono ?_; rintro e w' ⟨rfl, hs⟩; replace h0 := Stp.trans h0 hs; clear hs; rw [Hxy.out, Hsb.out])
    | (go_at_call 14; refine (rsplit_s p _ (by omega)).mono ?_; rintro e w' ⟨rfl, hs⟩; replace h0 := Stp.trans h0 hs; clear hs; rw [Hxy.out, Hsb.out])
    | (go_at_call 16; refine (parts_s p _ (by omega)).mono ?_; rintro e w' ⟨A, cap, rfl, hr, hs⟩; replace h0 := Stp.trans h0 hs; rw [Hxs.out] at hr ⊢; clear hs)
    | (go_at_call 17; refine (rparts_s p _ (by omega)).mono ?_; rintro e w' ⟨B, cap2, rfl, hr2, hs⟩; replace h0 := Stp.trans h0 hs; replace hr := RdA.keep (by assumption) hs; rw [Hxs.out] at hr2 ⊢; clear hs)
    | (go_at_call 15; refine (texts_s xs _ _ _ _ _ hpl (by assumption) (by assumption)).mono ?_; rintro e w' ⟨rfl, hs⟩; replace h0 := Stp.trans h0 hs; clear hs)
    | (go_at_call 18; refine (rmay_s p _ (by omega)).mono ?_; rintro e w' ⟨rfl, hs⟩; replace h0 := Stp.trans h0 hs; clear hs; rw [Hm.out])
    | (go_at_call 20; refine (may_s p _ (by omega)).mono ?_; rintro e w' ⟨rfl, hs⟩; replace h0 := Stp.trans h0 hs; clear hs; rw [Hm.out])
    | (go_at_call 19; refine (rbelow_s p q _ (by omega) (by omega)).mono ?_; rintro e w' ⟨rfl, hs⟩; replace h0 := Stp.trans h0 hs; clear hs; rw [Hbl.out])
    | (go_at_call 21; refine (below_s p q _ (by omega) (by omega)).mono ?_; rintro e w' ⟨rfl, hs⟩; replace h0 := Stp.trans h0 hs; clear hs; rw [Hbl.out])
    | (go_at_call 23; refine (rjoin_s p q _ (by omega)).mono ?_; rintro e w' ⟨rfl, hs⟩; replace h0 := Stp.trans h0 hs; clear hs; rw [Hj.out])
    | (go_at_call 22; refine (join_s p q _ (by omega)).mono ?_; rintro e w' ⟨rfl, hs⟩; replace h0 := Stp.trans h0 hs; clear hs; rw [Hj.out]))
  go_ret
  exact ⟨rfl, h0⟩

theorem tells_full (a b : ByteArray) (w : World) (ha : a.size ≤ maxLen) (hb : b.size ≤ maxLen) : Calls Try.prog 3 #[.string a, .string b] w fun e w' => e = .returned (.bool true) ∧ Below w.heap.size w w' := by
  obtain ⟨a, rfl, ha⟩ := str_form a ha
  obtain ⟨b, rfl, hb⟩ := str_form b hb
  by_cases h : a.length ≤ 400 ∧ b.length ≤ 400
  · exact tells_short a b w h.1 h.2
  · exact tells_long a b w h
end Go.Proofs.Ytkhkjohkgeionaa.Path
