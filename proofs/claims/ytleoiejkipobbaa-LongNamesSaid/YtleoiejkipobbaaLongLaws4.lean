/-
  The walk of LongNames: no statement is proved here.
-/
import Derived.Test.YtleoiejkipobbaaLongLaws
namespace Go.Proofs.Ytleoiejkipobbaa.Long
open Go.RowKit Go.Proofs.Ytleoiejkipobbaa.Str Go.Proofs.Ytleoiejkipobbaa.Base Go.Proofs.Ytleoiejkipobbaa.Node Go.Proofs.Ytleoiejkipobbaa.Head

theorem names_facts {n : Nd} (hm : PathM.mayB n.path = true) : nameV n ≠ [] ∧ (nameV n).length ≤ 100 ∧ (preV n).length ≤ 155 ∧ (linkV n).length ≤ 100 ∧ (needN n = false → PathM.joinV (preV n) (nameV n) = n.path) ∧ (needN n = true → 100 < n.path.length) ∧ (needL n = false → linkV n = n.link) := by
  have hl : needL n = false → linkV n = n.link := fun h => by
    unfold needL at h
    unfold linkV
    rw [decide_eq_false_iff_not] at h
    exact List.take_of_length_le (by omega)
  have hlk : (linkV n).length ≤ 100 := by unfold linkV; rw [List.length_take]; omega
  cases hn : needN n
  · have hs : PathM.splB n.path = true := by
      unfold needN at hn
      rw [hm] at hn
      simpa using hn
    obtain ⟨_, h2, h3, h4, h5, _⟩ := PathM.split_facts hs
    have e1 : nameV n = (PathM.splV n.path).2 := by unfold nameV; rw [hn]; simp
    rw [e1]
    exact ⟨h5, h4, h3, hlk, fun _ => h2, fun h => by simp at h, hl⟩
  · obtain ⟨_, _, h3, h4⟩ := needN_facts hn
    have e1 : nameV n = n.path.take 100 := by unfold nameV; rw [hn]; simp
    rw [e1]
    refine ⟨?_, by rw [List.length_take]; omega, by unfold preV; rw [h4]; simp, hlk, fun h => by simp at h, fun _ => h3, hl⟩
    intro e
    have : (n.path.take 100).length = 0 := by rw [e]; rfl
    rw [List.length_take] at this
    omega
theorem join_q (p q : L) (w : World) (h : p.length + q.length + 1 ≤ 9223372036854775807) : Calls Try.prog 37 #[.string ⟨p.toArray⟩, .string ⟨q.toArray⟩] w fun e w' => e = .returned (.string ⟨(PathM.joinV p q).toArray⟩) ∧ w' = w :=
  (Path.join_any p q w h).mono fun _ _ ⟨h1, h2⟩ => ⟨h1, h2.symm⟩

set_option maxRecDepth 100000 in
set_option maxHeartbeats 4000000 in
theorem names_walk (n : Nd) (hn : SmallN n) (w : World) :
    Calls Try.prog 6 #[nv n] w fun e w' => e = .returned (.bool true) ∧ Stp w w' := by
  have h0 := Stp.refl w
  have Hn := Lib.hid hn
  have Hb0 := Lib.hid (Blk.new w 35 (ncells n))
  have H0 := Lib.hid (Stp.alloc h0 (.cells (ncells n) 35))
  obtain ⟨m, hm⟩ : ∃ b, PathM.mayB n.path = b := ⟨_, rfl⟩
  obtain ⟨fw, hf⟩ : ∃ b, fewN n = b := ⟨_, rfl⟩
  obtain ⟨nn, h1⟩ : ∃ b, needN n = b := ⟨_, rfl⟩
  obtain ⟨bl, h2⟩ : ∃ b, needL n = b := ⟨_, rfl⟩
  obtain ⟨nm, h3⟩ : ∃ b, nameV n = b := ⟨_, rfl⟩
  obtain ⟨pr, h4⟩ : ∃ b, preV n = b := ⟨_, rfl⟩
  obtain ⟨tl, h5⟩ : ∃ b, linkV n = b := ⟨_, rfl⟩
  have Hm := Lib.hid hm
  have Hf := Lib.hid hf
  have F1 := Lib.hid h1
  have F2 := Lib.hid h2
  have F3 := Lib.hid h3
  have F4 := Lib.hid h4
  have F5 := Lib.hid h5
  have Hfa := Lib.hid (fun h => names_facts (n := n) h)
  clear hm hf h1 h2 h3 h4 h5 hn
  go_enter Try.func6, Try.ntmps6
  go_wp2_with (first
    | (go_at_call 21; refine (awake_s _).mono ?_; rintro e w1 ⟨rfl, hs⟩; have Hb := Lib.hid (Hb0.out.keep hs Hb0.out.lt); have H := Lib.hid (Stp.trans H0.out hs); clear hs; obtain ⟨q0, q1, q2, q3, q4, q5, q6, q7⟩ := nd_cells Hb.out)
    | (go_at_call 22; refine (few_s n _).mono ?_; rintro e w2 ⟨rfl, hs⟩; rw [Hf.out]; replace Hb := Lib.hid (Hb.out.keep hs Hb.out.lt); replace H := Lib.hid (Stp.trans H.out hs); clear hs q0 q1 q2 q3 q4 q5 q6 q7; obtain ⟨q0, q1, q2, q3, q4, q5, q6, q7⟩ := nd_cells Hb.out; rcases fw)
    | (go_at_call 36; refine (Path.may_s n.path _ Hn.out.path).mono ?_; rintro e w3 ⟨rfl, hs⟩; rw [Hm.out]; replace Hb := Lib.hid (Hb.out.keep hs Hb.out.lt); replace H := Lib.hid (Stp.trans H.out hs); clear hs q0 q1 q2 q3 q4 q5 q6 q7; obtain ⟨q0, q1, q2, q3, q4, q5, q6, q7⟩ := nd_cells Hb.out; rcases m)
    | (go_at_call 25; refine (needs_s n Hn.out _).mono ?_; rintro e w4 ⟨rfl, hs⟩; rw [F1.out, F2.out]; replace Hb := Lib.hid (Hb.out.keep hs Hb.out.lt); replace H := Lib.hid (Stp.trans H.out hs); clear hs q0 q1 q2 q3 q4 q5 q6 q7; obtain ⟨q0, q1, q2, q3, q4, q5, q6, q7⟩ := nd_cells Hb.out)
    | (go_at_call 27; refine (names_s n Hn.out _).mono ?_; rintro e w5 ⟨rfl, hs⟩; rw [F3.out, F4.out, F5.out]; replace Hb := Lib.hid (Hb.out.keep hs Hb.out.lt); replace H := Lib.hid (Stp.trans H.out hs); clear hs q0 q1 q2 q3 q4 q5 q6 q7; obtain ⟨q0, q1, -⟩ := nd_cells Hb.out; obtain ⟨k1, k2, k3, k4, k5, k6, k7⟩ := Hfa.out Hm.out; rw [F3.out] at k1 k2 k5; rw [F4.out] at k3 k5; rw [F5.out] at k4 k7; rw [F1.out] at k5 k6; rw [F2.out] at k7; have g0 : (nm == ([] : L)) = false := beq_eq_false_iff_ne.2 k1; have g1 : decide ((100 : Int) < (nm.length : Int)) = false := decide_eq_false (by omega); have g2 : decide ((155 : Int) < (pr.length : Int)) = false := decide_eq_false (by omega); have g3 : decide ((100 : Int) < (tl.length : Int)) = false := decide_eq_false (by omega); have K5 := Lib.hid k5; have K6 := Lib.hid k6; have K7 := Lib.hid k7; clear k1 k5 k6 k7))
  · go_ret
    exact ⟨rfl, H.out⟩
  · go_ret
    exact ⟨rfl, H.out⟩
  · have hL := needL_is n
    rw [F2.out] at hL
    cases nn
    · have gj : (PathM.joinV pr nm == n.path) = true := beq_iff_eq.2 (K5.out rfl)
      cases bl
      · have gl : decide ((100 : Int) < (n.link.length : Int)) = false := hL.symm
        clear hL
        have gt : (tl == n.link) = true := beq_iff_eq.2 (K7.out rfl)
        go_quiet ((go_at_call 37; exact Calls.quiet_of_same (join_q pr nm _ (by omega))))
        go_wp2_with fail
        go_ret
        exact ⟨rfl, H.out.drewN _⟩
      · have gl : decide ((100 : Int) < (n.link.length : Int)) = true := hL.symm
        clear hL
        go_quiet ((go_at_call 37; exact Calls.quiet_of_same (join_q pr nm _ (by omega))))
        go_wp2_with fail
        go_ret
        exact ⟨rfl, H.out.drewN _⟩
    · have gp : decide ((100 : Int) < (n.path.length : Int)) = true := decide_eq_true (by have := K6.out rfl; omega)
      cases bl
      · have gl : decide ((100 : Int) < (n.link.length : Int)) = false := hL.symm
        clear hL
        have gt : (tl == n.link) = true := beq_iff_eq.2 (K7.out rfl)
        go_quiet (fail)
        go_wp2_with fail
        go_ret
        exact ⟨rfl, H.out.drewN _⟩
      · have gl : decide ((100 : Int) < (n.link.length : Int)) = true := hL.symm
        clear hL
        go_quiet (fail)
        go_wp2_with fail
        go_ret
        exact ⟨rfl, H.out.drewN _⟩
end Go.Proofs.Ytleoiejkipobbaa.Long
