/-
  Contracts of package tree: each rule, the bounds, One: no statement is proved here.
-/
import Derived.Test.YtcgihjgfocohmaaTreeC2
namespace Go.Proofs.Ytcgihjgfocohmaa.Tree
open Go.RowKit Go.Proofs.Ytcgihjgfocohmaa.Base Go.Proofs.Ytcgihjgfocohmaa.Node Go.Proofs.Ytcgihjgfocohmaa.Long

def bareB (n : Nd) : Bool := decide (n = ⟨n.path, n.link, n.kind, 0, 0, 0, 0, []⟩)
theorem bareB_is (n : Nd) : bareB n = ((n.data == []) && (decide (n.mode = 0) && (decide (n.uid = 0) && (decide (n.gid = 0) && decide (n.time = 0))))) := by
  rw [Bool.eq_iff_iff]
  unfold bareB
  rw [decide_eq_true_eq, Nd.ext_iff']
  simp
  constructor
  · rintro ⟨h1, h2, h3, h4, h5⟩
    exact ⟨h5, h1, h2, h3, h4⟩
  · rintro ⟨h5, h1, h2, h3, h4⟩
    exact ⟨h1, h2, h3, h4, h5⟩

set_option maxRecDepth 100000 in
theorem rule1_s (n : Nd) (w : World) : Calls Try.prog 41 #[nv n] w fun e w' => e = .returned (.bool ((n.link == []) && decide ((n.data.length : Int) ≤ 4000))) ∧ Stp w w' := by
  have h0 := Stp.refl w
  obtain ⟨q0, q1, q2, q3, q4, q5, q6, q7⟩ := nd_cells (Blk.new w 23 (ncells n))
  go_enter Try.func41, Try.ntmps41
  go_wp2_with fail
  all_goals go_ret
  all_goals refine ⟨congrArg (fun b => Ending.returned (.bool b)) ?_, Stp.alloc h0 _⟩
  all_goals simp [*]
set_option maxRecDepth 100000 in
theorem rule2_s (n : Nd) (hn : SmallN n) (w : World) : Calls Try.prog 42 #[nv n] w fun e w' => e = .returned (.bool (PathM.mayB n.link && bareB n)) ∧ Stp w w' := by
  have h0 := Stp.refl w
  have Hb0 := Lib.hid (Blk.new w 23 (ncells n))
  have H0 := Lib.hid (Stp.alloc h0 (.cells (ncells n) 23))
  obtain ⟨q0, q1, q2, q3, q4, q5, q6, q7⟩ := nd_cells Hb0.out
  have Hn := Lib.hid hn
  obtain ⟨m2, h2⟩ : ∃ m, PathM.mayB n.link = m := ⟨_, rfl⟩
  have F2 := Lib.hid h2
  rw [h2]
  clear h2 hn
  go_enter Try.func42, Try.ntmps42
  go_wp2_with (first
    | (go_at_call 31; refine (Path.may_s n.link _ Hn.out.link).mono ?_; rintro e w1 ⟨rfl, hs⟩; rw [F2.out]; have Hb := Lib.hid (Hb0.out.keep hs Hb0.out.lt); have H := Lib.hid (Stp.trans H0.out hs); clear hs q0 q1 q2 q3 q4 q5 q6 q7; obtain ⟨q0, q1, q2, q3, q4, q5, q6, q7⟩ := nd_cells Hb.out; rcases m2))
  all_goals go_ret
  all_goals refine ⟨congrArg (fun b => Ending.returned (.bool b)) ?_, H.out⟩
  all_goals first | rfl | (rw [bareB_is]; simp [*])
set_option maxRecDepth 100000 in
theorem rule3_s (n : Nd) (hn : SmallN n) (w : World) : Calls Try.prog 43 #[nv n] w fun e w' => e = .returned (.bool (textL n.link && (n.data == []))) ∧ Stp w w' := by
  have h0 := Stp.refl w
  have Hb0 := Lib.hid (Blk.new w 23 (ncells n))
  have H0 := Lib.hid (Stp.alloc h0 (.cells (ncells n) 23))
  obtain ⟨q0, q1, q2, q3, q4, q5, q6, q7⟩ := nd_cells Hb0.out
  have Hn := Lib.hid hn
  obtain ⟨m2, h2⟩ : ∃ m, textL n.link = m := ⟨_, rfl⟩
  have F2 := Lib.hid h2
  rw [h2]
  clear h2 hn
  go_enter Try.func43, Try.ntmps43
  go_wp2_with (first
    | (go_at_call 44; refine (text_s n.link _).mono ?_; rintro e w1 ⟨rfl, hs⟩; rw [F2.out]; have Hb := Lib.hid (Hb0.out.keep hs Hb0.out.lt); have H := Lib.hid (Stp.trans H0.out hs); clear hs q0 q1 q2 q3 q4 q5 q6 q7; obtain ⟨q0, q1, q2, q3, q4, q5, q6, q7⟩ := nd_cells Hb.out; rcases m2))
  all_goals go_ret
  all_goals refine ⟨congrArg (fun b => Ending.returned (.bool b)) ?_, H.out⟩
  all_goals first | rfl | (simp [*])
set_option maxRecDepth 100000 in
theorem rule4_s (n : Nd) (w : World) : Calls Try.prog 45 #[nv n] w fun e w' => e = .returned (.bool ((n.link == []) && (n.data == []))) ∧ Stp w w' := by
  have h0 := Stp.refl w
  obtain ⟨q0, q1, q2, q3, q4, q5, q6, q7⟩ := nd_cells (Blk.new w 23 (ncells n))
  go_enter Try.func45, Try.ntmps45
  go_wp2_with fail
  all_goals go_ret
  all_goals refine ⟨congrArg (fun b => Ending.returned (.bool b)) ?_, Stp.alloc h0 _⟩
  all_goals simp [*]

set_option maxRecDepth 100000 in
theorem within_s (x most : Int) (w : World) : Calls Try.prog 50 #[.int .i64 x, .int .i64 most] w fun e w' => e = .returned (.bool (decide (0 ≤ x ∧ x ≤ most))) ∧ Stp w w' := by
  have h0 := Stp.refl w
  go_enter Try.func50, Try.ntmps50
  go_wp2_with fail
  all_goals go_ret
  all_goals refine ⟨congrArg (fun b => Ending.returned (.bool b)) ?_, h0⟩
  all_goals first | (symm; simp; omega; done) | (simp; omega; done)

set_option maxRecDepth 100000 in
theorem bounded_s (n : Nd) (w : World) : Calls Try.prog 32 #[nv n] w fun e w' => e = .returned (.bool (numsB n)) ∧ Stp w w' := by
  have h0 := Stp.refl w
  have Hb := Lib.hid (Blk.new w 23 (ncells n))
  have H := Lib.hid (Stp.alloc h0 (.cells (ncells n) 23))
  obtain ⟨q0, q1, q2, q3, q4, q5, q6, q7⟩ := nd_cells Hb.out
  obtain ⟨b1, h1⟩ : ∃ b, decide (0 ≤ n.mode ∧ n.mode ≤ 4095) = b := ⟨_, rfl⟩
  obtain ⟨b2, h2⟩ : ∃ b, decide (0 ≤ n.uid ∧ n.uid ≤ 1099511627776) = b := ⟨_, rfl⟩
  obtain ⟨b3, h3⟩ : ∃ b, decide (0 ≤ n.gid ∧ n.gid ≤ 1099511627776) = b := ⟨_, rfl⟩
  obtain ⟨b4, h4⟩ : ∃ b, decide (0 ≤ n.time ∧ n.time ≤ 1099511627776) = b := ⟨_, rfl⟩
  have F1 := Lib.hid h1
  have F2 := Lib.hid h2
  have F3 := Lib.hid h3
  have F4 := Lib.hid h4
  rw [show numsB n = (b1 && (b2 && (b3 && b4))) from by unfold numsB; rw [h1, h2, h3, h4]]
  clear h1 h2 h3 h4
  go_enter Try.func32, Try.ntmps32
  go_wp2_with (first
    | (go_at_call 50; (with_reducible refine (within_s n.mode 4095 _).mono ?_); rintro e w1 ⟨rfl, hs⟩; rw [F1.out]; replace Hb := Lib.hid (Hb.out.keep hs Hb.out.lt); replace H := Lib.hid (Stp.trans H.out hs); clear hs q0 q1 q2 q3 q4 q5 q6 q7; obtain ⟨q0, q1, q2, q3, q4, q5, q6, q7⟩ := nd_cells Hb.out; rcases b1)
    | (go_at_call 50; (with_reducible refine (within_s n.uid 1099511627776 _).mono ?_); rintro e w1 ⟨rfl, hs⟩; rw [F2.out]; replace Hb := Lib.hid (Hb.out.keep hs Hb.out.lt); replace H := Lib.hid (Stp.trans H.out hs); clear hs q0 q1 q2 q3 q4 q5 q6 q7; obtain ⟨q0, q1, q2, q3, q4, q5, q6, q7⟩ := nd_cells Hb.out; rcases b2)
    | (go_at_call 50; (with_reducible refine (within_s n.gid 1099511627776 _).mono ?_); rintro e w1 ⟨rfl, hs⟩; rw [F3.out]; replace Hb := Lib.hid (Hb.out.keep hs Hb.out.lt); replace H := Lib.hid (Stp.trans H.out hs); clear hs q0 q1 q2 q3 q4 q5 q6 q7; obtain ⟨q0, q1, q2, q3, q4, q5, q6, q7⟩ := nd_cells Hb.out; rcases b3)
    | (go_at_call 50; (with_reducible refine (within_s n.time 1099511627776 _).mono ?_); rintro e w1 ⟨rfl, hs⟩; rw [F4.out]; replace Hb := Lib.hid (Hb.out.keep hs Hb.out.lt); replace H := Lib.hid (Stp.trans H.out hs); clear hs q0 q1 q2 q3 q4 q5 q6 q7; obtain ⟨q0, q1, q2, q3, q4, q5, q6, q7⟩ := nd_cells Hb.out))
  all_goals go_ret
  all_goals exact ⟨rfl, H.out⟩
end Go.Proofs.Ytcgihjgfocohmaa.Tree
