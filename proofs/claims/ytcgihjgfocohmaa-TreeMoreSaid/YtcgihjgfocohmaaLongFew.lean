/-
  Has a node few bytes: the laws' own question: no statement is proved here.
-/
import Derived.Test.YtcgihjgfocohmaaLongTx
import Derived.Test.YtcgihjgfocohmaaNode
namespace Go.Proofs.Ytcgihjgfocohmaa.Long
open Go.RowKit Go.Proofs.Ytcgihjgfocohmaa.Str Go.Proofs.Ytcgihjgfocohmaa.Base Go.Proofs.Ytcgihjgfocohmaa.Node

def fewN (n : Nd) : Bool := decide (n.path.length ≤ 400) && (decide (n.link.length ≤ 400) && decide (n.data.length ≤ 5000))
theorem fewN_iff {n : Nd} : fewN n = true ↔ n.path.length ≤ 400 ∧ n.link.length ≤ 400 ∧ n.data.length ≤ 5000 := by simp [fewN]
set_option maxRecDepth 100000 in
theorem few_s (n : Nd) (w : World) : Calls Try.prog 10 #[nv n] w fun e w' => e = .returned (.bool (fewN n)) ∧ Stp w w' := by
  have h0 := Stp.refl w
  obtain ⟨q0, q1, q2, q3, q4, q5, q6, q7⟩ := nd_cells (Blk.new w 23 (ncells n))
  go_enter Try.func10, Try.ntmps10
  go_wp2_with fail
  all_goals go_ret
  all_goals refine ⟨congrArg (fun b => Ending.returned (.bool b)) ?_, Stp.alloc h0 _⟩
  all_goals (unfold fewN; rw [Bool.eq_iff_iff])
  all_goals simp only [Bool.and_eq_true, decide_eq_true_eq, Bool.false_eq_true]
  · omega
  all_goals exact ⟨fun h => h.elim, fun h => by omega⟩
end Go.Proofs.Ytcgihjgfocohmaa.Long
