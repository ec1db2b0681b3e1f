/-
  What package parse's code does of a long text: whole, isTextSize, awaitText. No statement is proved here.
-/
import Derived.Test.YtllnnlmhbmladaaGreatDoorParseR
import Derived.Test.YtllnnlmhbmladaaGreatDoorHeadHlp
import Derived.Deep.Cut
import Derived.BigRegion
namespace Go.Proofs.YtllnnlmhbmladaaGreatDoor.Parse
open Go.RowKit Go.Proofs.YtllnnlmhbmladaaGreatDoor.Str Go.Proofs.YtllnnlmhbmladaaGreatDoor.Base Go.Proofs.YtllnnlmhbmladaaGreatDoor.Node Go.Proofs.YtllnnlmhbmladaaGreatDoor.Long Go.Proofs.YtllnnlmhbmladaaGreatDoor.Head

set_option maxRecDepth 100000 in
theorem size_s (n : Int) (w : World) : Calls Tryz.prog 50 #[.int .i64 n] w fun e w' => e = .returned (.bool (decide (2 ≤ n) && decide (n ≤ 301))) ∧ Stp w w' := by
  have h0 := Stp.refl w
  go_enter Tryz.func50, Tryz.ntmps50
  go_wp2_with fail
  all_goals go_ret
  all_goals refine ⟨congrArg (fun b => Ending.returned (.bool b)) ?_, h0⟩
  all_goals rw [Bool.eq_iff_iff]
  all_goals simp only [Bool.and_eq_true, decide_eq_true_eq]
  all_goals first | omega | (simp_all; done) | (simp_all; omega)

end Go.Proofs.YtllnnlmhbmladaaGreatDoor.Parse
