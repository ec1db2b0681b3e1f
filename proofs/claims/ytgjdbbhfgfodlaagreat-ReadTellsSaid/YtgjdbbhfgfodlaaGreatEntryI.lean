/-
  What the walks of package entry's laws ask of its code, and the chapter's example: no statement is proved here.
-/
import Derived.Test.YtgjdbbhfgfodlaaGreatEntryM
import Derived.Test.YtgjdbbhfgfodlaaGreatTreeC4
import Derived.Test.YtgjdbbhfgfodlaaGreatLongTx
import Derived.Test.YtgjdbbhfgfodlaaGreatHeadMay
import Derived.Test.YtgjdbbhfgfodlaaGreatBlockRef
namespace Go.Proofs.YtgjdbbhfgfodlaaGreat.Entry
open Go.RowKit Go.Proofs.YtgjdbbhfgfodlaaGreat.Str Go.Proofs.YtgjdbbhfgfodlaaGreat.Base Go.Proofs.YtgjdbbhfgfodlaaGreat.Node Go.Proofs.YtgjdbbhfgfodlaaGreat.Head Go.Proofs.YtgjdbbhfgfodlaaGreat.Long
open Go.Proofs.YtgjdbbhfgfodlaaGreat.Tree (oneB)

theorem bs_noughts (k : Nat) : (bs (List.replicate k 0)).toArray = Array.replicate k (.int .u8 0) := by simp [bs]
theorem made_stp {w w1 : World} (hg1 : w.grownBy w1 none) : Stp w w1 := ⟨hg1.os, hg1.tape, hg1.output, hg1.size, fun j hj => hg1.block j hj (by simp)⟩
end Go.Proofs.YtgjdbbhfgfodlaaGreat.Entry
