/-
  What the walks of package entry's laws ask of its code, and the chapter's example: no statement is proved here.
-/
import Derived.Test.YthjdejjejlhioaaGreatDoorEntryM
import Derived.Test.YthjdejjejlhioaaGreatDoorTreeS
import Derived.Test.YthjdejjejlhioaaGreatDoorLongTx
import Derived.Test.YthjdejjejlhioaaGreatDoorHeadMay
import Derived.Test.YthjdejjejlhioaaGreatDoorBlockRef
namespace Go.Proofs.YthjdejjejlhioaaGreatDoor.Entry
open Go.RowKit Go.Proofs.YthjdejjejlhioaaGreatDoor.Str Go.Proofs.YthjdejjejlhioaaGreatDoor.Base Go.Proofs.YthjdejjejlhioaaGreatDoor.Node Go.Proofs.YthjdejjejlhioaaGreatDoor.Head Go.Proofs.YthjdejjejlhioaaGreatDoor.Long
open Go.Proofs.YthjdejjejlhioaaGreatDoor.Tree (oneB)

theorem bs_noughts (k : Nat) : (bs (List.replicate k 0)).toArray = Array.replicate k (.int .u8 0) := by simp [bs]
theorem made_stp {w w1 : World} (hg1 : w.grownBy w1 none) : Stp w w1 := ⟨hg1.os, hg1.tape, hg1.output, hg1.size, fun j hj => hg1.block j hj (by simp)⟩
end Go.Proofs.YthjdejjejlhioaaGreatDoor.Entry
