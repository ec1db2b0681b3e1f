/-
  What the walks of package entry's laws ask of its code, and the chapter's example: no statement is proved here.
-/
import Derived.Test.YthjdejjejlhioaaGreatDoorEntryM
import Derived.Test.YthjdejjejlhioaaGreatDoorTreeS
import Derived.Test.YthjdejjejlhioaaGreatDoorLongTx
import Derived.Test.YthjdejjejlhioaaGreatDoorHeadMay
import Derived.Test.YthjdejjejlhioaaGreatDoorBlockRef
namespace Go.Proofs.YthjdejjejlhioaaGreatDoor.Entry
open Go.RowKit Go.Proofs.YthjdejjejlhioaaGreatDoor.Str Go.Proofs.YthjdejjejlhioaaGreatDoor.Base Go.Proofs.YthjdejjejlhioaaGreatDoor.Node Go.Proofs.YthjdejjejlhioaaGreatDoor.Head Go.Proofs.YthjdejjejlhioaaGreatDoor.Long
open Go.Proofs.YthjdejjejlhioaaGreatDoor.Tree (oneB)

end Go.Proofs.YthjdejjejlhioaaGreatDoor.Entry
