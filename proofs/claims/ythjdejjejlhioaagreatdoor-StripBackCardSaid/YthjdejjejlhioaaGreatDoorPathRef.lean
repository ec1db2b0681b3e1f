/-
  Contracts of the document's answers for paths (package reelkeeperref02): no statement is proved here.
  Contracts of the document's answers for paths (package reelkeeperref02): Parts, Parent, Below, Join, Split, Texts: no statement is proved here.
-/
import Derived.Test.YthjdejjejlhioaaGreatDoorPathK
namespace Go.Proofs.YthjdejjejlhioaaGreatDoor.Path
open Go.RowKit Go.Shelf Go.Proofs.YthjdejjejlhioaaGreatDoor.Base Go.Proofs.YthjdejjejlhioaaGreatDoor.PathM

end Go.Proofs.YthjdejjejlhioaaGreatDoor.Path

namespace Go.Proofs.YthjdejjejlhioaaGreatDoor.Path
open Go.RowKit Go.Shelf Go.Proofs.YthjdejjejlhioaaGreatDoor.Base Go.Proofs.YthjdejjejlhioaaGreatDoor.PathM

end Go.Proofs.YthjdejjejlhioaaGreatDoor.Path

