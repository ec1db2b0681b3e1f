/-
  Contracts of the document's answers for paths (package reelkeeperref02): no statement is proved here.
  Contracts of the document's answers for paths (package reelkeeperref02): Parts, Parent, Below, Join, Split, Texts: no statement is proved here.
-/
import Derived.Test.YtllnnlmhbmladaaGreatDoorPathK
namespace Go.Proofs.YtllnnlmhbmladaaGreatDoor.Path
open Go.RowKit Go.Shelf Go.Proofs.YtllnnlmhbmladaaGreatDoor.Base Go.Proofs.YtllnnlmhbmladaaGreatDoor.PathM

end Go.Proofs.YtllnnlmhbmladaaGreatDoor.Path

namespace Go.Proofs.YtllnnlmhbmladaaGreatDoor.Path
open Go.RowKit Go.Shelf Go.Proofs.YtllnnlmhbmladaaGreatDoor.Base Go.Proofs.YtllnnlmhbmladaaGreatDoor.PathM

end Go.Proofs.YtllnnlmhbmladaaGreatDoor.Path

