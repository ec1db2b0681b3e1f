/-
  What the walks of package entry's laws ask of its code, and the chapter's example: no statement is proved here.
-/
import Derived.Test.YtllnnlmhbmladaaGreatDoorEntryM
import Derived.Test.YtllnnlmhbmladaaGreatDoorTreeS
import Derived.Test.YtllnnlmhbmladaaGreatDoorLongTx
import Derived.Test.YtllnnlmhbmladaaGreatDoorHeadMay
import Derived.Test.YtllnnlmhbmladaaGreatDoorBlockRef
namespace Go.Proofs.YtllnnlmhbmladaaGreatDoor.Entry
open Go.RowKit Go.Proofs.YtllnnlmhbmladaaGreatDoor.Str Go.Proofs.YtllnnlmhbmladaaGreatDoor.Base Go.Proofs.YtllnnlmhbmladaaGreatDoor.Node Go.Proofs.YtllnnlmhbmladaaGreatDoor.Head Go.Proofs.YtllnnlmhbmladaaGreatDoor.Long
open Go.Proofs.YtllnnlmhbmladaaGreatDoor.Tree (oneB)

end Go.Proofs.YtllnnlmhbmladaaGreatDoor.Entry
