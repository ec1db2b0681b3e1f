/-
  The document's block of a header that is not of type M: no statement is proved here.
-/
import Derived.Test.YtagkdodjffhlmaaHeadRef3
import Derived.Deep.RegionHeld3
namespace Go.Proofs.Ytagkdodjffhlmaa.Head
open Go.RowKit Go.Proofs.Ytagkdodjffhlmaa.Base Go.Proofs.Ytagkdodjffhlmaa.NumM Go.Proofs.Ytagkdodjffhlmaa.Num

end Go.Proofs.Ytagkdodjffhlmaa.Head
