/-
  The document's May of a header, where an early test fails: no statement is proved here.
  The document's May of a header, where the early tests hold: no statement is proved here.
  The document's block of a header of type M: no statement is proved here.
-/
import Derived.Test.YtagkdodjffhlmaaHeadRef3
import Derived.Deep.RegionHeld3
namespace Go.Proofs.Ytagkdodjffhlmaa.Head
open Go.RowKit Go.Proofs.Ytagkdodjffhlmaa.Base Go.Proofs.Ytagkdodjffhlmaa.NumM Go.Proofs.Ytagkdodjffhlmaa.Num

end Go.Proofs.Ytagkdodjffhlmaa.Head

namespace Go.Proofs.Ytagkdodjffhlmaa.Head
open Go.RowKit Go.Proofs.Ytagkdodjffhlmaa.Base Go.Proofs.Ytagkdodjffhlmaa.NumM Go.Proofs.Ytagkdodjffhlmaa.Num

end Go.Proofs.Ytagkdodjffhlmaa.Head

namespace Go.Proofs.Ytagkdodjffhlmaa.Head
open Go.RowKit Go.Proofs.Ytagkdodjffhlmaa.Base Go.Proofs.Ytagkdodjffhlmaa.NumM Go.Proofs.Ytagkdodjffhlmaa.Num

end Go.Proofs.Ytagkdodjffhlmaa.Head

