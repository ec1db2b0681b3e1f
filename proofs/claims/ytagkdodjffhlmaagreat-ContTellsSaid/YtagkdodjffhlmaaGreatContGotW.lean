/-
  The law ContGot, walked over the contracts: no statement is proved here.
-/
import Derived.Test.YtagkdodjffhlmaaGreatContTellsW
import Derived.Test.YtagkdodjffhlmaaGreatEntrySl
import Derived.Deep.Cut
namespace Go.Proofs.YtagkdodjffhlmaaGreat.Cont
open Go.RowKit Go.Proofs.YtagkdodjffhlmaaGreat.Str Go.Proofs.YtagkdodjffhlmaaGreat.Base Go.Proofs.YtagkdodjffhlmaaGreat.Node Go.Proofs.YtagkdodjffhlmaaGreat.Head Go.Proofs.YtagkdodjffhlmaaGreat.Long Go.Proofs.YtagkdodjffhlmaaGreat.ContM
open Go.Proofs.YtagkdodjffhlmaaGreat.Tree (oneB)
set_option linter.unusedVariables false

end Go.Proofs.YtagkdodjffhlmaaGreat.Cont
