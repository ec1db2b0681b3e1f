/-
  The code of entry's Put, as the walks of package parse's laws ask of it. No statement is proved here.
-/
import Derived.Test.YtejgnhicgeiceaaEntryK2
import Derived.Test.YtejgnhicgeiceaaParseTypesW
namespace Go.Proofs.Ytejgnhicgeiceaa.Parse
open Go.RowKit Go.Proofs.Ytejgnhicgeiceaa.Base Go.Proofs.Ytejgnhicgeiceaa.Node

theorem putI : PutI where
  put := fun n v hv hn w => by
    subst hv
    exact Entry.eput_s n hn w
end Go.Proofs.Ytejgnhicgeiceaa.Parse
