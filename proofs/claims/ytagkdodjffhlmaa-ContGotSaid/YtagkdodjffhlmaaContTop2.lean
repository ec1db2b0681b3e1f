/-
  The walks of package cont's laws that need the document's answers, over any nodes and slices that come in: no statement is proved here.
-/
import Derived.Test.YtagkdodjffhlmaaContA
import Derived.Test.YtagkdodjffhlmaaContTellsW
import Derived.Test.YtagkdodjffhlmaaContGotW
namespace Go.Proofs.Ytagkdodjffhlmaa.Cont
open Go.RowKit Go.Proofs.Ytagkdodjffhlmaa.Str Go.Proofs.Ytagkdodjffhlmaa.Base Go.Proofs.Ytagkdodjffhlmaa.Node Go.Proofs.Ytagkdodjffhlmaa.Head Go.Proofs.Ytagkdodjffhlmaa.Long Go.Proofs.Ytagkdodjffhlmaa.ContM
theorem got_any (ls : List L) (hl : ls.length < 9223372036854775808) (hls : ∀ l ∈ ls, l.length < 9223372036854775808) (A : Option Addr) (c : Nat) (w : World) (ha : RdL w A c ls) :
    Calls Try.prog 5 #[.slice A ls.length c] w fun e w' => e = .returned (.bool true) ∧ Below w.heap.size w w' := got_walk contI ls ls.length rfl hl hls A c w ha
end Go.Proofs.Ytagkdodjffhlmaa.Cont
