/-
  The walks of package cont's laws that need the document's answers, over any nodes and slices that come in: no statement is proved here.
-/
import Derived.Test.YtagkdodjffhlmaaGreatContA
import Derived.Test.YtagkdodjffhlmaaGreatContTellsW
import Derived.Test.YtagkdodjffhlmaaGreatContGotW
namespace Go.Proofs.YtagkdodjffhlmaaGreat.Cont
open Go.RowKit Go.Proofs.YtagkdodjffhlmaaGreat.Str Go.Proofs.YtagkdodjffhlmaaGreat.Base Go.Proofs.YtagkdodjffhlmaaGreat.Node Go.Proofs.YtagkdodjffhlmaaGreat.Head Go.Proofs.YtagkdodjffhlmaaGreat.Long Go.Proofs.YtagkdodjffhlmaaGreat.ContM
theorem tells_any (n : Nd) (hn : SmallN n) (off : Int) (ls : List L) (hl : ls.length < 9223372036854775808) (hls : ∀ l ∈ ls, l.length < 9223372036854775808) (A : Option Addr) (c : Nat) (w : World) (ha : RdL w A c ls) :
    Calls Tryz.prog 3 #[nv n, .int .i64 off, .slice A ls.length c] w fun e w' => e = .returned (.bool true) ∧ Below w.heap.size w w' := tells_walk contI n hn off ls ls.length rfl hl hls A c w ha
end Go.Proofs.YtagkdodjffhlmaaGreat.Cont
