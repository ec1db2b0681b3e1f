/-
  The walks of package cont's laws, over any nodes and slices that come in: no statement is proved here.
-/
import Derived.Test.YtagkdodjffhlmaaContA
import Derived.Test.YtagkdodjffhlmaaContPlacesW
import Derived.Test.YtagkdodjffhlmaaContHeadW
import Derived.Test.YtagkdodjffhlmaaContApartW
import Derived.Test.YtagkdodjffhlmaaContBackW
namespace Go.Proofs.Ytagkdodjffhlmaa.Cont
open Go.RowKit Go.Proofs.Ytagkdodjffhlmaa.Str Go.Proofs.Ytagkdodjffhlmaa.Base Go.Proofs.Ytagkdodjffhlmaa.Node Go.Proofs.Ytagkdodjffhlmaa.Head Go.Proofs.Ytagkdodjffhlmaa.Long Go.Proofs.Ytagkdodjffhlmaa.ContM
theorem places_any (n : Nd) (hn : SmallN n) (k : Int) (w : World) :
    Calls Try.prog 7 #[nv n, .int .i64 k] w fun e w' => e = .returned (.bool true) ∧ Below w.heap.size w w' := places_walk contI n hn k w
theorem head_any (n : Nd) (hn : SmallN n) (off : Int) (w : World) :
    Calls Try.prog 4 #[nv n, .int .i64 off] w fun e w' => e = .returned (.bool true) ∧ Below w.heap.size w w' := head_walk contI n hn off w
theorem apart_any (n : Nd) (hn : SmallN n) (off : Int) (m : Nd) (hm : SmallN m) (at_ : Int) (w : World) :
    Calls Try.prog 6 #[nv n, .int .i64 off, nv m, .int .i64 at_] w fun e w' => e = .returned (.bool true) ∧ Below w.heap.size w w' := apart_walk contI n hn off m hm at_ w
theorem back_any (n : Nd) (hn : SmallN n) (off : Int) (ls : List L) (hls : ∀ l ∈ ls, l.length < 9223372036854775808) (A : Option Addr) (c : Nat) (w : World) (ha : RdL w A c ls) :
    Calls Try.prog 3 #[nv n, .int .i64 off, .slice A ls.length c] w fun e w' => e = .returned (.bool true) ∧ Below w.heap.size w w' := back_walk contI n hn off ls ls.length rfl hls A c w ha
end Go.Proofs.Ytagkdodjffhlmaa.Cont
