/-
  The law ContTells, walked over the contracts: no statement is proved here.
-/
import Derived.Test.YtagkdodjffhlmaaContRef3
import Derived.Lib.QuietBelow
import Derived.BigQuiet
namespace Go.Proofs.Ytagkdodjffhlmaa.Cont
open Go.Sort Go.RowKit Go.Proofs.Ytagkdodjffhlmaa.Str Go.Proofs.Ytagkdodjffhlmaa.Base Go.Proofs.Ytagkdodjffhlmaa.Node Go.Proofs.Ytagkdodjffhlmaa.Head Go.Proofs.Ytagkdodjffhlmaa.Long Go.Proofs.Ytagkdodjffhlmaa.ContM
open Go.Proofs.Ytagkdodjffhlmaa.Tree (oneB)
set_option linter.unusedVariables false

theorem fewL_v (ls : List L) (N : Nat) (hN : ls.length = N) (hl : N < 9223372036854775808) (hls : ∀ l ∈ ls, l.length < 9223372036854775808) (b : Bool) (hb : Block.fewV ls = b) (A : Option Addr) (c : Nat) (w : World) (ha : RdL w A c ls) :
    Calls Try.prog 16 #[.slice A N c] w fun e w' => e = .returned (.bool b) ∧ Stp w w' := by
  subst hN hb
  exact Block.few_s ls A c w ha hl hls
end Go.Proofs.Ytagkdodjffhlmaa.Cont
