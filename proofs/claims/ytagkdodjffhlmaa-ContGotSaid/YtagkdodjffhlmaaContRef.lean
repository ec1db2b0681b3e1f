/-
  The document's own answers for package cont: May, Many, Put: no statement is proved here.
-/
import Derived.Test.YtagkdodjffhlmaaContI
import Derived.Test.YtagkdodjffhlmaaLongRef
import Derived.Test.YtagkdodjffhlmaaTreeOne
namespace Go.Proofs.Ytagkdodjffhlmaa.Cont
open Go.RowKit Go.Proofs.Ytagkdodjffhlmaa.Str Go.Proofs.Ytagkdodjffhlmaa.Base Go.Proofs.Ytagkdodjffhlmaa.Node Go.Proofs.Ytagkdodjffhlmaa.Head Go.Proofs.Ytagkdodjffhlmaa.Long Go.Proofs.Ytagkdodjffhlmaa.ContM
open Go.Proofs.Ytagkdodjffhlmaa.Tree (oneB)
set_option linter.unusedVariables false

theorem kind48 (n : Nd) : ((n.kind.toNat : Int) == 48) = decide (n.kind = 48) := ty_eq n.kind 48 (by omega)
/-- The header, its name apart. -/
abbrev hP (n : Nd) (off : Int) (p : L) : Hd := ⟨p, [], [], n.mode, n.uid, n.gid, (n.data.length : Int) - off, n.time, 77, off, (n.data.length : Int)⟩
theorem lit_rr {w : World} {A : Option Addr} {n cap : Nat} {l : L} {e : TypeId} (h : RdA w A cap (bs l)) (hn : l.length = n) : RdL (w.alloc (.cells #[.slice A n cap] e)) (some ⟨w.heap.size, 0, none⟩) 1 [l] := by
  obtain ⟨A', c', he, hL⟩ := (Rows.one (e := e) h hn).rdL
  cases he
  exact hL
end Go.Proofs.Ytagkdodjffhlmaa.Cont
