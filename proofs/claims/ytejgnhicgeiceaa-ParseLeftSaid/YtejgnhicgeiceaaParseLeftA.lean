/-
  The walk of the law ParseLeft, over any slice of bytes: no statement is proved here.
-/
import Derived.Test.YtejgnhicgeiceaaParseLeftW
namespace Go.Proofs.Ytejgnhicgeiceaa.Parse
open Go.RowKit Go.Proofs.Ytejgnhicgeiceaa.Base Go.Proofs.Ytejgnhicgeiceaa.Node

theorem left_any (I : ParseI) (s : St) (hs : SmallS s) (b : L) (v : Value) (w : World) (hv : Rd w w.heap.size v (bs b)) (hl : b.length < 9223372036854775808) :
    Calls Try.prog 7 #[sv s, v] w fun e w' => e = .returned (.bool true) ∧ Below w.heap.size w w' := by
  obtain ⟨A, cap, rfl, ha⟩ := RdA.of hv
  rw [bs_length]
  exact left_s I s hs b b.length rfl A cap w ha hl
end Go.Proofs.Ytejgnhicgeiceaa.Parse
