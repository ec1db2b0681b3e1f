/-
  The walk of the law ParseStays, over any slice of bytes: no statement is proved here.
-/
import Derived.Test.YtejgnhicgeiceaaParseStaysW
namespace Go.Proofs.Ytejgnhicgeiceaa.Parse
open Go.RowKit Go.Proofs.Ytejgnhicgeiceaa.Base Go.Proofs.Ytejgnhicgeiceaa.Node

theorem stays_any (I : ParseI) (s : St) (hs : SmallS s) (b : L) (v : Value) (w : World) (hv : Rd w w.heap.size v (bs b)) (hl : b.length < 9223372036854775808) :
    Calls Try.prog 3 #[sv s, v] w fun e w' => e = .returned (.bool true) ∧ Below w.heap.size w w' := by
  obtain ⟨A, cap, rfl, ha⟩ := RdA.of hv
  rw [bs_length]
  exact stays_s I s hs b A cap w ha hl
end Go.Proofs.Ytejgnhicgeiceaa.Parse
