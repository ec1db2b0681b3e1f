/-
  The walk of LabelTells, over any string and slice that come in: no statement is proved here.
-/
import Derived.Test.YtokfhockdakhiaaDoorLabelA
import Derived.Test.YtokfhockdakhiaaDoorLabelRef4
namespace Go.Proofs.YtokfhockdakhiaaDoor.Label
open Go.RowKit Go.Proofs.YtokfhockdakhiaaDoor.Str Go.Proofs.YtokfhockdakhiaaDoor.Base Go.Proofs.YtokfhockdakhiaaDoor.Head Go.Proofs.YtokfhockdakhiaaDoor.LabelM
theorem tells_any (a : ByteArray) (ha : a.size ≤ maxLen) (n : Int) (l : L) (v : Value) (w : World) (hv : Rd w w.heap.size v (bs l)) (htab : Tab w) :
    Calls Tryd.prog 3 #[.string a, .int .i64 n, v] w fun e w' => e = .returned (.bool true) ∧ Below w.heap.size w w' := by
  obtain ⟨s, rfl, hs⟩ := str_form a ha
  obtain ⟨A, cap, rfl, hr⟩ := RdA.of hv
  rw [bs_length]
  exact tells_walk labelI rlget_s s hs n l A cap w htab hr
end Go.Proofs.YtokfhockdakhiaaDoor.Label
