/-
  The walks of package label's laws, over any strings and slices that come in: no statement is proved here.
-/
import Derived.Test.YtokfhockdakhiaaDoorLabelA
import Derived.Test.YtokfhockdakhiaaDoorLabelNameW
import Derived.Test.YtokfhockdakhiaaDoorLabelOtherW
namespace Go.Proofs.YtokfhockdakhiaaDoor.Label
open Go.RowKit Go.Proofs.YtokfhockdakhiaaDoor.Str Go.Proofs.YtokfhockdakhiaaDoor.Base Go.Proofs.YtokfhockdakhiaaDoor.Head Go.Proofs.YtokfhockdakhiaaDoor.LabelM
theorem back_any (a : ByteArray) (ha : a.size ≤ maxLen) (n : Int) (l : L) (v : Value) (w : World) (hv : Rd w w.heap.size v (bs l)) (htab : Tab w) :
    Calls Tryd.prog 4 #[.string a, .int .i64 n, v] w fun e w' => e = .returned (.bool true) ∧ Below w.heap.size w w' := by
  obtain ⟨s, rfl, hs⟩ := str_form a ha
  obtain ⟨A, cap, rfl, hr⟩ := RdA.of hv
  rw [bs_length]
  exact back_walk labelI s hs n l A cap w htab hr
theorem apart_any (a : ByteArray) (ha : a.size ≤ maxLen) (n : Int) (b : ByteArray) (hb : b.size ≤ maxLen) (m : Int) (w : World) (htab : Tab w) :
    Calls Tryd.prog 5 #[.string a, .int .i64 n, .string b, .int .i64 m] w fun e w' => e = .returned (.bool true) ∧ Below w.heap.size w w' := by
  obtain ⟨s, rfl, hs⟩ := str_form a ha
  obtain ⟨t, rfl, ht⟩ := str_form b hb
  exact apart_walk labelI s t hs ht n m w htab
theorem other_any (l : L) (v : Value) (w : World) (hv : Rd w w.heap.size v (bs l)) (htab : Tab w) :
    Calls Tryd.prog 6 #[v] w fun e w' => e = .returned (.bool true) ∧ Below w.heap.size w w' := by
  obtain ⟨A, cap, rfl, hr⟩ := RdA.of hv
  rw [bs_length]
  exact other_walk labelI l A cap w htab hr
theorem name_any (a : ByteArray) (ha : a.size ≤ maxLen) (n : Int) (w : World) (htab : Tab w) :
    Calls Tryd.prog 7 #[.string a, .int .i64 n] w fun e w' => e = .returned (.bool true) ∧ Below w.heap.size w w' := by
  obtain ⟨s, rfl, hs⟩ := str_form a ha
  exact name_walk labelI s hs n w htab
theorem long_any (a : ByteArray) (ha : a.size ≤ maxLen) (n : Int) (w : World) (htab : Tab w) :
    Calls Tryd.prog 8 #[.string a, .int .i64 n] w fun e w' => e = .returned (.bool true) ∧ Below w.heap.size w w' := by
  obtain ⟨s, rfl, hs⟩ := str_form a ha
  exact long_walk labelI s hs n w htab
end Go.Proofs.YtokfhockdakhiaaDoor.Label
