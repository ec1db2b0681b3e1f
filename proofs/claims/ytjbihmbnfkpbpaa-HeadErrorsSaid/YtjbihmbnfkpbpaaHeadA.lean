/-
  The walks over any slices: no statement is proved here.
-/
import Derived.Test.YtjbihmbnfkpbpaaHeadLaws
namespace Go.Proofs.Ytjbihmbnfkpbpaa.Head
open Go.RowKit Go.Proofs.Ytjbihmbnfkpbpaa.Base Go.Proofs.Ytjbihmbnfkpbpaa.NumM Go.Proofs.Ytjbihmbnfkpbpaa.Num

theorem errors_any (l : L) (v : Value) (w : World) (hv : Rd w w.heap.size v (bs l)) (hbig : l.length < 9223372036854775808) :
    Calls Try.prog 7 #[v] w fun e w' => e = .returned (.bool true) ∧ Below w.heap.size w w' := by
  obtain ⟨A, cap, rfl, ha⟩ := RdA.of hv
  rw [bs_length]
  exact errors_walk l A cap w ha hbig
theorem hsum_any (l : L) (i : Int) (v : Value) (w : World) (hv : Rd w w.heap.size v (bs l)) (hbig : l.length < 9223372036854775808) :
    Calls Try.prog 6 #[v, .int .i64 i] w fun e w' => e = .returned (.bool true) ∧ Below w.heap.size w w' := by
  obtain ⟨A, cap, rfl, ha⟩ := RdA.of hv
  rw [bs_length]
  exact hsum_walk l i A cap w ha hbig
end Go.Proofs.Ytjbihmbnfkpbpaa.Head
