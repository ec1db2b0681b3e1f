/-
  The document's own answers for package cont: Get: no statement is proved here.
-/
import Derived.Test.YtagkdodjffhlmaaContRef2
import Derived.Test.YtagkdodjffhlmaaBlockK
namespace Go.Proofs.Ytagkdodjffhlmaa.Cont
open Go.RowKit Go.Proofs.Ytagkdodjffhlmaa.Str Go.Proofs.Ytagkdodjffhlmaa.Base Go.Proofs.Ytagkdodjffhlmaa.Node Go.Proofs.Ytagkdodjffhlmaa.Head Go.Proofs.Ytagkdodjffhlmaa.Long Go.Proofs.Ytagkdodjffhlmaa.ContM
open Go.Proofs.Ytagkdodjffhlmaa.Tree (oneB)
set_option linter.unusedVariables false

theorem cell_lt {w : World} {a : Addr} {v : Value} (h : w.cell? a = some v) : a.block < w.heap.size := by
  rcases Nat.lt_or_ge a.block w.heap.size with hl | hl
  · exact hl
  · have : w.heap[a.block]? = none := Array.getElem?_eq_none hl
    simp [World.cell?, this] at h
theorem upto_at {l : L} {k : Nat} (hk : l[k]? = some 0) (h : (0 : UInt8) ∉ l.take k) : upto l = l.take k := by
  obtain ⟨hlt, he⟩ := List.getElem?_eq_some_iff.1 hk
  have e : l = l.take k ++ (0 :: l.drop (k + 1)) := by
    rw [← he, ← List.drop_eq_getElem_cons hlt, List.take_append_drop]
  unfold upto
  conv => lhs; rw [e]
  rw [List.takeWhile_append_of_pos (by
    intro y hy
    have hy2 : y ≠ 0 := fun e0 => h (by rw [← e0]; exact hy)
    simpa using hy2)]
  rw [List.takeWhile_cons_of_neg (by simp), List.append_nil]
def NmRel (l : L) (nm i : Value) : Prop := ∃ k : Nat, k ≤ 512 ∧ i = .int .i64 (k : Int) ∧ nm = .string ⟨(l.take k).toArray⟩ ∧ Hid ((0 : UInt8) ∉ l.take k)
end Go.Proofs.Ytagkdodjffhlmaa.Cont
