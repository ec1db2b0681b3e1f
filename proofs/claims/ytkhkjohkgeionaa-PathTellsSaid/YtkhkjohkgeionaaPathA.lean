/-
  The walks of package path's statements over any strings: no statement is proved here.
-/
import Derived.Test.YtkhkjohkgeionaaPathLaws
import Derived.Test.YtkhkjohkgeionaaPathLaws2
namespace Go.Proofs.Ytkhkjohkgeionaa.Path
open Go.RowKit Go.Shelf Go.Proofs.Ytkhkjohkgeionaa.Base Go.Proofs.Ytkhkjohkgeionaa.PathM

theorem str_form (s : ByteArray) (h : s.size ≤ maxLen) : ∃ l : L, s = ⟨l.toArray⟩ ∧ l.length ≤ 9223372036854775807 :=
  ⟨s.data.toList, ba_eq rfl, by rw [ba_size]; unfold maxLen at h; exact h⟩

section
variable (a b c : ByteArray) (w : World) (ha : a.size ≤ maxLen) (hb : b.size ≤ maxLen) (hc : c.size ≤ maxLen)
include ha
theorem split_full : Calls Try.prog 4 #[.string a] w fun e w' => e = .returned (.bool true) ∧ Below w.heap.size w w' := by
  obtain ⟨a, rfl, ha⟩ := str_form a ha
  exact split_walk a w ha
theorem parent_full : Calls Try.prog 5 #[.string a] w fun e w' => e = .returned (.bool true) ∧ Below w.heap.size w w' := by
  obtain ⟨a, rfl, ha⟩ := str_form a ha
  exact parent_walk a w ha
theorem parts_full : Calls Try.prog 9 #[.string a] w fun e w' => e = .returned (.bool true) ∧ Below w.heap.size w w' := by
  obtain ⟨a, rfl, ha⟩ := str_form a ha
  exact parts_walk a w ha
include hb
theorem joins_full : Calls Try.prog 8 #[.string a, .string b] w fun e w' => e = .returned (.bool true) ∧ Below w.heap.size w w' := by
  obtain ⟨a, rfl, ha⟩ := str_form a ha
  obtain ⟨b, rfl, hb⟩ := str_form b hb
  exact joins_walk a b w
theorem safe_full (i : Int) : Calls Try.prog 6 #[.string a, .string b, .int .i64 i] w fun e w' => e = .returned (.bool true) ∧ Below w.heap.size w w' := by
  obtain ⟨a, rfl, ha⟩ := str_form a ha
  obtain ⟨b, rfl, hb⟩ := str_form b hb
  exact safe_walk a b i w ha
include hc
theorem below_full : Calls Try.prog 7 #[.string a, .string b, .string c] w fun e w' => e = .returned (.bool true) ∧ Below w.heap.size w w' := by
  obtain ⟨a, rfl, ha⟩ := str_form a ha
  obtain ⟨b, rfl, hb⟩ := str_form b hb
  obtain ⟨c, rfl, hc⟩ := str_form c hc
  exact below_walk a b c w ha hb hc
end
end Go.Proofs.Ytkhkjohkgeionaa.Path
