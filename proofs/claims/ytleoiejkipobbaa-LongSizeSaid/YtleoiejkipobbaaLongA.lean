/-
  The walks of package long's statements over any strings and bytes: no statement is proved here.
-/
import Derived.Test.YtleoiejkipobbaaLongLaws
import Derived.Test.YtleoiejkipobbaaLongLaws3
import Derived.Test.YtleoiejkipobbaaLongLaws5
import Derived.Test.YtleoiejkipobbaaLongLaws6
namespace Go.Proofs.Ytleoiejkipobbaa.Long
open Go.RowKit Go.Proofs.Ytleoiejkipobbaa.Str Go.Proofs.Ytleoiejkipobbaa.Base Go.Proofs.Ytleoiejkipobbaa.Node Go.Proofs.Ytleoiejkipobbaa.Head

theorem byte_form (k : Int) (h0 : 0 ≤ k) (h1 : k ≤ 255) : ∃ c : UInt8, k = (c.toNat : Int) := ⟨UInt8.ofNat k.toNat, by rw [UInt8.toNat_ofNat']; omega⟩
theorem needs_any (a b : ByteArray) (w : World) (ha : a.size ≤ maxLen) (hb : b.size ≤ maxLen) :
    Calls Try.prog 9 #[.string a, .string b] w fun e w' => e = .returned (.bool true) ∧ Below w.heap.size w w' := by
  obtain ⟨a, rfl, ha⟩ := str_form a ha
  obtain ⟨b, rfl, hb⟩ := str_form b hb
  exact needs_walk a b ha hb w
theorem kinds_any (a b : ByteArray) (w : World) (ha : a.size ≤ maxLen) (hb : b.size ≤ maxLen) :
    Calls Try.prog 10 #[.string a, .string b] w fun e w' => e = .returned (.bool true) ∧ Below w.heap.size w w' := by
  obtain ⟨a, rfl, ha⟩ := str_form a ha
  obtain ⟨b, rfl, hb⟩ := str_form b hb
  exact kinds_walk a b w ha hb
theorem back_any (k : Int) (a : ByteArray) (w : World) (h0 : 0 ≤ k) (h1 : k ≤ 255) (ha : a.size ≤ maxLen) :
    Calls Try.prog 5 #[.int .u8 k, .string a] w fun e w' => e = .returned (.bool true) ∧ Below w.heap.size w w' := by
  obtain ⟨c, rfl⟩ := byte_form k h0 h1
  obtain ⟨a, rfl, ha⟩ := str_form a ha
  exact back_walk c a w ha
theorem size_any (k : Int) (a : ByteArray) (j : Int) (b : ByteArray) (w : World) (h0 : 0 ≤ k) (h1 : k ≤ 255) (ha : a.size ≤ maxLen) (g0 : 0 ≤ j) (g1 : j ≤ 255) (hb : b.size ≤ maxLen) :
    Calls Try.prog 8 #[.int .u8 k, .string a, .int .u8 j, .string b] w fun e w' => e = .returned (.bool true) ∧ Below w.heap.size w w' := by
  obtain ⟨c, rfl⟩ := byte_form k h0 h1
  obtain ⟨d, rfl⟩ := byte_form j g0 g1
  obtain ⟨a, rfl, ha⟩ := str_form a ha
  obtain ⟨b, rfl, hb⟩ := str_form b hb
  exact size_walk c a d b w ha hb
end Go.Proofs.Ytleoiejkipobbaa.Long
