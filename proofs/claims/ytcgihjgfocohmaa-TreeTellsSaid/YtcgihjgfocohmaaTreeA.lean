/-
  The walk of TreeTells over any string: no statement is proved here.
-/
import Derived.Test.YtcgihjgfocohmaaTreeTellsW
namespace Go.Proofs.Ytcgihjgfocohmaa.Tree
open Go.RowKit Go.Proofs.Ytcgihjgfocohmaa.Str Go.Proofs.Ytcgihjgfocohmaa.Base Go.Proofs.Ytcgihjgfocohmaa.Node Go.Proofs.Ytcgihjgfocohmaa.Long

theorem tells_any (n : Nd) (t k : List Nd) (p : ByteArray) (A B : Option Addr) (c d : Nat) (w : World) (hn : SmallN n) (ha : RdN w A c t) (hb : RdN w B d k) (hst : ∀ n ∈ t, SmallN n)
    (ht : t.length < 9223372036854775808) (hk : k.length < 9223372036854775808) (hp : p.size ≤ maxLen) :
    Calls Try.prog 3 #[nv n, .slice A t.length c, .slice B k.length d, .string p] w fun e w' => e = .returned (.bool true) ∧ Below w.heap.size w w' := by
  obtain ⟨p, rfl, hp⟩ := str_form p hp
  exact tells_s n t k p A B c d w hn ha hb hst ht hk hp
end Go.Proofs.Ytcgihjgfocohmaa.Tree
