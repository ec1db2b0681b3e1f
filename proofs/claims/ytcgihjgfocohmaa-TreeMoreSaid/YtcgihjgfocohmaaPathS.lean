/-
  The same contracts of package path in one form (the world goes on, nothing that was there is written), and the chapter's examples (awake): no statement is proved here.
-/
import Derived.Test.YtcgihjgfocohmaaPathC
namespace Go.Proofs.Ytcgihjgfocohmaa.Path
open Go.RowKit Go.Shelf Go.Proofs.Ytcgihjgfocohmaa.Base Go.Proofs.Ytcgihjgfocohmaa.PathM

/-- Its parts, or none. -/
def partV (p : L) : List L := if mayB p = true then pcs p else []
theorem partV_yes {p : L} (h : mayB p = true) : partV p = pcs p := by simp [partV, h]
theorem partV_no {p : L} (h : mayB p = false) : partV p = [] := by simp [partV, h]
theorem partV_len (p : L) : (partV p).length ≤ 301 := by
  unfold partV
  split
  · rename_i h
    have h1 := pcs_length_le p
    have h2 := okSize h
    omega
  · simp

section
variable (p q : L) (w : World) (hp : p.length ≤ 9223372036854775807) (hq : q.length ≤ 9223372036854775807)
include hp
theorem may_s : Calls Try.prog 31 #[.string ⟨p.toArray⟩] w fun e w' => e = .returned (.bool (mayB p)) ∧ Stp w w' := may_any p w hp
theorem parent_s : Calls Try.prog 23 #[.string ⟨p.toArray⟩] w fun e w' => e = .returned (.tuple #[.string ⟨(parV p).toArray⟩, .bool (parB p)]) ∧ Stp w w' := parent_any p w hp
include hq
theorem below_s : Calls Try.prog 22 #[.string ⟨p.toArray⟩, .string ⟨q.toArray⟩] w fun e w' => e = .returned (.bool (belowB p q)) ∧ Stp w w' := below_any p q w hp hq
end
end Go.Proofs.Ytcgihjgfocohmaa.Path
