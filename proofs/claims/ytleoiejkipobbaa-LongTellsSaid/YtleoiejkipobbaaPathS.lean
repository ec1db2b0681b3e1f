/-
  The same contracts of package path in one form (the world goes on, nothing that was there is written), and the chapter's examples (awake): no statement is proved here.
-/
import Derived.Test.YtleoiejkipobbaaPathC
namespace Go.Proofs.Ytleoiejkipobbaa.Path
open Go.RowKit Go.Shelf Go.Proofs.Ytleoiejkipobbaa.Base Go.Proofs.Ytleoiejkipobbaa.PathM

/-- Its parts, or none. -/
def partV (p : L) : List L := if mayB p = true then pcs p else []
theorem partV_yes {p : L} (h : mayB p = true) : partV p = pcs p := by simp [partV, h]
theorem partV_no {p : L} (h : mayB p = false) : partV p = [] := by simp [partV, h]
theorem partV_len (p : L) : (partV p).length ≤ 301 := by
  unfold partV
  split
  · rename_i h
    have h1 := pcs_length_le p
    have h2 := okSize h
    omega
  · simp

section
variable (p q : L) (w : World) (hp : p.length ≤ 9223372036854775807) (hq : q.length ≤ 9223372036854775807)
include hp
theorem may_s : Calls Try.prog 36 #[.string ⟨p.toArray⟩] w fun e w' => e = .returned (.bool (mayB p)) ∧ Stp w w' := may_any p w hp
theorem split_s : Calls Try.prog 38 #[.string ⟨p.toArray⟩] w fun e w' => e = .returned (.tuple #[.string ⟨(splV p).1.toArray⟩, .string ⟨(splV p).2.toArray⟩, .bool (splB p)]) ∧ Stp w w' := split_any p w hp
end
theorem join_s (p q : L) (w : World) (h : p.length + q.length + 1 ≤ 9223372036854775807) : Calls Try.prog 37 #[.string ⟨p.toArray⟩, .string ⟨q.toArray⟩] w fun e w' => e = .returned (.string ⟨(joinV p q).toArray⟩) ∧ Stp w w' :=
  (join_any p q w h).mono fun _ _ ⟨h1, h2⟩ => ⟨h1, by rw [← h2]; exact Stp.refl _⟩

end Go.Proofs.Ytleoiejkipobbaa.Path
