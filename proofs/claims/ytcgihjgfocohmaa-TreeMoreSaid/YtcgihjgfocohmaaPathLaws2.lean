/-
  The walks of the statements PathSafe and PathParts: each law returns true and writes nothing that was there; the statements themselves are proved in texts of their own.
-/
import Derived.Test.YtcgihjgfocohmaaPathS
namespace Go.Proofs.Ytcgihjgfocohmaa.Path
open Go.RowKit Go.Shelf Go.Proofs.Ytcgihjgfocohmaa.Base Go.Proofs.Ytcgihjgfocohmaa.PathM

theorem idx_l (p : L) (i : Int) (c : UInt8) (h0 : 0 ≤ i) (h : p[i.toNat]? = some c) (w : World) : (Instr.index 9 (.string ⟨p.toArray⟩) (.int .i64 i)).run Try.prog w = .ok (.int .u8 (c.toNat : Int)) w := by
  obtain ⟨hl, hc⟩ := List.getElem?_eq_some_iff.1 h
  rw [run_index_string (P := Try.prog) w 9 _ .i64 i Try.underlying9, dif_pos ⟨h0, by show i < (p.toArray.size : Int); simp; omega⟩]
  rw [← hc]
  rfl
theorem not_slash {c : UInt8} (h : c ≠ 47) : ((c.toNat : Int) == 47) = false := by
  rw [beq_eq_false_iff_ne]
  intro h'
  exact h (UInt8.toNat_inj.1 (by show c.toNat = 47; omega))

theorem rdA_get {w : World} {b o cap : Nat} {xs : List Value} {u : Value} {j : Nat} (h : RdA w (some ⟨b, o, none⟩) cap xs) (hj : xs[j]? = some u) : w.cell? ⟨b, o + j, none⟩ = some u := by
  obtain ⟨b', o', he, hu⟩ := h.at_ (List.getElem?_eq_some_iff.1 hj).1
  simp only [Option.some.injEq, Addr.mk.injEq] at he
  obtain ⟨rfl, rfl, _⟩ := he
  exact hu j u hj

end Go.Proofs.Ytcgihjgfocohmaa.Path
