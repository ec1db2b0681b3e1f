/-
  What package parse's code does with a block, by the state's phase: begin, takeData, takeNoughts, takeNothing, text, takeName, takeLink. No statement is proved here.
  What package parse's code does with a block of a file's bytes, and of a long text: takeData, text, takeName, takeLink. No statement is proved here.
  What package parse's code does with the block of a long text: takeName, takeLink. No statement is proved here.
-/
import Derived.Test.YtllnnlmhbmladaaGreatDoorParseQ
import Derived.Test.YtllnnlmhbmladaaGreatDoorParseI
import Derived.Test.YtllnnlmhbmladaaGreatDoorHeadGet
import Derived.Test.YtllnnlmhbmladaaGreatDoorTreeS
import Derived.Deep.RegionHeld3
import Derived.Deep.Cut
import Derived.RegionDies
namespace Go.Proofs.YtllnnlmhbmladaaGreatDoor.Parse
open Go.RowKit Go.Proofs.YtllnnlmhbmladaaGreatDoor.Base Go.Proofs.YtllnnlmhbmladaaGreatDoor.Node

theorem nd_cells' {w : World} {b : Nat} {t : TypeId} {n : Nd} (hb : Blk w b t (ncells n)) : w.cell? ⟨b, 0, none⟩ = some (.string ⟨n.path.toArray⟩) ∧ w.cell? ⟨b, 1, none⟩ = some (.string ⟨n.link.toArray⟩) ∧ w.cell? ⟨b, 2, none⟩ = some (.int .u8 (n.kind.toNat : Int)) ∧ w.cell? ⟨b, 3, none⟩ = some (.int .i64 n.mode) ∧
    w.cell? ⟨b, 4, none⟩ = some (.int .i64 n.uid) ∧ w.cell? ⟨b, 5, none⟩ = some (.int .i64 n.gid) ∧ w.cell? ⟨b, 6, none⟩ = some (.int .i64 n.time) ∧ w.cell? ⟨b, 7, none⟩ = some (.string ⟨n.data.toArray⟩) := by
  refine ⟨?_, ?_, ?_, ?_, ?_, ?_, ?_, ?_⟩ <;> (rw [hb.cell]; rfl)
/-- Of what lies ahead of lo nothing but the parser at g has changed. -/
structure Kp (g lo : Nat) (w w' : World) : Prop where
  os : w'.os = w.os
  tape : w'.tape = w.tape
  output : w'.output = w.output
  size : w.heap.size ≤ w'.heap.size
  block : ∀ k, k < lo → k ≠ g → w'.heap[k]? = w.heap[k]?
section
variable {g lo : Nat} {v : Value} {w w' w2 : World} {s : St} {xs : List Evt}
theorem Kp.refl (g lo : Nat) (w : World) : Kp g lo w w := ⟨rfl, rfl, rfl, Nat.le_refl _, fun _ _ _ => rfl⟩
theorem Kp.trans (h : Kp g lo w w') (h2 : Kp g lo w' w2) : Kp g lo w w2 := ⟨h2.os.trans h.os, h2.tape.trans h.tape, h2.output.trans h.output, Nat.le_trans h.size h2.size, fun k hk hg => (h2.block k hk hg).trans (h.block k hk hg)⟩
theorem Kp.of_stp (h : Stp w w') (hlo : lo ≤ w.heap.size) : Kp g lo w w' := ⟨h.os, h.tape, h.output, h.size, fun k hk _ => h.block k (by omega)⟩
theorem Kp.stp (h : Kp g lo w w') (h2 : Stp w' w2) (hlo : lo ≤ w'.heap.size) : Kp g lo w w2 := h.trans (.of_stp h2 hlo)
theorem Kp.put (h : Kp g lo w w') (i : Nat) (u : Value) : Kp g lo w (w'.setCell ⟨g, i, none⟩ u) :=
  ⟨h.os, h.tape, h.output, by simpa [World.setCell] using h.size, fun k hk hg => (Below.heap_setCell w' ⟨g, i, none⟩ u k hg).trans (h.block k hk hg)⟩
theorem Kp.blk (h : Kp g lo w w') {b : Nat} {t : TypeId} {cs : Array Value} (hb : Blk w b t cs) (hlo : b < lo) (hg : b ≠ g) : Blk w' b t cs := (h.block b hlo hg).trans hb
end

section
variable {g lo : Nat} {w w' : World} {s t : St} {y : List Evt} {e0 : Int} {v : Value}
end
end Go.Proofs.YtllnnlmhbmladaaGreatDoor.Parse

namespace Go.Proofs.YtllnnlmhbmladaaGreatDoor.Parse
open Go.RowKit Go.Proofs.YtllnnlmhbmladaaGreatDoor.Base Go.Proofs.YtllnnlmhbmladaaGreatDoor.Node Go.Proofs.YtllnnlmhbmladaaGreatDoor.Long

end Go.Proofs.YtllnnlmhbmladaaGreatDoor.Parse

namespace Go.Proofs.YtllnnlmhbmladaaGreatDoor.Parse
open Go.RowKit Go.Proofs.YtllnnlmhbmladaaGreatDoor.Base Go.Proofs.YtllnnlmhbmladaaGreatDoor.Node Go.Proofs.YtllnnlmhbmladaaGreatDoor.Long

end Go.Proofs.YtllnnlmhbmladaaGreatDoor.Parse

