/-
  append of rows of what is told, as an operation and as a step of a region that draws its order: no statement is proved here.
  The parser of package parse: what it panics with, and how that is recovered: must, the deferred closure, the table of what is done. No statement is proved here. The parser of package parse in memory, and its smallest methods: tell, endIfNoneLeft. No statement is proved here.
-/
import Derived.Test.YtllnnlmhbmladaaGreatDoorEvs
import Derived.Test.YtllnnlmhbmladaaGreatDoorProg
import Derived.Deep.RegionWith
import Derived.Deep.AppendLies
import Derived.Deep.RegionLaw
import Derived.Test.YtllnnlmhbmladaaGreatDoorBase
import Derived.Recover
import Derived.Laws.EntriesVeiled
namespace Go.Proofs.YtllnnlmhbmladaaGreatDoor.Parse
open Go.RowKit Go.Proofs.YtllnnlmhbmladaaGreatDoor.Base Go.Proofs.YtllnnlmhbmladaaGreatDoor.Node

section
variable {ops : Array Oper} {o : Oper} {a : Act} {K : Act → World → Prop} {Q : Exit → Act → World → Prop} {E : Prop}
end
end Go.Proofs.YtllnnlmhbmladaaGreatDoor.Parse

namespace Go.Proofs.YtllnnlmhbmladaaGreatDoor.Parse
open Go.RowKit Go.Proofs.YtllnnlmhbmladaaGreatDoor.Base

/-- What is panicked with. -/
abbrev pe (e : Int) : PanicEntry := { v := .iface 33 (.int .i64 e), recovered := false }

end Go.Proofs.YtllnnlmhbmladaaGreatDoor.Parse

namespace Go.Proofs.YtllnnlmhbmladaaGreatDoor.Parse
open Go.RowKit Go.Proofs.YtllnnlmhbmladaaGreatDoor.Base Go.Proofs.YtllnnlmhbmladaaGreatDoor.Node

/-- Nothing but the parser at g, and the row at v, has changed. -/
structure Tch (g : Nat) (v : Value) (w w' : World) : Prop where
  os : w'.os = w.os
  tape : w'.tape = w.tape
  output : w'.output = w.output
  size : w.heap.size ≤ w'.heap.size
  block : ∀ k, k < w.heap.size → k ≠ g → v.ownBlock ≠ some k → w'.heap[k]? = w.heap[k]?
section
variable {g lo : Nat} {v v' : Value} {w w' w2 : World} {s : St} {xs : List Evt}
theorem Tch.refl (g : Nat) (v : Value) (w : World) : Tch g v w w := ⟨rfl, rfl, rfl, Nat.le_refl _, fun _ _ _ _ => rfl⟩
theorem Tch.of_stp (h : Stp w w') : Tch g v w w' := ⟨h.os, h.tape, h.output, h.size, fun k hk _ _ => h.block k hk⟩
theorem Tch.of_grown (h : w.grownBy w' v.ownBlock) : Tch g v w w' := ⟨h.os, h.tape, h.output, h.size, fun k hk _ hv => h.block k hk (Ne.symm hv)⟩
theorem Tch.put (i : Nat) (u : Value) (h : Tch g v w w') : Tch g v w (w'.setCell ⟨g, i, none⟩ u) :=
  ⟨h.os, h.tape, h.output, by simpa [World.setCell] using h.size, fun k hk hg hv => (Below.heap_setCell w' ⟨g, i, none⟩ u k hg).trans (h.block k hk hg hv)⟩
/-- One behind the other: the second row is the first one, or a new one. -/
theorem Tch.trans (h : Tch g v w w') (h2 : Tch g v' w' w2) (hv : ∀ k, v'.ownBlock = some k → v.ownBlock = some k ∨ w.heap.size ≤ k) : Tch g v w w2 :=
  ⟨h2.os.trans h.os, h2.tape.trans h.tape, h2.output.trans h.output, Nat.le_trans h.size h2.size, fun k hk hg hk2 =>
    (h2.block k (Nat.lt_of_lt_of_le hk h.size) hg (fun e => (hv k e).elim hk2 (fun hle => absurd hk (by omega)))).trans (h.block k hk hg hk2)⟩
theorem Tch.same (h : Tch g v w w') (h2 : Tch g v w' w2) : Tch g v w w2 := h.trans h2 fun _ e => .inl e
theorem Tch.stp (h : Tch g v w w') (h2 : Stp w' w2) : Tch g v w w2 := h.same (.of_stp h2)
/-- Seen from ahead of the parser and its rows. -/
theorem Tch.below (h : Tch g v w w') (hg : lo ≤ g) (hv : ∀ k, v.ownBlock = some k → lo ≤ k) {w0 : World} (h0 : Stp w0 w) (hlo : w0.heap.size ≤ lo) : Stp w0 w' :=
  ⟨h.os.trans h0.os, h.tape.trans h0.tape, h.output.trans h0.output, Nat.le_trans h0.size h.size, fun k hk =>
    (h.block k (Nat.lt_of_lt_of_le hk h0.size) (by omega) (fun e => absurd (hv k e) (by omega))).trans (h0.block k hk)⟩
theorem Tch.blk (h : Tch g v w w') {b : Nat} {t : TypeId} {cs : Array Value} (hb : Blk w b t cs) (hg : b ≠ g) (hv : v.ownBlock ≠ some b) : Blk w' b t cs := (h.block b hb.lt hg hv).trans hb

end

/-! ### a whole state laid into the parser -/
end Go.Proofs.YtllnnlmhbmladaaGreatDoor.Parse

