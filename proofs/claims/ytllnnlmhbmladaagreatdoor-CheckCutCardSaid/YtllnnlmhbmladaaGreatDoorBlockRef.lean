/-
  Contracts of the document's answers for blocks (package reelkeeperref03): May, Zero, Many, Same, Zeros, Cut, Text: no statement is proved here.
  Contracts of the document's answers for blocks (package reelkeeperref03): Zeros, Cut, Text: no statement is proved here.
-/
import Derived.Test.YtllnnlmhbmladaaGreatDoorBlockK
namespace Go.Proofs.YtllnnlmhbmladaaGreatDoor.Block
open Go.RowKit Go.Shelf Go.Proofs.YtllnnlmhbmladaaGreatDoor.Base Go.Proofs.YtllnnlmhbmladaaGreatDoor.BlockM Go.Proofs.YtllnnlmhbmladaaGreatDoor.Str

end Go.Proofs.YtllnnlmhbmladaaGreatDoor.Block

namespace Go.Proofs.YtllnnlmhbmladaaGreatDoor.Block
open Go.RowKit Go.Shelf Go.Proofs.YtllnnlmhbmladaaGreatDoor.Base Go.Proofs.YtllnnlmhbmladaaGreatDoor.BlockM Go.Proofs.YtllnnlmhbmladaaGreatDoor.Str

/-- A row of the call's own that holds slices of blocks. -/
theorem blk_not_own {W : World} {g lo : Nat} {t e : TypeId} {cs : Array Value} {v : Value} {xs : List Value} (h : Blk W g t cs) (hte : t ≠ e) (hv : Base.Own W lo e v xs) : some g ≠ v.ownBlock := by
  rcases hv with ⟨rfl, _⟩ | ⟨g', cap, cur, fz, rfl, _, hg, _⟩
  · simp [Value.ownBlock]
  · simp only [Value.ownBlock]
    intro e'
    cases e'
    unfold Blk at h
    rw [hg] at h
    cases h
    exact hte rfl
/-- What is gathered so far. -/
structure Gath (lo : Nat) (w wr : World) (v : Value) (ys : List Handed) : Prop where
  own : Base.Own wr lo 46 v (ys.map val)
  held : ∀ x ∈ ys, Holds x wr
  below : Below lo w wr
theorem Gath.start (w : World) : Gath w.heap.size w w (.slice none 0 0) [] := ⟨Base.Own.nil _ _ _, by simp, Below.refl _ _⟩
/-- New memory is laid. -/
theorem Gath.grown {lo : Nat} {w wr w1 : World} {v : Value} {ys : List Handed} (h : Gath lo w wr v ys) (hlo : lo ≤ wr.heap.size) (hg : wr.grownBy w1 none) : Gath lo w w1 v ys :=
  ⟨h.own.grown hg (by simp; cases hv : v.ownBlock <;> simp), fun x hx => Blk.grown (h.held x hx) hg (by simp), h.below.grown hg hlo (by simp)⟩
/-- Nothing that was there is written. -/
theorem Gath.step {lo : Nat} {w wr w1 : World} {v : Value} {ys : List Handed} (h : Gath lo w wr v ys) (hlo : lo ≤ wr.heap.size) (hs : Stp wr w1) : Gath lo w w1 v ys :=
  ⟨h.own.keep hs, fun x hx => Blk.keep (h.held x hx) hs (Blk.lt (h.held x hx)), h.below.trans (Below.mono hs hlo)⟩
/-- One more is gathered: append of a literal of one slice. -/
theorem Gath.more {lo : Nat} {w wr w1 : World} {v v1 : Value} {ys : List Handed} {x : Handed} {o : Obj} (h : Gath lo w wr v ys) (hx : Holds x wr) (hlo : lo ≤ wr.heap.size)
    (hv : Base.Own w1 lo 46 v1 (ys.map val ++ [.slice (some ⟨x.1, 0, none⟩) 512 512])) (hg : (wr.alloc o).grownBy w1 v.ownBlock) : Gath lo w w1 v1 (ys ++ [x]) := by
  refine ⟨by rw [List.map_append]; exact hv, fun y hy => ?_, (h.below.alloc hlo o).grown hg (by simp; omega) (fun j hj => (h.own.lt j hj).1)⟩
  have hy' : Holds y wr := by
    rcases List.mem_append.1 hy with h' | h'
    · exact h.held y h'
    · rw [List.mem_singleton.1 h']
      exact hx
  exact Blk.grown (Blk.alloc hy' o) hg (blk_not_own hy' (by decide) h.own)

/-- The first j bytes of a block are there. -/
def part (r : L) (j : Nat) : L := r.take j ++ noughts (512 - j)
end Go.Proofs.YtllnnlmhbmladaaGreatDoor.Block

