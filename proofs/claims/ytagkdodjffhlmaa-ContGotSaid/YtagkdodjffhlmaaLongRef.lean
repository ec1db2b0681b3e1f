/-
  The document's own answers for package long: no statement is proved here.
-/
import Derived.Test.YtagkdodjffhlmaaLongK
import Derived.Test.YtagkdodjffhlmaaHeadRef6
import Derived.Test.YtagkdodjffhlmaaBlockRef
import Derived.Test.YtagkdodjffhlmaaPathRef
namespace Go.Proofs.Ytagkdodjffhlmaa.Long
open Go.RowKit Go.Proofs.Ytagkdodjffhlmaa.Str Go.Proofs.Ytagkdodjffhlmaa.Base Go.Proofs.Ytagkdodjffhlmaa.Node Go.Proofs.Ytagkdodjffhlmaa.Head

theorem put_le2 (k : UInt8) (s : L) : (putLs k s).length ≤ 2 := by rw [putLs_length]; split <;> omega
set_option maxRecDepth 100000 in
theorem zero_cv (w : World) : (convert 40 9 (.slice (some ⟨w.heap.size, 0, none⟩) 1 1)).run Try.prog (w.alloc (.cells #[.int .u8 0] 5)) = .ok (.string ⟨#[0]⟩) (w.alloc (.cells #[.int .u8 0] 5)) := by
  have h : RdA (w.alloc (.cells #[.int .u8 0] 5)) (some ⟨w.heap.size, 0, none⟩) 1 (bs [0]) := by
    have := rd_lit w 5 (.int .u8 0)
    unfold RdA
    rw [World.size_alloc]
    exact this
  exact Block.str_rd h

theorem ahead_keep {w1 w2 : World} {e t : TypeId} {cs : Array Value} {g : Nat} {v : Value} {ls : List L} {lo : Nat} (h : Base.Rows w1 lo e v ls) (hb : Blk w1 g t cs) (hg : w1.grownBy w2 v.ownBlock) (hne : t ≠ e := by decide) : Blk w2 g t cs := by
  obtain ⟨us, ho, _⟩ := h
  exact hb.grown hg (Block.blk_not_own hb hne ho)
end Go.Proofs.Ytagkdodjffhlmaa.Long
