/-
  The walk of the statement ParseSafe over package parse's contracts: the statement itself is proved in a text of its own.
-/
import Derived.Test.YtgjdbbhfgfodlaaGreatParseStaysW
import Derived.Test.YtgjdbbhfgfodlaaGreatTreeC4
import Derived.Test.YtgjdbbhfgfodlaaGreatPathK
namespace Go.Proofs.YtgjdbbhfgfodlaaGreat.Parse
open Go.RowKit Go.Proofs.YtgjdbbhfgfodlaaGreat.Str Go.Proofs.YtgjdbbhfgfodlaaGreat.Base Go.Proofs.YtgjdbbhfgfodlaaGreat.Node Go.Proofs.YtgjdbbhfgfodlaaGreat.Long
open Go.Proofs.YtgjdbbhfgfodlaaGreat.Tree (oneB)

/-- What is told, in a block. -/
theorem ev_cells {w : World} {g : Nat} {t : TypeId} {x : Evt} (hb : Blk w g t (ecells x)) :
    w.cell? ⟨g, 0, none⟩ = some (.int .i64 x.kind) ∧ w.cell? ⟨g, 1, none⟩ = some (.string ⟨x.node.path.toArray⟩) ∧ w.cell? ⟨g, 2, none⟩ = some (.string ⟨x.node.link.toArray⟩) ∧ w.cell? ⟨g, 3, none⟩ = some (.int .u8 (x.node.kind.toNat : Int)) ∧ w.cell? ⟨g, 4, none⟩ = some (.int .i64 x.node.mode) ∧
    w.cell? ⟨g, 5, none⟩ = some (.int .i64 x.node.uid) ∧ w.cell? ⟨g, 6, none⟩ = some (.int .i64 x.node.gid) ∧ w.cell? ⟨g, 7, none⟩ = some (.int .i64 x.node.time) ∧ w.cell? ⟨g, 8, none⟩ = some (.string ⟨x.node.data.toArray⟩) ∧ w.cell? ⟨g, 9, none⟩ = some (.string ⟨x.data.toArray⟩) := by
  refine ⟨?_, ?_, ?_, ?_, ?_, ?_, ?_, ?_, ?_, ?_⟩ <;> (rw [hb.cell]; rfl)

end Go.Proofs.YtgjdbbhfgfodlaaGreat.Parse
