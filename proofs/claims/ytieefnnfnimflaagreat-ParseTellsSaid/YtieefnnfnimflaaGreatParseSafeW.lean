/-
  The walk of the statement ParseSafe over package parse's contracts: the statement itself is proved in a text of its own.
-/
import Derived.Test.YtieefnnfnimflaaGreatParseStaysW
import Derived.Test.YtieefnnfnimflaaGreatTreeC4
import Derived.Test.YtieefnnfnimflaaGreatPathK
namespace Go.Proofs.YtieefnnfnimflaaGreat.Parse
open Go.RowKit Go.Proofs.YtieefnnfnimflaaGreat.Str Go.Proofs.YtieefnnfnimflaaGreat.Base Go.Proofs.YtieefnnfnimflaaGreat.Node Go.Proofs.YtieefnnfnimflaaGreat.Long
open Go.Proofs.YtieefnnfnimflaaGreat.Tree (oneB)

/-- What is told, in a block. -/
theorem ev_cells {w : World} {g : Nat} {t : TypeId} {x : Evt} (hb : Blk w g t (ecells x)) :
    w.cell? ⟨g, 0, none⟩ = some (.int .i64 x.kind) ∧ w.cell? ⟨g, 1, none⟩ = some (.string ⟨x.node.path.toArray⟩) ∧ w.cell? ⟨g, 2, none⟩ = some (.string ⟨x.node.link.toArray⟩) ∧ w.cell? ⟨g, 3, none⟩ = some (.int .u8 (x.node.kind.toNat : Int)) ∧ w.cell? ⟨g, 4, none⟩ = some (.int .i64 x.node.mode) ∧
    w.cell? ⟨g, 5, none⟩ = some (.int .i64 x.node.uid) ∧ w.cell? ⟨g, 6, none⟩ = some (.int .i64 x.node.gid) ∧ w.cell? ⟨g, 7, none⟩ = some (.int .i64 x.node.time) ∧ w.cell? ⟨g, 8, none⟩ = some (.string ⟨x.node.data.toArray⟩) ∧ w.cell? ⟨g, 9, none⟩ = some (.string ⟨x.data.toArray⟩) := by
  refine ⟨?_, ?_, ?_, ?_, ?_, ?_, ?_, ?_, ?_, ?_⟩ <;> (rw [hb.cell]; rfl)

theorem bfew_n (ls : List L) (n : Nat) (hn : ls.length = n) (A : Option Addr) (c : Nat) (w : World) (ha : RdL w A c ls) (hl : n < 9223372036854775808) (hls : ∀ l ∈ ls, l.length < 9223372036854775808) :
    Calls Tryz.prog 9 #[.slice A n c] w fun e w' => e = .returned (.bool (Block.fewV ls)) ∧ Stp w w' := by
  subst hn
  exact Block.few_s ls A c w ha hl hls

end Go.Proofs.YtieefnnfnimflaaGreat.Parse
