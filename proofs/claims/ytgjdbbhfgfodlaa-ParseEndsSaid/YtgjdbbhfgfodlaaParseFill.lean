/-
  A state's cells, free to be written, and stored one behind another: no statement is proved here.
-/
import Derived.Test.YtgjdbbhfgfodlaaParseI
namespace Go.Proofs.Ytgjdbbhfgfodlaa.Ends
open Go.RowKit Go.Proofs.Ytgjdbbhfgfodlaa.Str Go.Proofs.Ytgjdbbhfgfodlaa.Base Go.Proofs.Ytgjdbbhfgfodlaa.Node Go.Proofs.Ytgjdbbhfgfodlaa.Parse

theorem st_free {w : World} {g : Nat} {t : TypeId} {cs : Array Value} (hb : Blk w g t cs) :
    w.frozen? ⟨g, 0, none⟩ = false ∧ w.frozen? ⟨g, 1, none⟩ = false ∧ w.frozen? ⟨g, 2, none⟩ = false ∧ w.frozen? ⟨g, 3, none⟩ = false ∧ w.frozen? ⟨g, 4, none⟩ = false ∧ w.frozen? ⟨g, 5, none⟩ = false ∧ w.frozen? ⟨g, 6, none⟩ = false ∧ w.frozen? ⟨g, 7, none⟩ = false ∧ w.frozen? ⟨g, 8, none⟩ = false ∧ w.frozen? ⟨g, 9, none⟩ = false ∧ w.frozen? ⟨g, 10, none⟩ = false ∧ w.frozen? ⟨g, 11, none⟩ = false ∧ w.frozen? ⟨g, 12, none⟩ = false ∧ w.frozen? ⟨g, 13, none⟩ = false :=
  ⟨hb.free 0, hb.free 1, hb.free 2, hb.free 3, hb.free 4, hb.free 5, hb.free 6, hb.free 7, hb.free 8, hb.free 9, hb.free 10, hb.free 11, hb.free 12, hb.free 13⟩

/-- A state's cells, stored one behind another. -/
abbrev fillS (w : World) (g : Nat) (s : St) : World := ((((((((((((((w.setCell ⟨g, 0, none⟩ (.int .i64 s.phase)).setCell ⟨g, 1, none⟩ (.string ⟨s.node.path.toArray⟩)).setCell ⟨g, 2, none⟩ (.string ⟨s.node.link.toArray⟩)).setCell ⟨g, 3, none⟩ (.int .u8 (s.node.kind.toNat : Int))).setCell ⟨g, 4, none⟩ (.int .i64 s.node.mode)).setCell ⟨g, 5, none⟩ (.int .i64 s.node.uid)).setCell ⟨g, 6, none⟩ (.int .i64 s.node.gid)).setCell ⟨g, 7, none⟩ (.int .i64 s.node.time)).setCell ⟨g, 8, none⟩ (.string ⟨s.node.data.toArray⟩)).setCell ⟨g, 9, none⟩ (.int .i64 s.size)).setCell ⟨g, 10, none⟩ (.int .i64 s.left)).setCell ⟨g, 11, none⟩ (.string ⟨s.text.toArray⟩)).setCell ⟨g, 12, none⟩ (.string ⟨s.name.toArray⟩)).setCell ⟨g, 13, none⟩ (.string ⟨s.link.toArray⟩))
theorem fills_blk {w : World} {g : Nat} {t : TypeId} {z : St} (s : St) (h : Blk w g t (scells z)) : Blk (fillS w g s) g t (scells s) := fillC_all (scells s).toList h rfl
theorem fills_stp {w w1 : World} {g : Nat} (s : St) (h : Stp w w1) (hg : w.heap.size ≤ g) : Stp w (fillS w1 g s) := fillC_stp hg (scells s).toList 0 w1 h
end Go.Proofs.Ytgjdbbhfgfodlaa.Ends
