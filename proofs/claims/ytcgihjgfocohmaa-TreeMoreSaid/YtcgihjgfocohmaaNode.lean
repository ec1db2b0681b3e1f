/-
  A node as a plain value, and as the model's: no statement is proved here.
-/
import Derived.Test.YtcgihjgfocohmaaProg
import Derived.Test.YtcgihjgfocohmaaStr
namespace Go.Proofs.Ytcgihjgfocohmaa.Node
open Go.RowKit Go.Proofs.Ytcgihjgfocohmaa.Base
abbrev L := List UInt8

structure Nd where
  path : L
  link : L
  kind : UInt8
  mode : Int
  uid : Int
  gid : Int
  time : Int
  data : L
deriving DecidableEq
structure SmallN (n : Nd) : Prop where
  path : n.path.length ≤ 9223372036854775807
  link : n.link.length ≤ 9223372036854775807
  mode : n.mode < 9223372036854775808
  uid : n.uid < 9223372036854775808
  gid : n.gid < 9223372036854775808
  time : n.time < 9223372036854775808
  data : n.data.length ≤ 9223372036854775807
def zeroN : Nd := ⟨[], [], 0, 0, 0, 0, 0, []⟩
instance : Inhabited Nd := ⟨zeroN⟩
/-- A node's cells, and it as a value. -/
abbrev ncells (n : Nd) : Array Value := #[.string ⟨n.path.toArray⟩, .string ⟨n.link.toArray⟩, .int .u8 (n.kind.toNat : Int), .int .i64 n.mode, .int .i64 n.uid, .int .i64 n.gid, .int .i64 n.time, .string ⟨n.data.toArray⟩]
abbrev nv (n : Nd) : Value := .agg (ncells n)
theorem nd_cells {w : World} {g : Nat} {t : TypeId} {n : Nd} (hb : Blk w g t (ncells n)) :
    w.cell? ⟨g, 0, none⟩ = some (.string ⟨n.path.toArray⟩) ∧ w.cell? ⟨g, 1, none⟩ = some (.string ⟨n.link.toArray⟩) ∧ w.cell? ⟨g, 2, none⟩ = some (.int .u8 (n.kind.toNat : Int)) ∧ w.cell? ⟨g, 3, none⟩ = some (.int .i64 n.mode) ∧
    w.cell? ⟨g, 4, none⟩ = some (.int .i64 n.uid) ∧ w.cell? ⟨g, 5, none⟩ = some (.int .i64 n.gid) ∧ w.cell? ⟨g, 6, none⟩ = some (.int .i64 n.time) ∧ w.cell? ⟨g, 7, none⟩ = some (.string ⟨n.data.toArray⟩) := by
  refine ⟨?_, ?_, ?_, ?_, ?_, ?_, ?_, ?_⟩ <;> (rw [hb.cell]; rfl)
end Go.Proofs.Ytcgihjgfocohmaa.Node
