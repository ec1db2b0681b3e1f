/-
  A node as a plain value, and as the model's: no statement is proved here.
  A struct's cells stored one behind another into a block, and a node's: plain lemmas; no statement is proved here.
-/
import Derived.Test.YtjddgmdbgajjpaaProg
import Derived.Test.YtjddgmdbgajjpaaBase
namespace Go.Proofs.Ytjddgmdbgajjpaa.Node
open Go.RowKit Go.Proofs.Ytjddgmdbgajjpaa.Base
abbrev L := List UInt8

structure Nd where
  path : L
  link : L
  kind : UInt8
  mode : Int
  uid : Int
  gid : Int
  time : Int
  data : L
deriving DecidableEq
structure SmallN (n : Nd) : Prop where
  path : n.path.length ≤ 9223372036854775807
  link : n.link.length ≤ 9223372036854775807
  mode : n.mode < 9223372036854775808
  uid : n.uid < 9223372036854775808
  gid : n.gid < 9223372036854775808
  time : n.time < 9223372036854775808
  data : n.data.length ≤ 9223372036854775807
def zeroN : Nd := ⟨[], [], 0, 0, 0, 0, 0, []⟩
instance : Inhabited Nd := ⟨zeroN⟩
/-- A node's cells, and it as a value. -/
abbrev ncells (n : Nd) : Array Value := #[.string ⟨n.path.toArray⟩, .string ⟨n.link.toArray⟩, .int .u8 (n.kind.toNat : Int), .int .i64 n.mode, .int .i64 n.uid, .int .i64 n.gid, .int .i64 n.time, .string ⟨n.data.toArray⟩]
abbrev nv (n : Nd) : Value := .agg (ncells n)
theorem nd_cells {w : World} {g : Nat} {t : TypeId} {n : Nd} (hb : Blk w g t (ncells n)) :
    w.cell? ⟨g, 0, none⟩ = some (.string ⟨n.path.toArray⟩) ∧ w.cell? ⟨g, 1, none⟩ = some (.string ⟨n.link.toArray⟩) ∧ w.cell? ⟨g, 2, none⟩ = some (.int .u8 (n.kind.toNat : Int)) ∧ w.cell? ⟨g, 3, none⟩ = some (.int .i64 n.mode) ∧
    w.cell? ⟨g, 4, none⟩ = some (.int .i64 n.uid) ∧ w.cell? ⟨g, 5, none⟩ = some (.int .i64 n.gid) ∧ w.cell? ⟨g, 6, none⟩ = some (.int .i64 n.time) ∧ w.cell? ⟨g, 7, none⟩ = some (.string ⟨n.data.toArray⟩) := by
  refine ⟨?_, ?_, ?_, ?_, ?_, ?_, ?_, ?_⟩ <;> (rw [hb.cell]; rfl)
end Go.Proofs.Ytjddgmdbgajjpaa.Node

namespace Go.Proofs.Ytjddgmdbgajjpaa.Base
open Go.RowKit

def fillC (g : Nat) : List Value → Nat → World → World
  | [], _, w => w
  | v :: vs, i, w => fillC g vs (i + 1) (w.setCell ⟨g, i, none⟩ v)
theorem fillC_blk {g : Nat} {t : TypeId} : ∀ (vs : List Value) (i : Nat) (w : World) (cs : Array Value), Blk w g t cs → i + vs.length ≤ cs.size → Blk (fillC g vs i w) g t (cs.toList.take i ++ vs ++ cs.toList.drop (i + vs.length)).toArray
  | [], i, w, cs, h, _ => by simpa [fillC] using h
  | v :: vs, i, w, cs, h, hl => by
    have h2 := fillC_blk vs (i + 1) _ _ (h.put i v) (by simp only [List.length_cons] at hl; simp only [Array.size_setIfInBounds]; omega)
    have e := list_seg_step cs.toList i v vs (by simp only [List.length_cons] at hl; rw [Array.length_toList]; omega)
    rw [show i + (v :: vs).length = i + 1 + vs.length by simp only [List.length_cons]; omega]
    rw [Array.toList_setIfInBounds] at h2
    rw [show i + (vs.length + 1) = i + 1 + vs.length by omega] at e
    rw [← e]
    exact h2
theorem fillC_stp {g : Nat} {w : World} (hg : w.heap.size ≤ g) : ∀ (vs : List Value) (i : Nat) (w1 : World), Stp w w1 → Stp w (fillC g vs i w1)
  | [], _, _, h => h
  | v :: vs, i, _, h => fillC_stp hg vs (i + 1) _ (Below.setCell h (p := ⟨g, i, none⟩) hg v)
theorem fillC_all {g : Nat} {t : TypeId} {w : World} {cs : Array Value} (vs : List Value) (h : Blk w g t cs) (hl : vs.length = cs.size) : Blk (fillC g vs 0 w) g t vs.toArray := by
  have := fillC_blk vs 0 w cs h (by omega)
  rw [List.take_zero, List.nil_append, Nat.zero_add, hl, ← Array.length_toList, List.drop_length, List.append_nil] at this
  exact this
end Go.Proofs.Ytjddgmdbgajjpaa.Base
namespace Go.Proofs.Ytjddgmdbgajjpaa.Node
open Go.RowKit Go.Proofs.Ytjddgmdbgajjpaa.Base
/-- A node's cells, stored one behind another. -/
abbrev fillN (w : World) (g : Nat) (n : Nd) : World := (((((((w.setCell ⟨g, 0, none⟩ (.string ⟨n.path.toArray⟩)).setCell ⟨g, 1, none⟩ (.string ⟨n.link.toArray⟩)).setCell ⟨g, 2, none⟩ (.int .u8 (n.kind.toNat : Int))).setCell ⟨g, 3, none⟩ (.int .i64 n.mode)).setCell ⟨g, 4, none⟩ (.int .i64 n.uid)).setCell ⟨g, 5, none⟩ (.int .i64 n.gid)).setCell ⟨g, 6, none⟩ (.int .i64 n.time)).setCell ⟨g, 7, none⟩ (.string ⟨n.data.toArray⟩)
theorem filln_blk {w : World} {g : Nat} {t : TypeId} {z : Nd} (n : Nd) (h : Blk w g t (ncells z)) : Blk (fillN w g n) g t (ncells n) := fillC_all (ncells n).toList h rfl
theorem filln_stp {w w1 : World} {g : Nat} (n : Nd) (h : Stp w w1) (hg : w.heap.size ≤ g) : Stp w (fillN w1 g n) := fillC_stp hg (ncells n).toList 0 w1 h
theorem nzy {w : World} {g : Nat} {t : TypeId} {n : Nd} (hb : Blk w g t (ncells n)) :
    (w.cell? ⟨g, 0, none⟩ = some (.string ⟨n.path.toArray⟩) ∧ w.cell? ⟨g, 1, none⟩ = some (.string ⟨n.link.toArray⟩) ∧ w.cell? ⟨g, 2, none⟩ = some (.int .u8 (n.kind.toNat : Int)) ∧ w.cell? ⟨g, 3, none⟩ = some (.int .i64 n.mode) ∧
    w.cell? ⟨g, 4, none⟩ = some (.int .i64 n.uid) ∧ w.cell? ⟨g, 5, none⟩ = some (.int .i64 n.gid) ∧ w.cell? ⟨g, 6, none⟩ = some (.int .i64 n.time) ∧ w.cell? ⟨g, 7, none⟩ = some (.string ⟨n.data.toArray⟩)) ∧
    w.frozen? ⟨g, 0, none⟩ = false ∧ w.frozen? ⟨g, 1, none⟩ = false ∧ w.frozen? ⟨g, 2, none⟩ = false ∧ w.frozen? ⟨g, 3, none⟩ = false ∧ w.frozen? ⟨g, 4, none⟩ = false ∧ w.frozen? ⟨g, 5, none⟩ = false ∧ w.frozen? ⟨g, 6, none⟩ = false ∧ w.frozen? ⟨g, 7, none⟩ = false :=
  ⟨nd_cells hb, hb.free 0, hb.free 1, hb.free 2, hb.free 3, hb.free 4, hb.free 5, hb.free 6, hb.free 7⟩
end Go.Proofs.Ytjddgmdbgajjpaa.Node

