/-
  What the walks of package parse's laws ask of its code, the chapter's example, and has a state few bytes: no statement is proved here.
  A state's cells, free to be written, and stored one behind another: no statement is proved here.
  The walk of the statement ParseStays over package parse's contracts: the statement itself is proved in a text of its own.
-/
import Derived.Test.YthjdejjejlhioaaGreatDoorParseM
import Derived.Test.YthjdejjejlhioaaGreatDoorEvs
import Derived.Test.YthjdejjejlhioaaGreatDoorLongTx
import Derived.Test.YthjdejjejlhioaaGreatDoorBlockK
import Derived.Test.YthjdejjejlhioaaGreatDoorEntryI
import Derived.BigQuiet
import Derived.Deep.QuietTactic
namespace Go.Proofs.YthjdejjejlhioaaGreatDoor.Parse
open Go.RowKit Go.Proofs.YthjdejjejlhioaaGreatDoor.Str Go.Proofs.YthjdejjejlhioaaGreatDoor.Base Go.Proofs.YthjdejjejlhioaaGreatDoor.Node Go.Proofs.YthjdejjejlhioaaGreatDoor.Long
open Go.Proofs.YthjdejjejlhioaaGreatDoor.Tree (oneB)

/-- Run's contract. -/
def RunI : Prop := ∀ (s : St) (v : Value), v = sv s → SmallS s → ∀ (l : List L) (n : Nat), l.length = n → n ≤ 1000 → (∀ b ∈ l, b.length < 9223372036854775808) → ∀ (t : St) (y : List Evt) (k m : Nat) (e0 : Int), runS s l = (t, y, m, e0) → y.length = k → ∀ (A : Option Addr) (c : Nat) (w : World), RdL w A c l →
    Calls Tryz.prog 21 #[v, .slice A n c] w fun e w' => ∃ B d, e = .returned (.tuple #[sv t, .slice B k d, .int .i64 (m : Int), .int .i64 e0]) ∧ RdE w' B d y ∧ Stp w w'
/-- A state that lies in a block. -/
theorem st_cells {w : World} {g : Nat} {t : TypeId} {s : St} (hb : Blk w g t (scells s)) :
    w.cell? ⟨g, 0, none⟩ = some (.int .i64 s.phase) ∧ w.cell? ⟨g, 1, none⟩ = some (.string ⟨s.node.path.toArray⟩) ∧ w.cell? ⟨g, 2, none⟩ = some (.string ⟨s.node.link.toArray⟩) ∧ w.cell? ⟨g, 3, none⟩ = some (.int .u8 (s.node.kind.toNat : Int)) ∧ w.cell? ⟨g, 4, none⟩ = some (.int .i64 s.node.mode) ∧
    w.cell? ⟨g, 5, none⟩ = some (.int .i64 s.node.uid) ∧ w.cell? ⟨g, 6, none⟩ = some (.int .i64 s.node.gid) ∧ w.cell? ⟨g, 7, none⟩ = some (.int .i64 s.node.time) ∧ w.cell? ⟨g, 8, none⟩ = some (.string ⟨s.node.data.toArray⟩) ∧ w.cell? ⟨g, 9, none⟩ = some (.int .i64 s.size) ∧ w.cell? ⟨g, 10, none⟩ = some (.int .i64 s.left) ∧
    w.cell? ⟨g, 11, none⟩ = some (.string ⟨s.text.toArray⟩) ∧ w.cell? ⟨g, 12, none⟩ = some (.string ⟨s.name.toArray⟩) ∧ w.cell? ⟨g, 13, none⟩ = some (.string ⟨s.link.toArray⟩) := by
  refine ⟨?_, ?_, ?_, ?_, ?_, ?_, ?_, ?_, ?_, ?_, ?_, ?_, ?_, ?_⟩ <;> (rw [hb.cell]; rfl)

/-- Has a state few bytes? -/
def fewS (s : St) : Bool := fewN s.node && (decide (s.text.length ≤ 400) && (decide (s.name.length ≤ 400) && decide (s.link.length ≤ 400)))
/-! ### the chapter's example -/
theorem zero_sv : Value.agg #[.int .i64 0, .string ⟨#[]⟩, .string ⟨#[]⟩, .int .u8 0, .int .i64 0, .int .i64 0, .int .i64 0, .int .i64 0, .string ⟨#[]⟩, .int .i64 0, .int .i64 0, .string ⟨#[]⟩, .string ⟨#[]⟩, .string ⟨#[]⟩] = sv zeroS := rfl
end Go.Proofs.YthjdejjejlhioaaGreatDoor.Parse

namespace Go.Proofs.YthjdejjejlhioaaGreatDoor.Ends
open Go.RowKit Go.Proofs.YthjdejjejlhioaaGreatDoor.Str Go.Proofs.YthjdejjejlhioaaGreatDoor.Base Go.Proofs.YthjdejjejlhioaaGreatDoor.Node Go.Proofs.YthjdejjejlhioaaGreatDoor.Parse

theorem st_free {w : World} {g : Nat} {t : TypeId} {cs : Array Value} (hb : Blk w g t cs) :
    w.frozen? ⟨g, 0, none⟩ = false ∧ w.frozen? ⟨g, 1, none⟩ = false ∧ w.frozen? ⟨g, 2, none⟩ = false ∧ w.frozen? ⟨g, 3, none⟩ = false ∧ w.frozen? ⟨g, 4, none⟩ = false ∧ w.frozen? ⟨g, 5, none⟩ = false ∧ w.frozen? ⟨g, 6, none⟩ = false ∧ w.frozen? ⟨g, 7, none⟩ = false ∧ w.frozen? ⟨g, 8, none⟩ = false ∧ w.frozen? ⟨g, 9, none⟩ = false ∧ w.frozen? ⟨g, 10, none⟩ = false ∧ w.frozen? ⟨g, 11, none⟩ = false ∧ w.frozen? ⟨g, 12, none⟩ = false ∧ w.frozen? ⟨g, 13, none⟩ = false :=
  ⟨hb.free 0, hb.free 1, hb.free 2, hb.free 3, hb.free 4, hb.free 5, hb.free 6, hb.free 7, hb.free 8, hb.free 9, hb.free 10, hb.free 11, hb.free 12, hb.free 13⟩

/-- A state's cells, stored one behind another. -/
abbrev fillS (w : World) (g : Nat) (s : St) : World := ((((((((((((((w.setCell ⟨g, 0, none⟩ (.int .i64 s.phase)).setCell ⟨g, 1, none⟩ (.string ⟨s.node.path.toArray⟩)).setCell ⟨g, 2, none⟩ (.string ⟨s.node.link.toArray⟩)).setCell ⟨g, 3, none⟩ (.int .u8 (s.node.kind.toNat : Int))).setCell ⟨g, 4, none⟩ (.int .i64 s.node.mode)).setCell ⟨g, 5, none⟩ (.int .i64 s.node.uid)).setCell ⟨g, 6, none⟩ (.int .i64 s.node.gid)).setCell ⟨g, 7, none⟩ (.int .i64 s.node.time)).setCell ⟨g, 8, none⟩ (.string ⟨s.node.data.toArray⟩)).setCell ⟨g, 9, none⟩ (.int .i64 s.size)).setCell ⟨g, 10, none⟩ (.int .i64 s.left)).setCell ⟨g, 11, none⟩ (.string ⟨s.text.toArray⟩)).setCell ⟨g, 12, none⟩ (.string ⟨s.name.toArray⟩)).setCell ⟨g, 13, none⟩ (.string ⟨s.link.toArray⟩))
theorem fills_blk {w : World} {g : Nat} {t : TypeId} {z : St} (s : St) (h : Blk w g t (scells z)) : Blk (fillS w g s) g t (scells s) := fillC_all (scells s).toList h rfl
theorem fills_stp {w w1 : World} {g : Nat} (s : St) (h : Stp w w1) (hg : w.heap.size ≤ g) : Stp w (fillS w1 g s) := fillC_stp hg (scells s).toList 0 w1 h
end Go.Proofs.YthjdejjejlhioaaGreatDoor.Ends

namespace Go.Proofs.YthjdejjejlhioaaGreatDoor.Parse
open Go.RowKit Go.Proofs.YthjdejjejlhioaaGreatDoor.Str Go.Proofs.YthjdejjejlhioaaGreatDoor.Base Go.Proofs.YthjdejjejlhioaaGreatDoor.Node Go.Proofs.YthjdejjejlhioaaGreatDoor.Long
open Go.Proofs.YthjdejjejlhioaaGreatDoor.Tree (oneB)

theorem one_small {n : Nd} (h : oneB n = true) : SmallN n := by
  have f := Entry.oneF h
  have h1 := (PathM.mayB_iff.1 f.path).2.1
  have h2 : n.link.length ≤ 300 := by
    rcases f.link with h | h
    · rw [h]; simp
    · exact (textL_iff.1 h).2.1
  have h3 := f.mode; have h4 := f.uid; have h5 := f.gid; have h6 := f.time; have h7 := f.data
  exact ⟨by omega, by omega, by omega, by omega, by omega, by omega, by omega⟩
theorem may_small {s : St} (h : mayS s = true) : SmallS s := by
  obtain ⟨p0, p5⟩ := may_phase h
  have hp : s.phase = 0 ∨ s.phase = 1 ∨ s.phase = 2 ∨ s.phase = 3 ∨ (s.phase = 4 ∨ s.phase = 5) := by omega
  rcases hp with hp | hp | hp | hp | hp
  · obtain ⟨k1, ⟨k2, k3, k4⟩, k5, k6⟩ := (head_iff hp).1 h
    have := longB_len k5; have := longB_len k6
    exact ⟨by omega, by omega, by rw [k2]; exact zeroN_small, by omega, by omega, by omega, by omega, by rw [k1]; simp, by omega, by omega⟩
  · obtain ⟨k1, ⟨k2, k3, k4, k5⟩, k6, k7⟩ := (name_iff hp).1 h
    have := longB_len k7
    exact ⟨by omega, by omega, by rw [k2]; exact zeroN_small, by omega, by omega, by omega, by omega, by rw [k1]; simp, by rw [k6]; simp, by omega⟩
  · obtain ⟨k1, ⟨k2, k3, k4, k5⟩, k6, k7⟩ := (link_iff hp).1 h
    have := longB_len k7
    exact ⟨by omega, by omega, by rw [k2]; exact zeroN_small, by omega, by omega, by omega, by omega, by rw [k1]; simp, by omega, by rw [k6]; simp⟩
  · obtain ⟨k1, ⟨k2, k3, k4, k5, k6, k7, k8, k9⟩, k10, k11⟩ := (data_iff hp).1 h
    exact ⟨by omega, by omega, one_small k2, by omega, by omega, by omega, by omega, by rw [k1]; simp, by rw [k10]; simp, by rw [k11]; simp⟩
  · obtain ⟨k1, ⟨k2, k3, k4⟩, k5, k6⟩ := (over_iff hp).1 h
    exact ⟨by omega, by omega, by rw [k2]; exact zeroN_small, by omega, by omega, by omega, by omega, by rw [k1]; simp, by rw [k5]; simp, by rw [k6]; simp⟩
theorem step_small {s : St} (hs : SmallS s) (b : L) : SmallS (stepS s b).1 := by
  by_cases h : (stepS s b).2.2 = 0
  · exact may_small (step_goes h).1
  · rw [(step_stay h).1]
    exact hs

end Go.Proofs.YthjdejjejlhioaaGreatDoor.Parse

