/-
  The document's own answers for package tree: May: no statement is proved here.
  What holds of trees that may be, as plain lists of nodes: no Go, and no statement, is proved here.
  What package stream answers, as plain functions over lists of nodes: no Go, and no statement, is proved here.
-/
import Derived.Test.YtgjdbbhfgfodlaaGreatTreeOne
import Derived.Sort.Walk0
import Derived.Test.YtgjdbbhfgfodlaaGreatEntryM
namespace Go.Proofs.YtgjdbbhfgfodlaaGreat.Tree
open Go.RowKit Go.Proofs.YtgjdbbhfgfodlaaGreat.Base Go.Proofs.YtgjdbbhfgfodlaaGreat.Node Go.Proofs.YtgjdbbhfgfodlaaGreat.Long

theorem mayT_iff {ns : List Nd} : mayT ns = true ↔ ns.length ≤ 20 ∧ ∀ (j : Nat) (m : Nd), ns[j]? = some m → stepB (ns.take j) m = true := by
  unfold mayT
  rw [Bool.and_eq_true, decide_eq_true_eq, List.all_eq_true]
  refine and_congr_right fun _ => ⟨fun h j m hj => ?_, fun h j hj => ?_⟩
  · have := h j (by rw [List.mem_range]; exact (List.getElem?_eq_some_iff.1 hj).1)
    rw [hj] at this
    simpa using this
  · rw [List.mem_range] at hj
    rw [List.getElem?_eq_getElem hj]
    simpa using h j _ (List.getElem?_eq_getElem hj)
theorem k48 : (48 : Int) = ((48 : UInt8).toNat : Int) := rfl

end Go.Proofs.YtgjdbbhfgfodlaaGreat.Tree

namespace Go.Proofs.YtgjdbbhfgfodlaaGreat.Tree
open Go.Proofs.YtgjdbbhfgfodlaaGreat.Node Go.Proofs.YtgjdbbhfgfodlaaGreat.Long

/-! ### the order of paths -/
/-! ### what each node of a tree is -/
theorem may_at {t : List Nd} {j : Nat} {m : Nd} (h : mayT t = true) (hj : t[j]? = some m) : stepB (t.take j) m = true := (mayT_iff.1 h).2 j m hj
theorem may_one {t : List Nd} {j : Nat} {m : Nd} (h : mayT t = true) (hj : t[j]? = some m) : oneB m = true := by
  have := may_at h hj
  unfold stepB at this
  rw [Bool.and_eq_true] at this
  exact this.1
/-! ### what stands ahead of a node -/
/-! ### below -/
/-! ### one node more -/
end Go.Proofs.YtgjdbbhfgfodlaaGreat.Tree

namespace Go.Proofs.YtgjdbbhfgfodlaaGreat.Stream
open Go.Proofs.YtgjdbbhfgfodlaaGreat.Node Go.Proofs.YtgjdbbhfgfodlaaGreat.Head Go.Proofs.YtgjdbbhfgfodlaaGreat.Long Go.Proofs.YtgjdbbhfgfodlaaGreat.Entry
open Go.Proofs.YtgjdbbhfgfodlaaGreat.Tree (oneB mayT)
abbrev L := List UInt8

/-- The nodes' blocks, the stream's, where a node begins, and whose a block is. -/
def blocksT (t : List Nd) : List L := t.flatMap putE
def endsV : List L := BlockM.blks 2 []
def allS (t : List Nd) : List L := if mayT t = true then blocksT t ++ endsV else []
theorem endsV_length : endsV.length = 2 := BlockM.blks_length _ _
theorem endsV_is : endsV = [zeros 512, zeros 512] := by decide +kernel
theorem allS_yes {t : List Nd} (h : mayT t = true) : allS t = blocksT t ++ endsV := by rw [allS, if_pos h]
theorem blocks_cons (n : Nd) (t : List Nd) : blocksT (n :: t) = putE n ++ blocksT t := by simp [blocksT]
/-! ### a node's blocks are told by themselves -/
theorem all_ones {t : List Nd} (h : mayT t = true) : ∀ n ∈ t, oneB n = true := fun n hn => by
  obtain ⟨j, hj⟩ := List.getElem?_of_mem hn
  exact Tree.may_one h hj
/-! ### whose a block is -/
end Go.Proofs.YtgjdbbhfgfodlaaGreat.Stream

