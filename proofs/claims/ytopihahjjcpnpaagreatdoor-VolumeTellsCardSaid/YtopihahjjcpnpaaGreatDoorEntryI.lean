/-
  What the walks of package entry's laws ask of its code, and the chapter's example: no statement is proved here.
-/
import Derived.Test.YtopihahjjcpnpaaGreatDoorEntryM
import Derived.Test.YtopihahjjcpnpaaGreatDoorTreeC4
import Derived.Test.YtopihahjjcpnpaaGreatDoorLongTx
import Derived.Test.YtopihahjjcpnpaaGreatDoorHeadMay
import Derived.Test.YtopihahjjcpnpaaGreatDoorBlockRef
namespace Go.Proofs.YtopihahjjcpnpaaGreatDoor.Entry
open Go.RowKit Go.Proofs.YtopihahjjcpnpaaGreatDoor.Str Go.Proofs.YtopihahjjcpnpaaGreatDoor.Base Go.Proofs.YtopihahjjcpnpaaGreatDoor.Node Go.Proofs.YtopihahjjcpnpaaGreatDoor.Head Go.Proofs.YtopihahjjcpnpaaGreatDoor.Long
open Go.Proofs.YtopihahjjcpnpaaGreatDoor.Tree (oneB)

theorem headV_yes {n : Nd} (h : oneB n = true) : headV n = headE n := by rw [headV, if_pos h]
theorem headV_no {n : Nd} (h : oneB n = false) : headV n = zeroH := by rw [headV, if_neg (by simp [h])]
theorem dataE_yes {n : Nd} (h : oneB n = true) : dataE n = BlockM.manyN n.data.length := by rw [dataE, if_pos h]
theorem dataE_no {n : Nd} (h : oneB n = false) : dataE n = 0 := by rw [dataE, if_neg (by simp [h])]

def exE (t : L) : Nd := ⟨[97], [], 48, 0, 0, 0, 0, t⟩
theorem exE_facts : oneB (exE (List.replicate 513 0)) = true ∧ (putE (exE (List.replicate 513 0))).length = 3 ∧ dataE (exE (List.replicate 513 0)) = 2 ∧ (headV (exE (List.replicate 513 0))).size = 513 := by
  have h1 : oneB (exE (List.replicate 513 0)) = true := by decide +kernel
  have h2 : needL (exE (List.replicate 513 0)) = false := by decide +kernel
  have h3 : needN (exE (List.replicate 513 0)) = false := by decide +kernel
  refine ⟨h1, ?_, ?_, ?_⟩
  · rw [putE_length h1, ahead_length h1, h2, h3]
    decide +kernel
  · rw [dataE_yes h1]
    decide +kernel
  · rw [headV_yes h1]
    show ((List.replicate 513 (0 : UInt8)).length : Int) = 513
    rw [List.length_replicate]
    rfl
theorem bs_noughts (k : Nat) : (bs (List.replicate k 0)).toArray = Array.replicate k (.int .u8 0) := by simp [bs]
theorem ex_conv {w1 : World} {g : Nat} {t : L} (ht : List.replicate 513 0 = t) (hb : Blk w1 g 5 (Array.replicate 513 (.int .u8 0))) :
    (convert 43 9 (.slice (some ⟨g, 0, none⟩) 513 513)).run Tryz.prog w1 = .ok (.string ⟨t.toArray⟩) w1 := by
  subst ht
  rw [← bs_noughts] at hb
  have h := (Base.Own.of_blk (lo := 0) hb (Nat.zero_le _) (n := 513) (by rw [List.size_toArray, bs_length, List.length_replicate]) (by unfold maxLen; omega)).rd
  rw [List.toList_toArray] at h
  exact run_string_rd (P := Tryz.prog) w1 43 9 5 Tryz.underlying43 Tryz.underlying5 Tryz.underlying9 _ _ _ h
theorem made_stp {w w1 : World} (hg1 : w.grownBy w1 none) : Stp w w1 := ⟨hg1.os, hg1.tape, hg1.output, hg1.size, fun j hj => hg1.block j hj (by simp)⟩
end Go.Proofs.YtopihahjjcpnpaaGreatDoor.Entry
