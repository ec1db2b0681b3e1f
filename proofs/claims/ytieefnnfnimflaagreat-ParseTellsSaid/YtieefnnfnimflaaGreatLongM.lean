/-
  What package long answers, as plain functions over lists of bytes: no Go, and no statement, is proved here.
-/
import Derived.Test.YtieefnnfnimflaaGreatHeadM3
import Derived.Test.YtieefnnfnimflaaGreatBlockM
import Derived.Test.YtieefnnfnimflaaGreatPathM
import Derived.Test.YtieefnnfnimflaaGreatNode
import Derived.Test.YtieefnnfnimflaaGreatLongTx
namespace Go.Proofs.YtieefnnfnimflaaGreat.Long
open Go.Proofs.YtieefnnfnimflaaGreat.Node Go.Proofs.YtieefnnfnimflaaGreat.Head

def llName : L := [46, 47, 46, 47, 64, 76, 111, 110, 103, 76, 105, 110, 107]
/-- The header ahead of a long text. -/
def llH (k : UInt8) (s : L) : Hd := ⟨llName, [], [], 0, 0, 0, (s.length : Int) + 1, 0, k, 0, 0⟩
def putOkL (k : UInt8) (s : L) : Bool := (decide (k = 75) || decide (k = 76)) && textL s
/-- A long text's blocks. -/
def putLs (k : UInt8) (s : L) : List L := if putOkL k s = true then [blk (llH k s), BlockM.blk (s ++ [0])] else []
def needN (n : Nd) : Bool := PathM.mayB n.path && !(PathM.splB n.path)
def needL (n : Nd) : Bool := decide (100 < n.link.length)
def nameV (n : Nd) : L := if needN n = true then n.path.take 100 else (PathM.splV n.path).2
def preV (n : Nd) : L := (PathM.splV n.path).1
def linkV (n : Nd) : L := n.link.take 100
def aheadV (n : Nd) : List L := (if needL n = true then putLs 75 n.link else []) ++ (if needN n = true then putLs 76 n.path else [])

theorem putOkL_iff {k : UInt8} {s : L} : putOkL k s = true ↔ (k = 75 ∨ k = 76) ∧ textL s = true := by simp [putOkL]
theorem putLs_yes {k : UInt8} {s : L} (h : putOkL k s = true) : putLs k s = [blk (llH k s), BlockM.blk (s ++ [0])] := by rw [putLs, if_pos h]
theorem putLs_no {k : UInt8} {s : L} (h : putOkL k s = false) : putLs k s = [] := by rw [putLs, if_neg (by simp [h])]
theorem cut_long {s : L} (h : textL s = true) : BlockM.cutV (s ++ [0]) = [BlockM.blk (s ++ [0])] := by
  obtain ⟨h1, h2, _⟩ := textL_iff.1 h
  have e : BlockM.manyN (s ++ [0]).length = 1 := BlockM.manyN_of (by simp; omega) (by simp)
  rw [BlockM.cutV, e]
  rfl
theorem llH_may {k : UInt8} {s : L} (h : putOkL k s = true) : mayH (llH k s) = true := by
  obtain ⟨hk, ht⟩ := putOkL_iff.1 h
  obtain ⟨h1, h2, _⟩ := textL_iff.1 ht
  have hz : Num.putOk 0 8 = true := by decide
  have hz2 : Num.putOk 0 12 = true := by decide
  have hsz : Num.putOk ((s.length : Int) + 1) 12 = true := by
    rw [Num.putOk_iff]
    refine ⟨by omega, by omega, by omega, ?_⟩
    have : ((s.length : Int) + 1).toNat ≤ 301 := by omega
    have h3 : (301 : Nat) < 256 ^ ((12 : Int) - 1).toNat := by decide
    omega
  have hn : okT llName 100 = true := by decide
  have hn0 : okT [] 100 = true := by decide
  have hn1 : okT [] 155 = true := by decide
  unfold mayH elseZ txtsOk numsOk llH
  rcases hk with rfl | rfl
  all_goals
    simp only [hz, hz2, hsz, hn, hn0, hn1]
    simp [llName, typs]
theorem llH_small {k : UInt8} {s : L} (h : s.length ≤ 9000000000000) : SmallH (llH k s) := by
  constructor <;> simp only [llH] <;> first | (simp only [llName]; decide) | omega | simp
theorem llH_inj {k j : UInt8} {s t : L} : llH k s = llH j t ↔ k = j ∧ s.length = t.length := by
  unfold llH
  simp only [Hd.mk.injEq]
  constructor
  · rintro ⟨-, -, -, -, -, -, h, -, h2, -⟩
    exact ⟨h2, by omega⟩
  · rintro ⟨rfl, h⟩
    simp [h]
theorem text_blk_inj {s t : L} (hs : textL s = true) (ht : textL t = true) (h : BlockM.blk (s ++ [0]) = BlockM.blk (t ++ [0])) : s = t := by
  obtain ⟨s1, s2, s3⟩ := textL_iff.1 hs
  obtain ⟨t1, t2, t3⟩ := textL_iff.1 ht
  have key : ∀ {x : L}, (0 : UInt8) ∉ x → x.length ≤ 300 → (BlockM.blk (x ++ [0])).takeWhile (fun b => b != 0) = x := by
    intro x h0 hl
    unfold BlockM.blk
    rw [List.take_of_length_le (by simp; omega), List.append_assoc, List.takeWhile_append_of_pos (by intro b hb; simp; rintro rfl; exact h0 hb)]
    simp
  rw [← key s3 s2, ← key t3 t2, h]
theorem putLs_may (k : UInt8) (s : L) : BlockM.mayV (putLs k s) = true := by
  unfold putLs
  split
  · rename_i h
    obtain ⟨_, ht⟩ := putOkL_iff.1 h
    obtain ⟨_, h2, _⟩ := textL_iff.1 ht
    exact BlockM.mayV_iff.2 (by
      intro b hb
      simp only [List.mem_cons, List.not_mem_nil, or_false] at hb
      rcases hb with rfl | rfl
      · exact blk_length (llH_may h) (llH_small (by omega))
      · exact BlockM.blk_length _)
  · rfl
theorem putLs_length (k : UInt8) (s : L) : (putLs k s).length = if putOkL k s = true then 2 else 0 := by unfold putLs; split <;> rfl
theorem ahead_may (n : Nd) : BlockM.mayV (aheadV n) = true := by
  refine BlockM.mayV_iff.2 fun b hb => ?_
  unfold aheadV at hb
  rcases List.mem_append.1 hb with hb | hb
  · split at hb
    · exact BlockM.mayV_iff.1 (putLs_may _ _) b hb
    · simp at hb
  · split at hb
    · exact BlockM.mayV_iff.1 (putLs_may _ _) b hb
    · simp at hb
theorem needN_facts {n : Nd} (h : needN n = true) : PathM.mayB n.path = true ∧ PathM.splB n.path = false ∧ 100 < n.path.length ∧ PathM.splV n.path = ([], []) := by
  unfold needN at h
  rw [Bool.and_eq_true, Bool.not_eq_true'] at h
  obtain ⟨h1, h2⟩ := h
  refine ⟨h1, h2, ?_, PathM.split_none_facts h2⟩
  rcases PathM.split_none_long h2 with q | q
  · rw [h1] at q; cases q
  · exact q
theorem may_text {p : L} (h : PathM.mayB p = true) : textL p = true := by
  obtain ⟨h1, h2, h3, _⟩ := PathM.mayB_iff.1 h
  exact textL_iff.2 ⟨h1, h2, h3⟩
end Go.Proofs.YtieefnnfnimflaaGreat.Long
