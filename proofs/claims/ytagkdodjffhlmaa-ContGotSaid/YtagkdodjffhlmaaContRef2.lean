/-
  The document's own answers for package cont: one try: no statement is proved here.
-/
import Derived.Test.YtagkdodjffhlmaaContRef
import Derived.Test.YtagkdodjffhlmaaEntrySl
import Derived.Deep.Cut
namespace Go.Proofs.Ytagkdodjffhlmaa.Cont
open Go.RowKit Go.Proofs.Ytagkdodjffhlmaa.Str Go.Proofs.Ytagkdodjffhlmaa.Base Go.Proofs.Ytagkdodjffhlmaa.Node Go.Proofs.Ytagkdodjffhlmaa.Head Go.Proofs.Ytagkdodjffhlmaa.Long Go.Proofs.Ytagkdodjffhlmaa.ContM
open Go.Proofs.Ytagkdodjffhlmaa.Tree (oneB)
set_option linter.unusedVariables false

theorem ok_blk {l : L} (h : codeB l = 0) : mayH (getH l) = true ∧ blk (getH l) = l ∧ l.length = 512 := by
  unfold getH
  rw [if_pos h]
  unfold codeB at h
  split at h
  · rename_i h1
    split at h
    · cases h
    · split at h
      · split at h
        · rename_i h4
          exact ⟨h4.1, h4.2, h1⟩
        · cases h
      · cases h
  · cases h
theorem rsame_v (ls ms : List L) (j k : Nat) (hj : ls.length = j) (hk : ms.length = k) (A B : Option Addr) (c d : Nat) (w : World) (ha : RdL w A c ls) (hb : RdL w B d ms) (hl : j < 9223372036854775808) (hm : k < 9223372036854775808) (b : Bool) (hb' : (ls == ms) = b) :
    Calls Try.prog 17 #[.slice A j c, .slice B k d] w fun e w' => e = .returned (.bool b) ∧ Stp w w' := by
  subst hj hk hb'
  exact Block.rsame_s ls ms A B c d w ha hb hl hm
/-- What a header of a file that goes on tells, in numbers. -/
theorem got_small {l : L} (hc : codeB l = 0) (ht : (getH l).ty = 77) : SmallH (getH l) ∧ 0 ≤ (getH l).real := by
  obtain ⟨h1, h2, h3⟩ := ok_blk hc
  refine ⟨by rw [getH, if_pos hc]; exact small_guess h3, ?_⟩
  have hn : numsOk (getH l) = true := by
    unfold mayH at h1
    simp only [Bool.and_eq_true] at h1
    exact h1.2
  unfold numsOk at hn
  rw [ht] at hn
  simp only [Bool.and_eq_true, decide_true, Bool.not_true, Bool.false_or] at hn
  exact (Num.putOk_iff.1 hn.2.2).1
def ansT (b : Bool) (n : Nd) (off whole k : Int) : Value := if b = true then .tuple #[nv n, .int .i64 off, .int .i64 whole, .int .i64 k, .bool true] else .tuple #[nv zeroN, .int .i64 0, .int .i64 0, .int .i64 0, .bool false]
end Go.Proofs.Ytagkdodjffhlmaa.Cont
