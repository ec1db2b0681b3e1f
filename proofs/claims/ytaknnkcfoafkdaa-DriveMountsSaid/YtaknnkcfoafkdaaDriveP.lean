/-
  What the answers of drives are is small: no statement is proved here.
-/
import Derived.Test.YtaknnkcfoafkdaaDriveB
namespace Go.Proofs.Ytaknnkcfoafkdaa.Drive
open Go.RowKit Go.Proofs.Ytaknnkcfoafkdaa.Str Go.Proofs.Ytaknnkcfoafkdaa.Base Go.Proofs.Ytaknnkcfoafkdaa.BlockM Go.Proofs.Ytaknnkcfoafkdaa.RecM Go.Proofs.Ytaknnkcfoafkdaa.TapeM Go.Proofs.Ytaknnkcfoafkdaa.Tape Go.Proofs.Ytaknnkcfoafkdaa.DriveM
set_option linter.unusedVariables false

theorem few_mount {d : Dr} {q : Int} (h : FewD d) (h0 : -9223372036854775808 ≤ q) (h1 : q < 9223372036854775808) : FewD (mountD d q).1 := by
  unfold mountD
  split
  · exact h
  · split
    · exact h
    · exact ⟨h0, h1, by simp, by simp, h.few, h.each⟩
theorem few_unmount {d : Dr} (h : FewD d) : FewD (unmountD d).1 := by
  unfold unmountD
  split
  · exact h
  · exact ⟨by simp, by simp, by simp, by simp, h.few, h.each⟩
theorem few_rewind {d : Dr} (h : FewD d) : FewD (rewindD d).1 := by
  unfold rewindD
  split
  · exact h
  · exact ⟨h.ilow, h.ihigh, by simp, by simp, h.few, h.each⟩
theorem few_write {d : Dr} {r : L} (h : FewD d) : FewD (writeD d r).1 := by
  by_cases h0 : (writeD d r).2 = 0
  · obtain ⟨j, p, t, -, -, -, -, -, -, -, -, -, -, hm⟩ := writeD_ok h0
    exact few_may hm
  · rw [writeD_err h0]
    exact h
theorem few_mark {d : Dr} (h : FewD d) : FewD (markD d).1 := by
  by_cases hw : whyD d = 0
  · obtain ⟨hm, hi⟩ := whyD_ok hw
    obtain ⟨j, p, t, e1, e2, e3, -, -, e6, -, -, -⟩ := mounted hm hi
    obtain ⟨x1, x2⟩ := markD_ok hm e1 e2 e3 e6
    rw [x1]
    exact few_may x2
  · rw [markD, if_pos hw]
    exact h
theorem few_read {d : Dr} (h : FewD d) : FewD (readD d).1 := by
  unfold readD
  split
  · exact h
  · rename_i hw
    split
    · exact h
    · obtain ⟨hm, hi⟩ := whyD_ok (by simpa using hw)
      obtain ⟨j, p, t, e1, e2, e3, -, -, e6, -, -, e9⟩ := mounted hm hi
      exact ⟨h.ilow, h.ihigh, by dsimp only; omega, by dsimp only; omega, h.few, h.each⟩
/-- Another tape mounted at its beginning, or none. -/
theorem may_at {ts : List Tp} {i p j : Int} (h : mayD ⟨ts, i, p⟩ = true) (h0 : -1 ≤ j) (h1 : j < (ts.length : Int)) : mayD ⟨ts, j, 0⟩ = true := by
  obtain ⟨a1, a2, a3, a4, a5, a6⟩ := mayD_iff.1 h
  refine mayD_iff.2 ⟨a1, h0, h1, Int.le_refl 0, a5, ?_⟩
  unfold posB
  split
  · exact decide_eq_true rfl
  · exact decide_eq_true (by dsimp only; omega)
theorem few_new {ts : List Tp} (h1 : ts.length ≤ 1000) (h2 : ∀ t ∈ ts, FewT t) : FewD (newD ts).1 := by
  unfold newD
  split
  · exact ⟨by simp, by simp, by simp, by simp, h1, h2⟩
  · exact ⟨by simp, by simp, by simp, by simp, by simp, by simp⟩
end Go.Proofs.Ytaknnkcfoafkdaa.Drive
