/-
  What the walks of the laws of tapes share: no statement is proved here.
-/
import Derived.Test.YtaknnkcfoafkdaaTapeA
import Derived.Test.YtaknnkcfoafkdaaRecFew
import Derived.BigQuiet
namespace Go.Proofs.Ytaknnkcfoafkdaa.Tape
open Go.RowKit Go.Proofs.Ytaknnkcfoafkdaa.Str Go.Proofs.Ytaknnkcfoafkdaa.Base Go.Proofs.Ytaknnkcfoafkdaa.BlockM Go.Proofs.Ytaknnkcfoafkdaa.RecM Go.Proofs.Ytaknnkcfoafkdaa.TapeM
set_option linter.unusedVariables false

theorem few_of {c : Int} {ls : List L} {m : Bool} (hs : SmallT ⟨c, ls, m⟩) (hF : Rec.fewR ls = true) : FewT ⟨c, ls, m⟩ := by
  obtain ⟨⟨h1, -⟩, h2⟩ := Rec.fewR_iff.1 hF
  exact ⟨hs.low, hs.high, by dsimp only; omega, fun l hl => Nat.le_trans (h2 l hl) (by omega)⟩
theorem FewT.mark {c : Int} {ls : List L} {m : Bool} (h : FewT ⟨c, ls, m⟩) (m' : Bool) : FewT ⟨c, ls, m'⟩ := ⟨h.low, h.high, h.few, h.each⟩
theorem FewT.cut {c : Int} {ls : List L} {m : Bool} (h : FewT ⟨c, ls, m⟩) (k : Nat) (m' : Bool) : FewT ⟨c, ls.take k, m'⟩ :=
  ⟨h.low, h.high, by have := h.few; dsimp only at this ⊢; rw [List.length_take]; omega, fun l hl => h.each l (List.mem_of_mem_take hl)⟩
theorem few_app {c : Int} {ls rs : List L} {m : Bool} (hs : SmallT ⟨c, ls, m⟩) (hF : Rec.fewR ls = true) (hr : rs.length ≤ 200) (he : ∀ r ∈ rs, r.length ≤ 12000) (m' : Bool) : FewT ⟨c, ls ++ rs, m'⟩ := by
  obtain ⟨⟨h1, -⟩, h2⟩ := Rec.fewR_iff.1 hF
  refine ⟨hs.low, hs.high, by dsimp only; rw [List.length_append]; omega, fun l hl => ?_⟩
  rcases List.mem_append.1 hl with h | h
  · exact Nat.le_trans (h2 l h) (by omega)
  · exact Nat.le_trans (he l h) (by omega)
theorem fewR_n {rs : List L} (h : Rec.fewR rs = true) : rs.length ≤ 60 ∧ ∀ r ∈ rs, r.length ≤ 12000 := ⟨(Rec.fewR_iff.1 h).1.1, (Rec.fewR_iff.1 h).2⟩
theorem str_n {w : World} {A : Option Addr} {n c : Nat} {l : L} (hn : l.length = n) (h : RdA w A c (bs l)) :
    (convert 25 9 (.slice A n c)).run Try.prog w = .ok (.string ⟨l.toArray⟩) w := by
  have h' := h
  unfold RdA at h'
  rw [bs_length, hn] at h'
  exact run_string_rd (P := Try.prog) w 25 9 5 Try.underlying25 Try.underlying5 Try.underlying9 _ _ _ h'
end Go.Proofs.Ytaknnkcfoafkdaa.Tape
