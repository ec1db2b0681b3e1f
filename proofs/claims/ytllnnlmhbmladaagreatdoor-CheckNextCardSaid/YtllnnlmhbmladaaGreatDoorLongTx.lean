/-
  Long texts: what they may be, as the code and the document tell it: no statement is proved here.
  Has a node few bytes: the laws' own question: no statement is proved here.
-/
import Derived.Test.YtllnnlmhbmladaaGreatDoorPathK
import Derived.Test.YtllnnlmhbmladaaGreatDoorBase
import Derived.Test.YtllnnlmhbmladaaGreatDoorNode
namespace Go.Proofs.YtllnnlmhbmladaaGreatDoor.Long
open Go.RowKit Go.Proofs.YtllnnlmhbmladaaGreatDoor.Str Go.Proofs.YtllnnlmhbmladaaGreatDoor.Base
abbrev L := List UInt8

/-- Is s a long text? -/
def textL (s : L) : Bool := decide (1 ≤ s.length) && (decide (s.length ≤ 300) && !(s.contains 0))
theorem textL_iff {s : L} : textL s = true ↔ 1 ≤ s.length ∧ s.length ≤ 300 ∧ (0 : UInt8) ∉ s := by simp [textL]
theorem index_neg {s : L} {i : Int} (h : Lib.indexByte s 0 = i) : decide (i < 0) = !(s.contains 0) := by
  rw [Bool.eq_iff_iff, decide_eq_true_eq, Bool.not_eq_true', ← Bool.not_eq_true, List.contains_iff_mem, ← PathM.indexByte_neg.trans Iff.rfl, h]
  have := Lib.indexByte_ge s 0
  rw [h] at this
  omega


set_option maxRecDepth 100000 in
theorem text_s (s : L) (w : World) :
    Calls Tryz.prog 76 #[.string ⟨s.toArray⟩] w fun e w' => e = .returned (.bool (textL s)) ∧ Stp w w' := by
  have h0 := Stp.refl w
  obtain ⟨i, hi⟩ : ∃ i, Lib.indexByte s 0 = i := ⟨_, rfl⟩
  have hx := index_neg hi
  have Hi := Lib.hid hi
  obtain ⟨c, hc⟩ : ∃ c, s.contains 0 = c := ⟨_, rfl⟩
  have ht : textL s = (decide (1 ≤ s.length) && (decide (s.length ≤ 300) && !c)) := by rw [← hc]; rfl
  rw [hc] at hx
  rw [ht]
  clear hi ht hc
  go_enter Tryz.func76, Tryz.ntmps76
  go_wp2_with (go_at_call 105; refine (Path.indexByte_l s 0 _).mono ?_; rintro e w' ⟨rfl, rfl⟩; rw [show Lib.indexByte s (0 : Int).toNat.toUInt8 = i from Hi.out])
  all_goals go_ret
  · refine ⟨congrArg (fun b => Ending.returned (.bool b)) ?_, h0⟩
    rw [decide_eq_true (show 1 ≤ s.length by omega), decide_eq_true (show s.length ≤ 300 by omega)]
    simp
  · refine ⟨congrArg (fun b => Ending.returned (.bool b)) ?_, h0⟩
    show false = _
    rw [decide_eq_false (show ¬ s.length ≤ 300 by omega)]
    simp
  · refine ⟨congrArg (fun b => Ending.returned (.bool b)) ?_, h0⟩
    show false = _
    rw [decide_eq_false (show ¬ 1 ≤ s.length by omega)]
    simp


end Go.Proofs.YtllnnlmhbmladaaGreatDoor.Long

namespace Go.Proofs.YtllnnlmhbmladaaGreatDoor.Long
open Go.RowKit Go.Proofs.YtllnnlmhbmladaaGreatDoor.Str Go.Proofs.YtllnnlmhbmladaaGreatDoor.Base Go.Proofs.YtllnnlmhbmladaaGreatDoor.Node

def fewN (n : Nd) : Bool := decide (n.path.length ≤ 400) && (decide (n.link.length ≤ 400) && decide (n.data.length ≤ 5000))
set_option maxRecDepth 100000 in
theorem few_s (n : Nd) (w : World) : Calls Tryz.prog 16 #[nv n] w fun e w' => e = .returned (.bool (fewN n)) ∧ Stp w w' := by
  have h0 := Stp.refl w
  obtain ⟨q0, q1, q2, q3, q4, q5, q6, q7⟩ := nd_cells (Blk.new w 23 (ncells n))
  go_enter Tryz.func16, Tryz.ntmps16
  go_wp2_with fail
  all_goals go_ret
  all_goals refine ⟨congrArg (fun b => Ending.returned (.bool b)) ?_, Stp.alloc h0 _⟩
  all_goals (unfold fewN; rw [Bool.eq_iff_iff])
  all_goals simp only [Bool.and_eq_true, decide_eq_true_eq, Bool.false_eq_true]
  · omega
  all_goals exact ⟨fun h => h.elim, fun h => by omega⟩
end Go.Proofs.YtllnnlmhbmladaaGreatDoor.Long

