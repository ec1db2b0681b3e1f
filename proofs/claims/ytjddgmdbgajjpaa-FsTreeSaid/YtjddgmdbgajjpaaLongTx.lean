/-
  Long texts: what they may be, as the code and the document tell it: no statement is proved here.
  Has a node few bytes: the laws' own question: no statement is proved here.
-/
import Derived.Test.YtjddgmdbgajjpaaPathK
import Derived.Test.YtjddgmdbgajjpaaBase
import Derived.Test.YtjddgmdbgajjpaaNode
namespace Go.Proofs.Ytjddgmdbgajjpaa.Long
open Go.RowKit Go.Proofs.Ytjddgmdbgajjpaa.Str Go.Proofs.Ytjddgmdbgajjpaa.Base
abbrev L := List UInt8

/-- Is s a long text? -/
def textL (s : L) : Bool := decide (1 ≤ s.length) && (decide (s.length ≤ 300) && !(s.contains 0))
theorem textL_iff {s : L} : textL s = true ↔ 1 ≤ s.length ∧ s.length ≤ 300 ∧ (0 : UInt8) ∉ s := by simp [textL]
theorem index_neg {s : L} {i : Int} (h : Lib.indexByte s 0 = i) : decide (i < 0) = !(s.contains 0) := by
  rw [Bool.eq_iff_iff, decide_eq_true_eq, Bool.not_eq_true', ← Bool.not_eq_true, List.contains_iff_mem, ← PathM.indexByte_neg.trans Iff.rfl, h]
  have := Lib.indexByte_ge s 0
  rw [h] at this
  omega


set_option maxRecDepth 100000 in
theorem text_s (s : L) (w : World) :
    Calls Try.prog 66 #[.string ⟨s.toArray⟩] w fun e w' => e = .returned (.bool (textL s)) ∧ Stp w w' := by
  have h0 := Stp.refl w
  obtain ⟨i, hi⟩ : ∃ i, Lib.indexByte s 0 = i := ⟨_, rfl⟩
  have hx := index_neg hi
  have Hi := Lib.hid hi
  obtain ⟨c, hc⟩ : ∃ c, s.contains 0 = c := ⟨_, rfl⟩
  have ht : textL s = (decide (1 ≤ s.length) && (decide (s.length ≤ 300) && !c)) := by rw [← hc]; rfl
  rw [hc] at hx
  rw [ht]
  clear hi ht hc
  go_enter Try.func66, Try.ntmps66
  go_wp2_with (go_at_call 44; refine (Path.indexByte_l s 0 _).mono ?_; rintro e w' ⟨rfl, rfl⟩; rw [show Lib.indexByte s (0 : Int).toNat.toUInt8 = i from Hi.out])
  all_goals go_ret
  · refine ⟨congrArg (fun b => Ending.returned (.bool b)) ?_, h0⟩
    rw [decide_eq_true (show 1 ≤ s.length by omega), decide_eq_true (show s.length ≤ 300 by omega)]
    simp
  · refine ⟨congrArg (fun b => Ending.returned (.bool b)) ?_, h0⟩
    show false = _
    rw [decide_eq_false (show ¬ s.length ≤ 300 by omega)]
    simp
  · refine ⟨congrArg (fun b => Ending.returned (.bool b)) ?_, h0⟩
    show false = _
    rw [decide_eq_false (show ¬ 1 ≤ s.length by omega)]
    simp


theorem text_v (s : L) (v : ByteArray) (e : v = ⟨s.toArray⟩) (w : World) :
    Calls Try.prog 66 #[.string v] w fun e w' => e = .returned (.bool (textL s)) ∧ Stp w w' := by
  subst e
  exact text_s s w
theorem textL_mem {s : L} (h : (0 : UInt8) ∈ s) : textL s = false := by unfold textL; simp [h]
theorem textL_non {s : L} (h : (0 : UInt8) ∉ s) : textL s = (decide (1 ≤ s.length) && decide (s.length ≤ 300)) := by unfold textL; simp [h]
set_option maxHeartbeats 1600000 in
set_option maxRecDepth 100000 in
theorem rtext_s (s : L) (hs : s.length ≤ 9223372036854775807) (w : World) :
    Calls Try.prog 59 #[.string ⟨s.toArray⟩] w fun e w' => e = .returned (.bool (textL s)) ∧ Stp w w' := by
  obtain ⟨r, hr⟩ : ∃ r, textL s = r := ⟨_, rfl⟩
  rw [hr]
  have Hr := Lib.hid hr
  clear hr
  go_enter Try.func59, Try.ntmps59
  go_wp2_with fail
  go_loopw [3] (fun i wr => ∃ k : Nat, k ≤ s.length ∧ i = .int .i64 k ∧ Stp w wr ∧ Hid ((0 : UInt8) ∉ s.take k)) (fun i _ => s.length - (intOf i).toNat)
  case atStart => exact ⟨0, by omega, rfl, Stp.refl w, Lib.hid (by simp)⟩
  case round =>
    obtain ⟨k, hk, rfl, h0, Hk⟩ := hrel
    by_cases hlt : k < s.length
    · obtain ⟨x, hl1⟩ : ∃ x, s[k]? = some x := ⟨_, List.getElem?_eq_getElem hlt⟩
      have ci := Str.idx_l s (k : Int) x (by omega) (by simpa using hl1)
      have Hl1 := Lib.hid hl1
      clear hl1
      by_cases h5 : x = 0
      · have g : ((x.toNat : Int) == 0) = true := by simp [h5]
        have Hm := Lib.hid (show (0 : UInt8) ∈ s by rw [← h5]; exact List.mem_of_getElem? Hl1.out)
        clear h5
        go_wp2_with fail
        go_ret
        refine ⟨?_, h0⟩
        rw [← Hr.out, textL_mem Hm.out]
        rfl
      · have g : ((x.toNat : Int) == 0) = false := by
          rw [beq_eq_false_iff_ne]
          intro h
          exact h5 (UInt8.toNat_inj.1 (by show x.toNat = 0; omega))
        have R := Lib.hid (show (0 : UInt8) ∉ s.take (k + 1) by
          rw [List.take_add_one, Hl1.out]
          intro h
          rcases List.mem_append.1 h with h | h
          · exact Hk.out h
          · simp at h; exact h5 h.symm)
        clear h5
        go_wp2_with fail
        go_roundw
        case rel => exact ⟨k + 1, by omega, by go_num, h0, R⟩
        case measure => simp [intOf]; omega
    · obtain rfl : k = s.length := by omega
      have hk2 := Hk.out
      rw [List.take_length] at hk2
      have Hk2 := Lib.hid hk2
      clear hk2 Hk
      go_wp2_with fail
      all_goals go_ret
      all_goals refine ⟨congrArg (fun b => Ending.returned (.bool b)) ?_, h0⟩
      all_goals (rw [← Hr.out, textL_non Hk2.out])
      · rw [decide_eq_true (show 1 ≤ s.length by omega)]
        rw [Bool.eq_iff_iff]
        simp only [Bool.true_and, decide_eq_true_eq]
        omega
      · rw [decide_eq_false (show ¬ 1 ≤ s.length by omega)]
        rfl

end Go.Proofs.Ytjddgmdbgajjpaa.Long

namespace Go.Proofs.Ytjddgmdbgajjpaa.Long
open Go.RowKit Go.Proofs.Ytjddgmdbgajjpaa.Str Go.Proofs.Ytjddgmdbgajjpaa.Base Go.Proofs.Ytjddgmdbgajjpaa.Node

def fewN (n : Nd) : Bool := decide (n.path.length ≤ 400) && (decide (n.link.length ≤ 400) && decide (n.data.length ≤ 5000))
theorem fewN_iff {n : Nd} : fewN n = true ↔ n.path.length ≤ 400 ∧ n.link.length ≤ 400 ∧ n.data.length ≤ 5000 := by simp [fewN]
set_option maxRecDepth 100000 in
theorem few_s (n : Nd) (w : World) : Calls Try.prog 11 #[nv n] w fun e w' => e = .returned (.bool (fewN n)) ∧ Stp w w' := by
  have h0 := Stp.refl w
  obtain ⟨q0, q1, q2, q3, q4, q5, q6, q7⟩ := nd_cells (Blk.new w 26 (ncells n))
  go_enter Try.func11, Try.ntmps11
  go_wp2_with fail
  all_goals go_ret
  all_goals refine ⟨congrArg (fun b => Ending.returned (.bool b)) ?_, Stp.alloc h0 _⟩
  all_goals (unfold fewN; rw [Bool.eq_iff_iff])
  all_goals simp only [Bool.and_eq_true, decide_eq_true_eq, Bool.false_eq_true]
  · omega
  all_goals exact ⟨fun h => h.elim, fun h => by omega⟩
end Go.Proofs.Ytjddgmdbgajjpaa.Long

