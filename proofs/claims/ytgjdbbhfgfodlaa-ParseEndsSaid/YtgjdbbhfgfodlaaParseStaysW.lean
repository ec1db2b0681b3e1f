/-
  The walk of the statement ParseStays over package parse's contracts: the statement itself is proved in a text of its own.
-/
import Derived.Test.YtgjdbbhfgfodlaaParseI
import Derived.Test.YtgjdbbhfgfodlaaEvq
import Derived.BigQuiet
import Derived.Deep.QuietTactic
namespace Go.Proofs.Ytgjdbbhfgfodlaa.Parse
open Go.RowKit Go.Proofs.Ytgjdbbhfgfodlaa.Str Go.Proofs.Ytgjdbbhfgfodlaa.Base Go.Proofs.Ytgjdbbhfgfodlaa.Node Go.Proofs.Ytgjdbbhfgfodlaa.Long
open Go.Proofs.Ytgjdbbhfgfodlaa.Tree (oneB)

theorem one_small {n : Nd} (h : oneB n = true) : SmallN n := by
  have f := Entry.oneF h
  have h1 := (PathM.mayB_iff.1 f.path).2.1
  have h2 : n.link.length ≤ 300 := by
    rcases f.link with h | h
    · rw [h]; simp
    · exact (textL_iff.1 h).2.1
  have h3 := f.mode; have h4 := f.uid; have h5 := f.gid; have h6 := f.time; have h7 := f.data
  exact ⟨by omega, by omega, by omega, by omega, by omega, by omega, by omega⟩
theorem may_small {s : St} (h : mayS s = true) : SmallS s := by
  obtain ⟨p0, p5⟩ := may_phase h
  have hp : s.phase = 0 ∨ s.phase = 1 ∨ s.phase = 2 ∨ s.phase = 3 ∨ (s.phase = 4 ∨ s.phase = 5) := by omega
  rcases hp with hp | hp | hp | hp | hp
  · obtain ⟨k1, ⟨k2, k3, k4⟩, k5, k6⟩ := (head_iff hp).1 h
    have := longB_len k5; have := longB_len k6
    exact ⟨by omega, by omega, by rw [k2]; exact zeroN_small, by omega, by omega, by omega, by omega, by rw [k1]; simp, by omega, by omega⟩
  · obtain ⟨k1, ⟨k2, k3, k4, k5⟩, k6, k7⟩ := (name_iff hp).1 h
    have := longB_len k7
    exact ⟨by omega, by omega, by rw [k2]; exact zeroN_small, by omega, by omega, by omega, by omega, by rw [k1]; simp, by rw [k6]; simp, by omega⟩
  · obtain ⟨k1, ⟨k2, k3, k4, k5⟩, k6, k7⟩ := (link_iff hp).1 h
    have := longB_len k7
    exact ⟨by omega, by omega, by rw [k2]; exact zeroN_small, by omega, by omega, by omega, by omega, by rw [k1]; simp, by omega, by rw [k6]; simp⟩
  · obtain ⟨k1, ⟨k2, k3, k4, k5, k6, k7, k8, k9⟩, k10, k11⟩ := (data_iff hp).1 h
    exact ⟨by omega, by omega, one_small k2, by omega, by omega, by omega, by omega, by rw [k1]; simp, by rw [k10]; simp, by rw [k11]; simp⟩
  · obtain ⟨k1, ⟨k2, k3, k4⟩, k5, k6⟩ := (over_iff hp).1 h
    exact ⟨by omega, by omega, by rw [k2]; exact zeroN_small, by omega, by omega, by omega, by omega, by rw [k1]; simp, by rw [k5]; simp, by rw [k6]; simp⟩
theorem step_small {s : St} (hs : SmallS s) (b : L) : SmallS (stepS s b).1 := by
  by_cases h : (stepS s b).2.2 = 0
  · exact may_small (step_goes h).1
  · rw [(step_stay h).1]
    exact hs

end Go.Proofs.Ytgjdbbhfgfodlaa.Parse
