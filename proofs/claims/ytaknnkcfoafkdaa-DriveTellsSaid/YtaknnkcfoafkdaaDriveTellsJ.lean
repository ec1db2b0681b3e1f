/-
  The law DriveTells, joined: no statement is proved here.
-/
import Derived.Test.YtaknnkcfoafkdaaDriveTellsW
namespace Go.Proofs.Ytaknnkcfoafkdaa.Drive
open Go.RowKit Go.Proofs.Ytaknnkcfoafkdaa.Str Go.Proofs.Ytaknnkcfoafkdaa.Base Go.Proofs.Ytaknnkcfoafkdaa.BlockM Go.Proofs.Ytaknnkcfoafkdaa.RecM Go.Proofs.Ytaknnkcfoafkdaa.TapeM Go.Proofs.Ytaknnkcfoafkdaa.Tape Go.Proofs.Ytaknnkcfoafkdaa.DriveM

theorem tells_rd (I : DriveI) (hAw : ∀ w : World, Calls Try.prog 9 #[] w fun e w' => e = .returned (.bool true) ∧ Stp w w') (d : Dr) (A : Option Addr) (k : Nat) (w : World) (ha : RdS w A k d.shelf) (hs : SmallD d) (c : Dr) (B : Option Addr) (b : Nat) (hb : RdS w B b c.shelf) (ht : SmallD c) (q : Int) (hq0 : -9223372036854775808 ≤ q) (hq1 : q < 9223372036854775808)
    (r : L) (C : Option Addr) (l f : Nat) (hr : Rd w w.heap.size (.slice C l f) (bs r)) (hl : r.length < 9223372036854775808) :
    Calls Try.prog 3 #[dv d A k, dv c B b, .int .i64 q, .slice C l f] w fun e w' => e = .returned (.bool true) ∧ Stp w w' := by
  obtain ⟨C', f', e, hr'⟩ := RdA.of hr
  rw [bs_length] at e
  cases e
  obtain ⟨ts, i, p⟩ := d
  obtain ⟨us, a, o⟩ := c
  obtain ⟨x1, hx1⟩ : ∃ x, fewDB ts = x := ⟨_, rfl⟩
  obtain ⟨x2, hx2⟩ : ∃ x, fewDB us = x := ⟨_, rfl⟩
  obtain ⟨x3, hx3⟩ : ∃ x, decide ((12000 : Int) < (r.length : Int)) = x := ⟨_, rfl⟩
  by_cases h : (x1 && x2 && !x3) = false
  · exact tells_no I hAw ts i p _ hs rfl us a o _ ht rfl q hq0 hq1 r _ rfl hl A B C k b f w ha hb hr' x1 x2 x3 hx1 hx2 hx3 h
  · have h2 : (x1 && x2 && !x3) = true := by rw [Bool.not_eq_false] at h; exact h
    rw [Bool.and_eq_true, Bool.and_eq_true] at h2
    obtain ⟨⟨h3, h4⟩, h5⟩ := h2
    subst h3 h4
    refine tells_yes I hAw ts i p _ hs rfl us a o _ ht rfl q hq0 hq1 r _ rfl hl A B C k b f w ha hb hr' hx1 hx2 ?_
    have h6 : x3 = false := by cases x3 <;> first | rfl | cases h5
    rw [h6, decide_eq_false_iff_not] at hx3
    omega
end Go.Proofs.Ytaknnkcfoafkdaa.Drive
