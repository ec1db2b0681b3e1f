/-
  The law DriveWrites, its ways out ahead of an OK: no statement is proved here.
-/
import Derived.Test.YtaknnkcfoafkdaaDriveP
namespace Go.Proofs.Ytaknnkcfoafkdaa.Drive
open Go.RowKit Go.Proofs.Ytaknnkcfoafkdaa.Str Go.Proofs.Ytaknnkcfoafkdaa.Base Go.Proofs.Ytaknnkcfoafkdaa.BlockM Go.Proofs.Ytaknnkcfoafkdaa.RecM Go.Proofs.Ytaknnkcfoafkdaa.TapeM Go.Proofs.Ytaknnkcfoafkdaa.Tape Go.Proofs.Ytaknnkcfoafkdaa.DriveM
set_option linter.unusedVariables false

set_option maxRecDepth 100000 in
set_option maxHeartbeats 2000000 in
theorem writes_no (I : DriveI) (hAw : ∀ w : World, Calls Try.prog 9 #[] w fun e w' => e = .returned (.bool true) ∧ Stp w w') (ts : List Tp) (i p : Int) (n : Nat) (hs : SmallD ⟨ts, i, p⟩) (hn : ts.length = n) (A : Option Addr) (k : Nat) (w : World) (ha : RdS w A k ts) (r : L) (l : Nat) (hl : r.length = l) (hl9 : l < 9223372036854775808) (C : Option Addr) (f : Nat) (hr : RdA w C f (bs r)) (q : Int) (hx1 : fewDB ts = false) :
    Calls Try.prog 4 #[dc A n k i p, .slice C l f, .int .i64 q] w fun e w' => e = .returned (.bool true) ∧ Stp w w' := by
  have HI := Lib.hid I
  have HAw := Lib.hid hAw
  have HS := Lib.hid hs
  have Ha := Lib.hid ha
  have Hn := Lib.hid hn
  have h0 := Stp.alloc (Stp.refl w) (.cells (dcs A n k i p) 24)
  have H := Lib.hid h0
  have B0 := Lib.hid (Blk.new w 24 (dcs A n k i p))
  obtain ⟨⟨q0, q1, q2⟩, -, -, -⟩ := dd_all B0.out
  have HX1 := Lib.hid hx1
  have Hl := Lib.hid hl
  have Hr := Lib.hid hr
  clear hs ha h0 hAw I hx1 hl hr
  go_enter Try.func4, Try.ntmps4
  go_wp2_with (first
    | (go_at_call 9; refine (HAw.out _).mono ?_; rintro e wn ⟨rfl, hs⟩; replace H := Lib.hid (Stp.trans H.out hs); replace B0 := Lib.hid (B0.out.keep hs B0.out.lt); clear q0 q1 q2; obtain ⟨⟨q0, q1, q2⟩, -, -, -⟩ := dd_all B0.out; clear hs)
    | (go_at_call 10; (with_reducible refine (few_s ts i p n HS.out Hn.out _ HX1.out A k _ (Ha.out.keep H.out)).mono ?_); rintro e wn ⟨rfl, hs⟩; replace H := Lib.hid (Stp.trans H.out hs); replace B0 := Lib.hid (B0.out.keep hs B0.out.lt); clear q0 q1 q2; obtain ⟨⟨q0, q1, q2⟩, -, -, -⟩ := dd_all B0.out; clear hs))
  all_goals go_ret
  all_goals exact ⟨rfl, H.out⟩
set_option maxRecDepth 100000 in
set_option maxHeartbeats 2000000 in
theorem writes_long (I : DriveI) (hAw : ∀ w : World, Calls Try.prog 9 #[] w fun e w' => e = .returned (.bool true) ∧ Stp w w') (ts : List Tp) (i p : Int) (n : Nat) (hs : SmallD ⟨ts, i, p⟩) (hn : ts.length = n) (A : Option Addr) (k : Nat) (w : World) (ha : RdS w A k ts) (r : L) (l : Nat) (hl : r.length = l) (hl9 : l < 9223372036854775808) (C : Option Addr) (f : Nat) (hr : RdA w C f (bs r)) (q : Int) (hx1 : fewDB ts = true) (h : 12000 < l) :
    Calls Try.prog 4 #[dc A n k i p, .slice C l f, .int .i64 q] w fun e w' => e = .returned (.bool true) ∧ Stp w w' := by
  have HI := Lib.hid I
  have HAw := Lib.hid hAw
  have HS := Lib.hid hs
  have Ha := Lib.hid ha
  have Hn := Lib.hid hn
  have h0 := Stp.alloc (Stp.refl w) (.cells (dcs A n k i p) 24)
  have H := Lib.hid h0
  have B0 := Lib.hid (Blk.new w 24 (dcs A n k i p))
  obtain ⟨⟨q0, q1, q2⟩, -, -, -⟩ := dd_all B0.out
  have HX1 := Lib.hid hx1
  have Hl := Lib.hid hl
  have Hr := Lib.hid hr
  have g1 : decide ((12000 : Int) < (l : Int)) = true := decide_eq_true (by omega)
  clear hs ha h0 hAw I hx1 hl hr h
  go_enter Try.func4, Try.ntmps4
  go_wp2_with (first
    | (go_at_call 9; refine (HAw.out _).mono ?_; rintro e wn ⟨rfl, hs⟩; replace H := Lib.hid (Stp.trans H.out hs); replace B0 := Lib.hid (B0.out.keep hs B0.out.lt); clear q0 q1 q2; obtain ⟨⟨q0, q1, q2⟩, -, -, -⟩ := dd_all B0.out; clear hs)
    | (go_at_call 10; (with_reducible refine (few_s ts i p n HS.out Hn.out _ HX1.out A k _ (Ha.out.keep H.out)).mono ?_); rintro e wn ⟨rfl, hs⟩; replace H := Lib.hid (Stp.trans H.out hs); replace B0 := Lib.hid (B0.out.keep hs B0.out.lt); clear q0 q1 q2; obtain ⟨⟨q0, q1, q2⟩, -, -, -⟩ := dd_all B0.out; clear hs))
  all_goals go_ret
  all_goals exact ⟨rfl, H.out⟩
set_option maxRecDepth 100000 in
set_option maxHeartbeats 2000000 in
theorem writes_may (I : DriveI) (hAw : ∀ w : World, Calls Try.prog 9 #[] w fun e w' => e = .returned (.bool true) ∧ Stp w w') (ts : List Tp) (i p : Int) (n : Nat) (hs : SmallD ⟨ts, i, p⟩) (hn : ts.length = n) (A : Option Addr) (k : Nat) (w : World) (ha : RdS w A k ts) (r : L) (l : Nat) (hl : r.length = l) (hl9 : l < 9223372036854775808) (C : Option Addr) (f : Nat) (hr : RdA w C f (bs r)) (q : Int) (hx1 : fewDB ts = true) (h : l ≤ 12000) (hM : mayD ⟨ts, i, p⟩ = false) :
    Calls Try.prog 4 #[dc A n k i p, .slice C l f, .int .i64 q] w fun e w' => e = .returned (.bool true) ∧ Stp w w' := by
  have HI := Lib.hid I
  have HAw := Lib.hid hAw
  have HS := Lib.hid hs
  have Ha := Lib.hid ha
  have Hn := Lib.hid hn
  have h0 := Stp.alloc (Stp.refl w) (.cells (dcs A n k i p) 24)
  have H := Lib.hid h0
  have B0 := Lib.hid (Blk.new w 24 (dcs A n k i p))
  obtain ⟨⟨q0, q1, q2⟩, -, -, -⟩ := dd_all B0.out
  have HX1 := Lib.hid hx1
  have Hl := Lib.hid hl
  have Hr := Lib.hid hr
  have HM := Lib.hid hM
  have HD := Lib.hid (fewD_of hs hx1)
  have g1 : decide ((12000 : Int) < (l : Int)) = false := decide_eq_false (by omega)
  clear hs ha h0 hAw I hx1 hl hr hM
  go_enter Try.func4, Try.ntmps4
  go_wp2_with (first
    | (go_at_call 9; refine (HAw.out _).mono ?_; rintro e wn ⟨rfl, hs⟩; replace H := Lib.hid (Stp.trans H.out hs); replace B0 := Lib.hid (B0.out.keep hs B0.out.lt); clear q0 q1 q2; obtain ⟨⟨q0, q1, q2⟩, -, -, -⟩ := dd_all B0.out; clear hs)
    | (go_at_call 10; (with_reducible refine (few_s ts i p n HS.out Hn.out _ HX1.out A k _ (Ha.out.keep H.out)).mono ?_); rintro e wn ⟨rfl, hs⟩; replace H := Lib.hid (Stp.trans H.out hs); replace B0 := Lib.hid (B0.out.keep hs B0.out.lt); clear q0 q1 q2; obtain ⟨⟨q0, q1, q2⟩, -, -, -⟩ := dd_all B0.out; clear hs)
    | (go_at_call 27; (with_reducible refine (HI.out.may ts i p n HD.out Hn.out _ HM.out A k _ (Ha.out.keep H.out)).mono ?_); rintro e wn ⟨rfl, hs⟩; replace H := Lib.hid (Stp.trans H.out hs); replace B0 := Lib.hid (B0.out.keep hs B0.out.lt); clear q0 q1 q2; obtain ⟨⟨q0, q1, q2⟩, -, -, -⟩ := dd_all B0.out; clear hs))
  all_goals go_ret
  all_goals exact ⟨rfl, H.out⟩
set_option maxRecDepth 100000 in
set_option maxHeartbeats 4000000 in
theorem writes_err (I : DriveI) (hAw : ∀ w : World, Calls Try.prog 9 #[] w fun e w' => e = .returned (.bool true) ∧ Stp w w') (ts : List Tp) (i p : Int) (n : Nat) (hs : SmallD ⟨ts, i, p⟩) (hn : ts.length = n) (A : Option Addr) (k : Nat) (w : World) (ha : RdS w A k ts) (r : L) (l : Nat) (hl : r.length = l) (hl9 : l < 9223372036854775808) (C : Option Addr) (f : Nat) (hr : RdA w C f (bs r)) (q : Int) (hx1 : fewDB ts = true) (h : l ≤ 12000) (hM : mayD ⟨ts, i, p⟩ = true) (he : (writeD ⟨ts, i, p⟩ r).2 ≠ 0) :
    Calls Try.prog 4 #[dc A n k i p, .slice C l f, .int .i64 q] w fun e w' => e = .returned (.bool true) ∧ Stp w w' := by
  have HI := Lib.hid I
  have HAw := Lib.hid hAw
  have HS := Lib.hid hs
  have Ha := Lib.hid ha
  have Hn := Lib.hid hn
  have h0 := Stp.alloc (Stp.refl w) (.cells (dcs A n k i p) 24)
  have H := Lib.hid h0
  have B0 := Lib.hid (Blk.new w 24 (dcs A n k i p))
  obtain ⟨⟨q0, q1, q2⟩, -, -, -⟩ := dd_all B0.out
  have HX1 := Lib.hid hx1
  have Hl := Lib.hid hl
  have Hr := Lib.hid hr
  have HM := Lib.hid hM
  have HD := Lib.hid (fewD_of hs hx1)
  have g1 : decide ((12000 : Int) < (l : Int)) = false := decide_eq_false (by omega)
  have Hl2 : Hid (l ≤ 100000) := Lib.hid (by omega)
  obtain ⟨e0, h0e⟩ : ∃ x, (writeD ⟨ts, i, p⟩ r).2 = x := ⟨_, rfl⟩
  have HV1 : Hid (writeD ⟨ts, i, p⟩ r = (⟨ts, i, p⟩, e0)) := Lib.hid (Prod.ext (writeD_err he) h0e)
  obtain ⟨y0, hy0⟩ : ∃ y : Int, (e0 : Int) = y := ⟨_, rfl⟩
  have g2 : (y0 != 0) = true := by rw [bne_iff_ne]; omega
  have HY := Lib.hid hy0
  clear hs ha h0 hAw I hx1 hl hr hM he h0e hy0
  go_enter Try.func4, Try.ntmps4
  go_wp2_with (first
    | (go_at_call 9; refine (HAw.out _).mono ?_; rintro e wn ⟨rfl, hs⟩; replace H := Lib.hid (Stp.trans H.out hs); replace B0 := Lib.hid (B0.out.keep hs B0.out.lt); clear q0 q1 q2; obtain ⟨⟨q0, q1, q2⟩, -, -, -⟩ := dd_all B0.out; clear hs)
    | (go_at_call 10; (with_reducible refine (few_s ts i p n HS.out Hn.out _ HX1.out A k _ (Ha.out.keep H.out)).mono ?_); rintro e wn ⟨rfl, hs⟩; replace H := Lib.hid (Stp.trans H.out hs); replace B0 := Lib.hid (B0.out.keep hs B0.out.lt); clear q0 q1 q2; obtain ⟨⟨q0, q1, q2⟩, -, -, -⟩ := dd_all B0.out; clear hs)
    | (go_at_call 27; (with_reducible refine (HI.out.may ts i p n HD.out Hn.out _ HM.out A k _ (Ha.out.keep H.out)).mono ?_); rintro e wn ⟨rfl, hs⟩; replace H := Lib.hid (Stp.trans H.out hs); replace B0 := Lib.hid (B0.out.keep hs B0.out.lt); clear q0 q1 q2; obtain ⟨⟨q0, q1, q2⟩, -, -, -⟩ := dd_all B0.out; clear hs)
    | (go_at_call 17; (with_reducible refine (HI.out.write ts i p n HD.out Hn.out r l Hl.out Hl2.out ts i p n e0 HV1.out Hn.out y0 HY.out A k C f _ (Ha.out.keep H.out) (Hr.out.keep H.out)).mono ?_); rintro e w1 ⟨Aw1, kw1, rfl, hr, hs, -⟩; have hsA := Stp.alloc hs (.cells (dcs Aw1 n kw1 i p) 24); replace H := Lib.hid (Stp.trans H.out hsA); replace B0 := Lib.hid (B0.out.keep hsA B0.out.lt); have D1 := Lib.hid (Blk.new w1 24 (dcs Aw1 n kw1 i p)); have RD1 := Lib.hid (hr.keep (Stp.alloc (Stp.refl w1) (.cells (dcs Aw1 n kw1 i p) 24))); clear q0 q1 q2; obtain ⟨⟨q0, q1, q2⟩, -, -, -⟩ := dd_all B0.out; obtain ⟨⟨aa0, aa1, aa2⟩, -, -, -⟩ := dd_all D1.out; clear hr hs hsA)
    | (go_at_call 28; (with_reducible refine (HI.out.same ts i p n HD.out Hn.out ts i p n HD.out Hn.out true (by simp) _ _ _ _ _ RD1.out (Ha.out.keep H.out)).mono ?_); rintro e wn ⟨rfl, hs⟩; replace H := Lib.hid (Stp.trans H.out hs); replace B0 := Lib.hid (B0.out.keep hs B0.out.lt); replace D1 := Lib.hid (D1.out.keep hs D1.out.lt); replace RD1 := Lib.hid (RD1.out.keep hs); clear q0 q1 q2; obtain ⟨⟨q0, q1, q2⟩, -, -, -⟩ := dd_all B0.out; clear aa0 aa1 aa2; obtain ⟨⟨aa0, aa1, aa2⟩, -, -, -⟩ := dd_all D1.out; clear hs))
  all_goals go_ret
  all_goals exact ⟨rfl, H.out⟩
end Go.Proofs.Ytaknnkcfoafkdaa.Drive
