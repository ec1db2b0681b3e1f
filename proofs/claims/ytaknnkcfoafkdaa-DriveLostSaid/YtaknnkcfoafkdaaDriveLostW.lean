/-
  The law DriveLost, walked over the contracts: no statement is proved here.
-/
import Derived.Test.YtaknnkcfoafkdaaDriveC
import Derived.Test.YtaknnkcfoafkdaaTapeP
import Derived.Test.YtaknnkcfoafkdaaTapeO
import Derived.BigQuiet
import Derived.Lib.QuietBelow
namespace Go.Proofs.Ytaknnkcfoafkdaa.Drive
open Go.RowKit Go.Proofs.Ytaknnkcfoafkdaa.Str Go.Proofs.Ytaknnkcfoafkdaa.Base Go.Proofs.Ytaknnkcfoafkdaa.BlockM Go.Proofs.Ytaknnkcfoafkdaa.RecM Go.Proofs.Ytaknnkcfoafkdaa.TapeM Go.Proofs.Ytaknnkcfoafkdaa.Tape Go.Proofs.Ytaknnkcfoafkdaa.DriveM
set_option linter.unusedVariables false

open Go.Sort
set_option maxRecDepth 100000 in
set_option maxHeartbeats 4000000 in
theorem lost_no (I : DriveI) (hAw : ∀ w : World, Calls Try.prog 9 #[] w fun e w' => e = .returned (.bool true) ∧ Stp w w') (ts : List Tp) (i p : Int) (n : Nat) (hs : SmallD ⟨ts, i, p⟩) (hn : ts.length = n) (A : Option Addr) (k : Nat) (w : World) (ha : RdS w A k ts) (r : L) (l : Nat) (hl : r.length = l) (hl9 : l < 9223372036854775808) (C : Option Addr) (f : Nat) (hr : RdA w C f (bs r)) (q : Int) (hq0 : -9223372036854775808 ≤ q) (hq1 : q < 9223372036854775808) (hx1 : fewDB ts = false) :
    Calls Try.prog 6 #[dc A n k i p, .slice C l f, .int .i64 q] w fun e w' => e = .returned (.bool true) ∧ Stp w w' := by
  have HI := Lib.hid I
  have HAw := Lib.hid hAw
  have HS := Lib.hid hs
  have Ha := Lib.hid ha
  have Hn := Lib.hid hn
  have h0 := Stp.alloc (Stp.refl w) (.cells (dcs A n k i p) 24)
  have H := Lib.hid h0
  have B0 := Lib.hid (Blk.new w 24 (dcs A n k i p))
  obtain ⟨⟨q0, q1, q2⟩, -, -, -⟩ := dd_all B0.out
  have HX1 := Lib.hid hx1
  have Hl := Lib.hid hl
  have Hr := Lib.hid hr
  clear hs ha h0 hAw I hx1 hl hr
  go_enter Try.func6, Try.ntmps6
  go_wp2_with (first
    | (go_at_call 9; refine (HAw.out _).mono ?_; rintro e wn ⟨rfl, hs⟩; replace H := Lib.hid (Stp.trans H.out hs); replace B0 := Lib.hid (B0.out.keep hs B0.out.lt); clear q0 q1 q2; obtain ⟨⟨q0, q1, q2⟩, -, -, -⟩ := dd_all B0.out; clear hs)
    | (go_at_call 10; (with_reducible refine (few_s ts i p n HS.out Hn.out _ HX1.out A k _ (Ha.out.keep H.out)).mono ?_); rintro e wn ⟨rfl, hs⟩; replace H := Lib.hid (Stp.trans H.out hs); replace B0 := Lib.hid (B0.out.keep hs B0.out.lt); clear q0 q1 q2; obtain ⟨⟨q0, q1, q2⟩, -, -, -⟩ := dd_all B0.out; clear hs))
  all_goals go_ret
  all_goals exact ⟨rfl, H.out⟩
set_option maxRecDepth 100000 in
set_option maxHeartbeats 4000000 in
theorem lost_long (I : DriveI) (hAw : ∀ w : World, Calls Try.prog 9 #[] w fun e w' => e = .returned (.bool true) ∧ Stp w w') (ts : List Tp) (i p : Int) (n : Nat) (hs : SmallD ⟨ts, i, p⟩) (hn : ts.length = n) (A : Option Addr) (k : Nat) (w : World) (ha : RdS w A k ts) (r : L) (l : Nat) (hl : r.length = l) (hl9 : l < 9223372036854775808) (C : Option Addr) (f : Nat) (hr : RdA w C f (bs r)) (q : Int) (hq0 : -9223372036854775808 ≤ q) (hq1 : q < 9223372036854775808) (hx1 : fewDB ts = true) (h : 12000 < l) :
    Calls Try.prog 6 #[dc A n k i p, .slice C l f, .int .i64 q] w fun e w' => e = .returned (.bool true) ∧ Stp w w' := by
  have HI := Lib.hid I
  have HAw := Lib.hid hAw
  have HS := Lib.hid hs
  have Ha := Lib.hid ha
  have Hn := Lib.hid hn
  have h0 := Stp.alloc (Stp.refl w) (.cells (dcs A n k i p) 24)
  have H := Lib.hid h0
  have B0 := Lib.hid (Blk.new w 24 (dcs A n k i p))
  obtain ⟨⟨q0, q1, q2⟩, -, -, -⟩ := dd_all B0.out
  have HX1 := Lib.hid hx1
  have Hl := Lib.hid hl
  have Hr := Lib.hid hr
  have g1 : decide ((12000 : Int) < (l : Int)) = true := decide_eq_true (by omega)
  clear hs ha h0 hAw I hx1 hl hr h
  go_enter Try.func6, Try.ntmps6
  go_wp2_with (first
    | (go_at_call 9; refine (HAw.out _).mono ?_; rintro e wn ⟨rfl, hs⟩; replace H := Lib.hid (Stp.trans H.out hs); replace B0 := Lib.hid (B0.out.keep hs B0.out.lt); clear q0 q1 q2; obtain ⟨⟨q0, q1, q2⟩, -, -, -⟩ := dd_all B0.out; clear hs)
    | (go_at_call 10; (with_reducible refine (few_s ts i p n HS.out Hn.out _ HX1.out A k _ (Ha.out.keep H.out)).mono ?_); rintro e wn ⟨rfl, hs⟩; replace H := Lib.hid (Stp.trans H.out hs); replace B0 := Lib.hid (B0.out.keep hs B0.out.lt); clear q0 q1 q2; obtain ⟨⟨q0, q1, q2⟩, -, -, -⟩ := dd_all B0.out; clear hs))
  all_goals go_ret
  all_goals exact ⟨rfl, H.out⟩
set_option maxRecDepth 100000 in
set_option maxHeartbeats 4000000 in
theorem lost_may (I : DriveI) (hAw : ∀ w : World, Calls Try.prog 9 #[] w fun e w' => e = .returned (.bool true) ∧ Stp w w') (ts : List Tp) (i p : Int) (n : Nat) (hs : SmallD ⟨ts, i, p⟩) (hn : ts.length = n) (A : Option Addr) (k : Nat) (w : World) (ha : RdS w A k ts) (r : L) (l : Nat) (hl : r.length = l) (hl9 : l < 9223372036854775808) (C : Option Addr) (f : Nat) (hr : RdA w C f (bs r)) (q : Int) (hq0 : -9223372036854775808 ≤ q) (hq1 : q < 9223372036854775808) (hx1 : fewDB ts = true) (h : l ≤ 12000) (hM : mayD ⟨ts, i, p⟩ = false) :
    Calls Try.prog 6 #[dc A n k i p, .slice C l f, .int .i64 q] w fun e w' => e = .returned (.bool true) ∧ Stp w w' := by
  have HI := Lib.hid I
  have HAw := Lib.hid hAw
  have HS := Lib.hid hs
  have Ha := Lib.hid ha
  have Hn := Lib.hid hn
  have h0 := Stp.alloc (Stp.refl w) (.cells (dcs A n k i p) 24)
  have H := Lib.hid h0
  have B0 := Lib.hid (Blk.new w 24 (dcs A n k i p))
  obtain ⟨⟨q0, q1, q2⟩, -, -, -⟩ := dd_all B0.out
  have HX1 := Lib.hid hx1
  have Hl := Lib.hid hl
  have Hr := Lib.hid hr
  have HM := Lib.hid hM
  have HD := Lib.hid (fewD_of hs hx1)
  have g1 : decide ((12000 : Int) < (l : Int)) = false := decide_eq_false (by omega)
  clear hs ha h0 hAw I hx1 hl hr hM
  go_enter Try.func6, Try.ntmps6
  go_wp2_with (first
    | (go_at_call 9; refine (HAw.out _).mono ?_; rintro e wn ⟨rfl, hs⟩; replace H := Lib.hid (Stp.trans H.out hs); replace B0 := Lib.hid (B0.out.keep hs B0.out.lt); clear q0 q1 q2; obtain ⟨⟨q0, q1, q2⟩, -, -, -⟩ := dd_all B0.out; clear hs)
    | (go_at_call 10; (with_reducible refine (few_s ts i p n HS.out Hn.out _ HX1.out A k _ (Ha.out.keep H.out)).mono ?_); rintro e wn ⟨rfl, hs⟩; replace H := Lib.hid (Stp.trans H.out hs); replace B0 := Lib.hid (B0.out.keep hs B0.out.lt); clear q0 q1 q2; obtain ⟨⟨q0, q1, q2⟩, -, -, -⟩ := dd_all B0.out; clear hs)
    | (go_at_call 27; (with_reducible refine (HI.out.may ts i p n HD.out Hn.out _ HM.out A k _ (Ha.out.keep H.out)).mono ?_); rintro e wn ⟨rfl, hs⟩; replace H := Lib.hid (Stp.trans H.out hs); replace B0 := Lib.hid (B0.out.keep hs B0.out.lt); clear q0 q1 q2; obtain ⟨⟨q0, q1, q2⟩, -, -, -⟩ := dd_all B0.out; clear hs))
  all_goals go_ret
  all_goals exact ⟨rfl, H.out⟩
set_option maxRecDepth 100000 in
set_option maxHeartbeats 4000000 in
theorem lost_in (I : DriveI) (hAw : ∀ w : World, Calls Try.prog 9 #[] w fun e w' => e = .returned (.bool true) ∧ Stp w w') (ts : List Tp) (i p : Int) (n : Nat) (hs : SmallD ⟨ts, i, p⟩) (hn : ts.length = n) (A : Option Addr) (k : Nat) (w : World) (ha : RdS w A k ts) (r : L) (l : Nat) (hl : r.length = l) (hl9 : l < 9223372036854775808) (C : Option Addr) (f : Nat) (hr : RdA w C f (bs r)) (q : Int) (hq0 : -9223372036854775808 ≤ q) (hq1 : q < 9223372036854775808) (hx1 : fewDB ts = true) (h : l ≤ 12000) (hM : mayD ⟨ts, i, p⟩ = true) (hi : i < 0) :
    Calls Try.prog 6 #[dc A n k i p, .slice C l f, .int .i64 q] w fun e w' => e = .returned (.bool true) ∧ Stp w w' := by
  have HI := Lib.hid I
  have HAw := Lib.hid hAw
  have HS := Lib.hid hs
  have Ha := Lib.hid ha
  have Hn := Lib.hid hn
  have h0 := Stp.alloc (Stp.refl w) (.cells (dcs A n k i p) 24)
  have H := Lib.hid h0
  have B0 := Lib.hid (Blk.new w 24 (dcs A n k i p))
  obtain ⟨⟨q0, q1, q2⟩, -, -, -⟩ := dd_all B0.out
  have HX1 := Lib.hid hx1
  have Hl := Lib.hid hl
  have Hr := Lib.hid hr
  have HM := Lib.hid hM
  have HD := Lib.hid (fewD_of hs hx1)
  have g1 : decide ((12000 : Int) < (l : Int)) = false := decide_eq_false (by omega)
  have g2 : decide (i < 0) = true := decide_eq_true hi
  clear hs ha h0 hAw I hx1 hl hr hM hi
  go_enter Try.func6, Try.ntmps6
  go_wp2_with (first
    | (go_at_call 9; refine (HAw.out _).mono ?_; rintro e wn ⟨rfl, hs⟩; replace H := Lib.hid (Stp.trans H.out hs); replace B0 := Lib.hid (B0.out.keep hs B0.out.lt); clear q0 q1 q2; obtain ⟨⟨q0, q1, q2⟩, -, -, -⟩ := dd_all B0.out; clear hs)
    | (go_at_call 10; (with_reducible refine (few_s ts i p n HS.out Hn.out _ HX1.out A k _ (Ha.out.keep H.out)).mono ?_); rintro e wn ⟨rfl, hs⟩; replace H := Lib.hid (Stp.trans H.out hs); replace B0 := Lib.hid (B0.out.keep hs B0.out.lt); clear q0 q1 q2; obtain ⟨⟨q0, q1, q2⟩, -, -, -⟩ := dd_all B0.out; clear hs)
    | (go_at_call 27; (with_reducible refine (HI.out.may ts i p n HD.out Hn.out _ HM.out A k _ (Ha.out.keep H.out)).mono ?_); rintro e wn ⟨rfl, hs⟩; replace H := Lib.hid (Stp.trans H.out hs); replace B0 := Lib.hid (B0.out.keep hs B0.out.lt); clear q0 q1 q2; obtain ⟨⟨q0, q1, q2⟩, -, -, -⟩ := dd_all B0.out; clear hs))
  all_goals go_ret
  all_goals exact ⟨rfl, H.out⟩
set_option maxRecDepth 100000 in
set_option maxHeartbeats 8000000 in
theorem lost_err (I : DriveI) (hAw : ∀ w : World, Calls Try.prog 9 #[] w fun e w' => e = .returned (.bool true) ∧ Stp w w') (ts : List Tp) (i p : Int) (n : Nat) (hs : SmallD ⟨ts, i, p⟩) (hn : ts.length = n) (A : Option Addr) (k : Nat) (w : World) (ha : RdS w A k ts) (r : L) (l : Nat) (hl : r.length = l) (hl9 : l < 9223372036854775808) (C : Option Addr) (f : Nat) (hr : RdA w C f (bs r)) (q : Int) (hq0 : -9223372036854775808 ≤ q) (hq1 : q < 9223372036854775808) (j pp y y1 : Nat) (hij : i = (j : Int)) (hpp : p = (pp : Int)) (t : Tp) (ht : ts[j]? = some t) (hy : t.rows.length = y) (hp0 : pp ≤ y) (hy1 : pp + 1 = y1) (hx1 : fewDB ts = true) (h : l ≤ 12000) (hM : mayD ⟨ts, i, p⟩ = true) (he : (writeD ⟨ts, i, p⟩ r).2 ≠ 0) :
    Calls Try.prog 6 #[dc A n k i p, .slice C l f, .int .i64 q] w fun e w' => e = .returned (.bool true) ∧ Stp w w' := by
  have HI := Lib.hid I
  have HAw := Lib.hid hAw
  have HS := Lib.hid hs
  have Ha := Lib.hid ha
  have Hn := Lib.hid hn
  have h0 := Stp.alloc (Stp.refl w) (.cells (dcs A n k i p) 24)
  have H := Lib.hid h0
  have B0 := Lib.hid (Blk.new w 24 (dcs A n k i p))
  obtain ⟨⟨q0, q1, q2⟩, -, -, -⟩ := dd_all B0.out
  have HX1 := Lib.hid hx1
  have Hl := Lib.hid hl
  have Hr := Lib.hid hr
  have HM := Lib.hid hM
  have HD := Lib.hid (fewD_of hs hx1)
  have g1 : decide ((12000 : Int) < (l : Int)) = false := decide_eq_false (by omega)
  have hjl := (List.getElem?_eq_some_iff.1 ht).1
  have hjn : j < n := by rw [← hn]; exact hjl
  have hji : i.toNat = j := by omega
  have hi0 : 0 ≤ i := by omega
  have hin : i < (n : Int) := by omega
  have g2 : decide (i < 0) = false := decide_eq_false (by omega)
  have Hl2 : Hid (l ≤ 100000) := Lib.hid (by omega)
  have hmt := (mayD_iff.1 hM).2.2.2.2.1 t (List.mem_of_getElem? ht)
  obtain ⟨c1, c2, c3, -⟩ := mayT_iff.1 hmt
  rw [hy] at c3
  have hmk := markD_ok (t := t) hM hij hpp ht (by omega)
  obtain ⟨ms, hms⟩ : ∃ x, ts.set j ⟨t.cap, t.rows.take pp, true⟩ = x := ⟨_, rfl⟩
  rw [hms, ← hij, ← hpp] at hmk
  have HV2 := Lib.hid hmk.1
  have HMm := Lib.hid hmk.2
  have HMf := Lib.hid (few_may hmk.2)
  have HMn : Hid (ms.length = n) := Lib.hid (by rw [← hms, List.length_set]; exact hn)
  have HMj : Hid (ms[j]? = some ⟨t.cap, t.rows.take pp, true⟩) := Lib.hid (by rw [← hms, List.getElem?_set_self hjl])
  have HMl : Hid ((t.rows.take pp).length = pp) := Lib.hid (by rw [List.length_take]; omega)
  have g3 : ((n : Int) != (n : Int)) = false := by simp
  have g4 : ((pp : Int) != p) = false := by rw [bne_eq_false_iff_eq]; omega
  have g5 : (p != p) = false := by simp
  have g6 : ((n : Int) == (n : Int)) = true := by simp
  have g8 : ((y1 : Int) == p + 1) = true := by rw [beq_iff_eq]; omega
  have Hw := Lib.hid (show wrap64 (p + 1) = p + 1 by unfold wrap64; omega)
  have hw1 : IntKind.i64.wrap (p + 1) = p + 1 := by rw [IntKind.wrap_i64]; omega
  have Hij := Lib.hid hij
  have Hpp := Lib.hid hpp
  have Ht := Lib.hid ht
  have Hy := Lib.hid hy
  obtain ⟨e0, h0e⟩ : ∃ x, (writeD ⟨ts, i, p⟩ r).2 = x := ⟨_, rfl⟩
  have HV1 : Hid (writeD ⟨ts, i, p⟩ r = (⟨ts, i, p⟩, e0)) := Lib.hid (Prod.ext (writeD_err he) h0e)
  have HU := Lib.hid hn
  obtain ⟨y0, hy0⟩ : ∃ y : Int, (e0 : Int) = y := ⟨_, rfl⟩
  have g9 : (y0 != 0) = true := by rw [bne_iff_ne]; omega
  have HY := Lib.hid hy0
  clear hs ha h0 hAw I hx1 hl hr hM ht hy hij hpp hmk hms hmt hjl he h0e hy0
  go_enter Try.func6, Try.ntmps6
  go_upto_region 7 with (first
    | (go_at_call 9; refine (HAw.out _).mono ?_; rintro e wn ⟨rfl, hs⟩; replace H := Lib.hid (Stp.trans H.out hs); replace B0 := Lib.hid (B0.out.keep hs B0.out.lt); clear q0 q1 q2; obtain ⟨⟨q0, q1, q2⟩, -, -, -⟩ := dd_all B0.out; clear hs)
    | (go_at_call 10; (with_reducible refine (few_s ts i p n HS.out Hn.out _ HX1.out A k _ (Ha.out.keep H.out)).mono ?_); rintro e wn ⟨rfl, hs⟩; replace H := Lib.hid (Stp.trans H.out hs); replace B0 := Lib.hid (B0.out.keep hs B0.out.lt); clear q0 q1 q2; obtain ⟨⟨q0, q1, q2⟩, -, -, -⟩ := dd_all B0.out; clear hs)
    | (go_at_call 27; (with_reducible refine (HI.out.may ts i p n HD.out Hn.out _ HM.out A k _ (Ha.out.keep H.out)).mono ?_); rintro e wn ⟨rfl, hs⟩; replace H := Lib.hid (Stp.trans H.out hs); replace B0 := Lib.hid (B0.out.keep hs B0.out.lt); clear q0 q1 q2; obtain ⟨⟨q0, q1, q2⟩, -, -, -⟩ := dd_all B0.out; clear hs)
    | (go_at_call 17; (with_reducible refine (HI.out.write ts i p n HD.out Hn.out r l Hl.out Hl2.out ts i p n e0 HV1.out HU.out y0 HY.out A k C f _ (Ha.out.keep H.out) (Hr.out.keep H.out)).mono ?_); rintro e w9 ⟨Aw9, kw9, rfl, hr, hs, -⟩; have hsA := Stp.alloc hs (.cells (dcs Aw9 n kw9 i p) 24); replace H := Lib.hid (Stp.trans H.out hsA); replace B0 := Lib.hid (B0.out.keep hsA B0.out.lt); have D9 := Lib.hid (Blk.new w9 24 (dcs Aw9 n kw9 i p)); have RD9 := Lib.hid (hr.keep (Stp.alloc (Stp.refl w9) (.cells (dcs Aw9 n kw9 i p) 24))); clear q0 q1 q2; obtain ⟨⟨q0, q1, q2⟩, -, -, -⟩ := dd_all B0.out; obtain ⟨⟨aa0, aa1, aa2⟩, -, -, -⟩ := dd_all D9.out; clear hr hs hsA)
    | (go_at_call 19; (with_reducible refine (HI.out.mark ts i p n HD.out Hn.out ms i p n 0 HV2.out HMn.out 0 rfl A k _ (Ha.out.keep H.out)).mono ?_); rintro e w11 ⟨Aw11, kw11, rfl, hr, hs, -⟩; have hsA := Stp.alloc hs (.cells (dcs Aw11 n kw11 i p) 24); replace H := Lib.hid (Stp.trans H.out hsA); replace B0 := Lib.hid (B0.out.keep hsA B0.out.lt); replace D9 := Lib.hid (D9.out.keep hsA D9.out.lt); replace RD9 := Lib.hid (RD9.out.keep hsA); have D11 := Lib.hid (Blk.new w11 24 (dcs Aw11 n kw11 i p)); have RD11 := Lib.hid (hr.keep (Stp.alloc (Stp.refl w11) (.cells (dcs Aw11 n kw11 i p) 24))); clear q0 q1 q2; obtain ⟨⟨q0, q1, q2⟩, -, -, -⟩ := dd_all B0.out; clear aa0 aa1 aa2; obtain ⟨⟨aa0, aa1, aa2⟩, -, -, -⟩ := dd_all D9.out; obtain ⟨⟨ab0, ab1, ab2⟩, -, -, -⟩ := dd_all D11.out; clear hr hs hsA))
  obtain ⟨P9, hP9⟩ : ∃ x, w9.heap.size = x := ⟨_, rfl⟩
  obtain ⟨PB, hPB⟩ : ∃ x, w11.heap.size = x := ⟨_, rfl⟩
  obtain ⟨W, hW⟩ : ∃ z, w11.alloc (.cells (dcs Aw11 n kw11 i p) 24) = z := ⟨_, rfl⟩
  rw [hW] at H B0 D9 D11 RD9 RD11 q0 q1 q2 aa0 aa1 aa2 ab0 ab1 ab2 ⊢
  rw [hP9] at D9 aa0 aa1 aa2 ⊢
  rw [hPB] at D11 ab0 ab1 ab2 ⊢
  clear hW hP9 hPB
  obtain ⟨bM, oM, AM, kM, eM, tm⟩ := tp_at RD11.out HMj.out HMl.out
  cases eM
  dsimp only at tm
  have TM := Lib.hid tm
  have v0 := cell_regrown q0
  have v1 := cell_regrown q1
  have v2 := cell_regrown q2
  have v3 := cell_regrown ab0
  have v4 := cell_regrown ab1
  have v5 := cell_regrown ab2
  have v6 := cell_regrown tm.c0
  have v7 := cell_regrown tm.c1
  have v8 := cell_regrown tm.c2
  have cM : ∀ d os, Calls Try.prog 27 #[dc (some ⟨bM, oM, none⟩) n kw11 i p] (grow (redrawn W d) os) fun e w'' => e = .returned (.bool true) ∧ ∃ p : Regrown, w'' = grow (redrawn W p.d) p.os := fun d os => Calls.regrown_of (HI.out.may ms i p n HMf.out HMn.out true HMm.out _ _ _ (RD11.out.keep (below_regrown W d os)))
  clear tm q0 q1 q2 aa0 aa1 aa2 ab0 ab1 ab2
  refine wp_region_quiet_below (by kernel_rfl) (by kernel_rfl) ?_
  repeat (go_big_quiet_step (first | exact cM _ _))
  refine wpQuiet_nil ?_
  intro _ hw'
  obtain ⟨⟨dq, osq⟩, hw''⟩ := hw'
  subst hw''
  have X := Lib.hid (show Stp W (grow (redrawn W dq) osq) from below_regrown W dq osq)
  clear v0 v1 v2 v3 v4 v5 v6 v7 v8 cM
  generalize grow (redrawn W dq) osq = Y at X ⊢
  replace H := Lib.hid (Stp.trans H.out X.out)
  replace B0 := Lib.hid (B0.out.keep X.out B0.out.lt)
  replace D9 := Lib.hid (D9.out.keep X.out D9.out.lt)
  replace D11 := Lib.hid (D11.out.keep X.out D11.out.lt)
  replace RD9 := Lib.hid (RD9.out.keep X.out)
  replace RD11 := Lib.hid (RD11.out.keep X.out)
  replace TM := Lib.hid (TM.out.keep X.out)
  obtain ⟨⟨q0, q1, q2⟩, -, -, -⟩ := dd_all B0.out
  obtain ⟨⟨aa0, aa1, aa2⟩, -, -, -⟩ := dd_all D9.out
  go_upto_region 10 with fail
  go_quiet (fail)
  go_wp2
  go_ret
  exact ⟨rfl, Stp.drewN H.out nq⟩
set_option maxRecDepth 100000 in
set_option maxHeartbeats 8000000 in
theorem lost_out (I : DriveI) (hAw : ∀ w : World, Calls Try.prog 9 #[] w fun e w' => e = .returned (.bool true) ∧ Stp w w') (ts : List Tp) (i p : Int) (n : Nat) (hs : SmallD ⟨ts, i, p⟩) (hn : ts.length = n) (A : Option Addr) (k : Nat) (w : World) (ha : RdS w A k ts) (r : L) (l : Nat) (hl : r.length = l) (hl9 : l < 9223372036854775808) (C : Option Addr) (f : Nat) (hr : RdA w C f (bs r)) (q : Int) (hq0 : -9223372036854775808 ≤ q) (hq1 : q < 9223372036854775808) (j pp y y1 : Nat) (hij : i = (j : Int)) (hpp : p = (pp : Int)) (t : Tp) (ht : ts[j]? = some t) (hy : t.rows.length = y) (hp0 : pp ≤ y) (hy1 : pp + 1 = y1) (hx1 : fewDB ts = true) (h : l ≤ 12000) (hM : mayD ⟨ts, i, p⟩ = true) (us : List Tp) (hus : ts.set j ⟨t.cap, t.rows.take pp ++ [r], false⟩ = us) (hv : writeD ⟨ts, i, p⟩ r = (⟨us, i, p + 1⟩, 0)) (hmx : mayD ⟨us, i, p + 1⟩ = true) (hq : q < 0 ∨ p ≤ q) :
    Calls Try.prog 6 #[dc A n k i p, .slice C l f, .int .i64 q] w fun e w' => e = .returned (.bool true) ∧ Stp w w' := by
  have HI := Lib.hid I
  have HAw := Lib.hid hAw
  have HS := Lib.hid hs
  have Ha := Lib.hid ha
  have Hn := Lib.hid hn
  have h0 := Stp.alloc (Stp.refl w) (.cells (dcs A n k i p) 24)
  have H := Lib.hid h0
  have B0 := Lib.hid (Blk.new w 24 (dcs A n k i p))
  obtain ⟨⟨q0, q1, q2⟩, -, -, -⟩ := dd_all B0.out
  have HX1 := Lib.hid hx1
  have Hl := Lib.hid hl
  have Hr := Lib.hid hr
  have HM := Lib.hid hM
  have HD := Lib.hid (fewD_of hs hx1)
  have g1 : decide ((12000 : Int) < (l : Int)) = false := decide_eq_false (by omega)
  have hjl := (List.getElem?_eq_some_iff.1 ht).1
  have hjn : j < n := by rw [← hn]; exact hjl
  have hji : i.toNat = j := by omega
  have hi0 : 0 ≤ i := by omega
  have hin : i < (n : Int) := by omega
  have g2 : decide (i < 0) = false := decide_eq_false (by omega)
  have Hl2 : Hid (l ≤ 100000) := Lib.hid (by omega)
  have hmt := (mayD_iff.1 hM).2.2.2.2.1 t (List.mem_of_getElem? ht)
  obtain ⟨c1, c2, c3, -⟩ := mayT_iff.1 hmt
  rw [hy] at c3
  have hmk := markD_ok (t := t) hM hij hpp ht (by omega)
  obtain ⟨ms, hms⟩ : ∃ x, ts.set j ⟨t.cap, t.rows.take pp, true⟩ = x := ⟨_, rfl⟩
  rw [hms, ← hij, ← hpp] at hmk
  have HV2 := Lib.hid hmk.1
  have HMm := Lib.hid hmk.2
  have HMf := Lib.hid (few_may hmk.2)
  have HMn : Hid (ms.length = n) := Lib.hid (by rw [← hms, List.length_set]; exact hn)
  have HMj : Hid (ms[j]? = some ⟨t.cap, t.rows.take pp, true⟩) := Lib.hid (by rw [← hms, List.getElem?_set_self hjl])
  have HMl : Hid ((t.rows.take pp).length = pp) := Lib.hid (by rw [List.length_take]; omega)
  have g3 : ((n : Int) != (n : Int)) = false := by simp
  have g4 : ((pp : Int) != p) = false := by rw [bne_eq_false_iff_eq]; omega
  have g5 : (p != p) = false := by simp
  have g6 : ((n : Int) == (n : Int)) = true := by simp
  have g8 : ((y1 : Int) == p + 1) = true := by rw [beq_iff_eq]; omega
  have Hw := Lib.hid (show wrap64 (p + 1) = p + 1 by unfold wrap64; omega)
  have hw1 : IntKind.i64.wrap (p + 1) = p + 1 := by rw [IntKind.wrap_i64]; omega
  have Hij := Lib.hid hij
  have Hpp := Lib.hid hpp
  have Ht := Lib.hid ht
  have Hy := Lib.hid hy
  obtain ⟨e0, he0⟩ : ∃ x : Nat, 0 = x := ⟨_, rfl⟩
  obtain ⟨y0, hy0⟩ : ∃ y : Int, 0 = y := ⟨_, rfl⟩
  have HV1 : Hid (writeD ⟨ts, i, p⟩ r = (⟨us, i, p + 1⟩, e0)) := Lib.hid (by rw [← he0]; exact hv)
  have HY : Hid ((e0 : Int) = y0) := Lib.hid (by omega)
  have g9 : (y0 != 0) = false := by rw [bne_eq_false_iff_eq]; omega
  have HU : Hid (us.length = n) := Lib.hid (by rw [← hus, List.length_set]; exact hn)
  have HUj : Hid (us[j]? = some ⟨t.cap, t.rows.take pp ++ [r], false⟩) := Lib.hid (by rw [← hus, List.getElem?_set_self hjl])
  have HUl : Hid ((t.rows.take pp ++ [r]).length = y1) := Lib.hid (by rw [List.length_append, HMl.out, ← hy1]; rfl)
  have HUf := Lib.hid (few_may hmx)
  obtain ⟨b1, b2, k1, k2, k3⟩ : ∃ b1 b2, decide (q < 0) = b1 ∧ decide (p ≤ q) = b2 ∧ (b1 = true ∨ b2 = true) := ⟨_, _, rfl, rfl, by rw [decide_eq_true_eq, decide_eq_true_eq]; exact hq⟩
  clear hs ha h0 hAw I hx1 hl hr hM ht hy hij hpp hmk hms hmt hjl hus hv hmx he0 hy0 hq
  go_enter Try.func6, Try.ntmps6
  go_upto_region 7 with (first
    | (go_at_call 9; refine (HAw.out _).mono ?_; rintro e wn ⟨rfl, hs⟩; replace H := Lib.hid (Stp.trans H.out hs); replace B0 := Lib.hid (B0.out.keep hs B0.out.lt); clear q0 q1 q2; obtain ⟨⟨q0, q1, q2⟩, -, -, -⟩ := dd_all B0.out; clear hs)
    | (go_at_call 10; (with_reducible refine (few_s ts i p n HS.out Hn.out _ HX1.out A k _ (Ha.out.keep H.out)).mono ?_); rintro e wn ⟨rfl, hs⟩; replace H := Lib.hid (Stp.trans H.out hs); replace B0 := Lib.hid (B0.out.keep hs B0.out.lt); clear q0 q1 q2; obtain ⟨⟨q0, q1, q2⟩, -, -, -⟩ := dd_all B0.out; clear hs)
    | (go_at_call 27; (with_reducible refine (HI.out.may ts i p n HD.out Hn.out _ HM.out A k _ (Ha.out.keep H.out)).mono ?_); rintro e wn ⟨rfl, hs⟩; replace H := Lib.hid (Stp.trans H.out hs); replace B0 := Lib.hid (B0.out.keep hs B0.out.lt); clear q0 q1 q2; obtain ⟨⟨q0, q1, q2⟩, -, -, -⟩ := dd_all B0.out; clear hs)
    | (go_at_call 17; (with_reducible refine (HI.out.write ts i p n HD.out Hn.out r l Hl.out Hl2.out us i (p + 1) n e0 HV1.out HU.out y0 HY.out A k C f _ (Ha.out.keep H.out) (Hr.out.keep H.out)).mono ?_); rintro e w9 ⟨Aw9, kw9, rfl, hr, hs, -⟩; have hsA := Stp.alloc hs (.cells (dcs Aw9 n kw9 i (p + 1)) 24); replace H := Lib.hid (Stp.trans H.out hsA); replace B0 := Lib.hid (B0.out.keep hsA B0.out.lt); have D9 := Lib.hid (Blk.new w9 24 (dcs Aw9 n kw9 i (p + 1))); have RD9 := Lib.hid (hr.keep (Stp.alloc (Stp.refl w9) (.cells (dcs Aw9 n kw9 i (p + 1)) 24))); clear q0 q1 q2; obtain ⟨⟨q0, q1, q2⟩, -, -, -⟩ := dd_all B0.out; obtain ⟨⟨aa0, aa1, aa2⟩, -, -, -⟩ := dd_all D9.out; clear hr hs hsA)
    | (go_at_call 19; (with_reducible refine (HI.out.mark ts i p n HD.out Hn.out ms i p n 0 HV2.out HMn.out 0 rfl A k _ (Ha.out.keep H.out)).mono ?_); rintro e w11 ⟨Aw11, kw11, rfl, hr, hs, -⟩; have hsA := Stp.alloc hs (.cells (dcs Aw11 n kw11 i p) 24); replace H := Lib.hid (Stp.trans H.out hsA); replace B0 := Lib.hid (B0.out.keep hsA B0.out.lt); replace D9 := Lib.hid (D9.out.keep hsA D9.out.lt); replace RD9 := Lib.hid (RD9.out.keep hsA); have D11 := Lib.hid (Blk.new w11 24 (dcs Aw11 n kw11 i p)); have RD11 := Lib.hid (hr.keep (Stp.alloc (Stp.refl w11) (.cells (dcs Aw11 n kw11 i p) 24))); clear q0 q1 q2; obtain ⟨⟨q0, q1, q2⟩, -, -, -⟩ := dd_all B0.out; clear aa0 aa1 aa2; obtain ⟨⟨aa0, aa1, aa2⟩, -, -, -⟩ := dd_all D9.out; obtain ⟨⟨ab0, ab1, ab2⟩, -, -, -⟩ := dd_all D11.out; clear hr hs hsA))
  obtain ⟨P9, hP9⟩ : ∃ x, w9.heap.size = x := ⟨_, rfl⟩
  obtain ⟨PB, hPB⟩ : ∃ x, w11.heap.size = x := ⟨_, rfl⟩
  obtain ⟨W, hW⟩ : ∃ z, w11.alloc (.cells (dcs Aw11 n kw11 i p) 24) = z := ⟨_, rfl⟩
  rw [hW] at H B0 D9 D11 RD9 RD11 q0 q1 q2 aa0 aa1 aa2 ab0 ab1 ab2 ⊢
  rw [hP9] at D9 aa0 aa1 aa2 ⊢
  rw [hPB] at D11 ab0 ab1 ab2 ⊢
  clear hW hP9 hPB
  obtain ⟨bM, oM, AM, kM, eM, tm⟩ := tp_at RD11.out HMj.out HMl.out
  cases eM
  dsimp only at tm
  have TM := Lib.hid tm
  have v0 := cell_regrown q0
  have v1 := cell_regrown q1
  have v2 := cell_regrown q2
  have v3 := cell_regrown ab0
  have v4 := cell_regrown ab1
  have v5 := cell_regrown ab2
  have v6 := cell_regrown tm.c0
  have v7 := cell_regrown tm.c1
  have v8 := cell_regrown tm.c2
  have cM : ∀ d os, Calls Try.prog 27 #[dc (some ⟨bM, oM, none⟩) n kw11 i p] (grow (redrawn W d) os) fun e w'' => e = .returned (.bool true) ∧ ∃ p : Regrown, w'' = grow (redrawn W p.d) p.os := fun d os => Calls.regrown_of (HI.out.may ms i p n HMf.out HMn.out true HMm.out _ _ _ (RD11.out.keep (below_regrown W d os)))
  clear tm q0 q1 q2 aa0 aa1 aa2 ab0 ab1 ab2
  refine wp_region_quiet_below (by kernel_rfl) (by kernel_rfl) ?_
  repeat (go_big_quiet_step (first | exact cM _ _))
  refine wpQuiet_nil ?_
  intro _ hw'
  obtain ⟨⟨dq, osq⟩, hw''⟩ := hw'
  subst hw''
  have X := Lib.hid (show Stp W (grow (redrawn W dq) osq) from below_regrown W dq osq)
  clear v0 v1 v2 v3 v4 v5 v6 v7 v8 cM
  generalize grow (redrawn W dq) osq = Y at X ⊢
  replace H := Lib.hid (Stp.trans H.out X.out)
  replace B0 := Lib.hid (B0.out.keep X.out B0.out.lt)
  replace D9 := Lib.hid (D9.out.keep X.out D9.out.lt)
  replace D11 := Lib.hid (D11.out.keep X.out D11.out.lt)
  replace RD9 := Lib.hid (RD9.out.keep X.out)
  replace RD11 := Lib.hid (RD11.out.keep X.out)
  replace TM := Lib.hid (TM.out.keep X.out)
  obtain ⟨⟨q0, q1, q2⟩, -, -, -⟩ := dd_all B0.out
  obtain ⟨⟨aa0, aa1, aa2⟩, -, -, -⟩ := dd_all D9.out
  obtain ⟨bU, oU, AU, kU, eU, tu⟩ := tp_at RD9.out HUj.out HUl.out
  cases eU
  dsimp only at tu
  have TU := Lib.hid tu
  have x0 := tu.c0
  have x1 := tu.c1
  have x2 := tu.c2
  clear tu
  cases b1 <;> cases b2 <;> simp at k3
  all_goals
    go_upto_region 10 with fail
    go_quiet (fail)
    go_wp2
    go_ret
    exact ⟨rfl, Stp.drewN H.out nq⟩
set_option maxRecDepth 100000 in
set_option maxHeartbeats 8000000 in
theorem lost_all (I : DriveI) (hAw : ∀ w : World, Calls Try.prog 9 #[] w fun e w' => e = .returned (.bool true) ∧ Stp w w') (ts : List Tp) (i p : Int) (n : Nat) (hs : SmallD ⟨ts, i, p⟩) (hn : ts.length = n) (A : Option Addr) (k : Nat) (w : World) (ha : RdS w A k ts) (r : L) (l : Nat) (hl : r.length = l) (hl9 : l < 9223372036854775808) (C : Option Addr) (f : Nat) (hr : RdA w C f (bs r)) (q : Int) (hq0 : -9223372036854775808 ≤ q) (hq1 : q < 9223372036854775808) (j pp y y1 : Nat) (hij : i = (j : Int)) (hpp : p = (pp : Int)) (t : Tp) (ht : ts[j]? = some t) (hy : t.rows.length = y) (hp0 : pp ≤ y) (hy1 : pp + 1 = y1) (hx1 : fewDB ts = true) (h : l ≤ 12000) (hM : mayD ⟨ts, i, p⟩ = true) (us : List Tp) (hus : ts.set j ⟨t.cap, t.rows.take pp ++ [r], false⟩ = us) (hv : writeD ⟨ts, i, p⟩ r = (⟨us, i, p + 1⟩, 0)) (hmx : mayD ⟨us, i, p + 1⟩ = true) (u : Nat) (hqu : q = (u : Int)) (hup : u < pp) (x : L) (hx : t.rows[u]? = some x) :
    Calls Try.prog 6 #[dc A n k i p, .slice C l f, .int .i64 q] w fun e w' => e = .returned (.bool true) ∧ Stp w w' := by
  have HI := Lib.hid I
  have HAw := Lib.hid hAw
  have HS := Lib.hid hs
  have Ha := Lib.hid ha
  have Hn := Lib.hid hn
  have h0 := Stp.alloc (Stp.refl w) (.cells (dcs A n k i p) 24)
  have H := Lib.hid h0
  have B0 := Lib.hid (Blk.new w 24 (dcs A n k i p))
  obtain ⟨⟨q0, q1, q2⟩, -, -, -⟩ := dd_all B0.out
  have HX1 := Lib.hid hx1
  have Hl := Lib.hid hl
  have Hr := Lib.hid hr
  have HM := Lib.hid hM
  have HD := Lib.hid (fewD_of hs hx1)
  have g1 : decide ((12000 : Int) < (l : Int)) = false := decide_eq_false (by omega)
  have hjl := (List.getElem?_eq_some_iff.1 ht).1
  have hjn : j < n := by rw [← hn]; exact hjl
  have hji : i.toNat = j := by omega
  have hi0 : 0 ≤ i := by omega
  have hin : i < (n : Int) := by omega
  have g2 : decide (i < 0) = false := decide_eq_false (by omega)
  have Hl2 : Hid (l ≤ 100000) := Lib.hid (by omega)
  have hmt := (mayD_iff.1 hM).2.2.2.2.1 t (List.mem_of_getElem? ht)
  obtain ⟨c1, c2, c3, -⟩ := mayT_iff.1 hmt
  rw [hy] at c3
  have hmk := markD_ok (t := t) hM hij hpp ht (by omega)
  obtain ⟨ms, hms⟩ : ∃ x, ts.set j ⟨t.cap, t.rows.take pp, true⟩ = x := ⟨_, rfl⟩
  rw [hms, ← hij, ← hpp] at hmk
  have HV2 := Lib.hid hmk.1
  have HMm := Lib.hid hmk.2
  have HMf := Lib.hid (few_may hmk.2)
  have HMn : Hid (ms.length = n) := Lib.hid (by rw [← hms, List.length_set]; exact hn)
  have HMj : Hid (ms[j]? = some ⟨t.cap, t.rows.take pp, true⟩) := Lib.hid (by rw [← hms, List.getElem?_set_self hjl])
  have HMl : Hid ((t.rows.take pp).length = pp) := Lib.hid (by rw [List.length_take]; omega)
  have g3 : ((n : Int) != (n : Int)) = false := by simp
  have g4 : ((pp : Int) != p) = false := by rw [bne_eq_false_iff_eq]; omega
  have g5 : (p != p) = false := by simp
  have g6 : ((n : Int) == (n : Int)) = true := by simp
  have g8 : ((y1 : Int) == p + 1) = true := by rw [beq_iff_eq]; omega
  have Hw := Lib.hid (show wrap64 (p + 1) = p + 1 by unfold wrap64; omega)
  have hw1 : IntKind.i64.wrap (p + 1) = p + 1 := by rw [IntKind.wrap_i64]; omega
  have Hij := Lib.hid hij
  have Hpp := Lib.hid hpp
  have Ht := Lib.hid ht
  have Hy := Lib.hid hy
  obtain ⟨e0, he0⟩ : ∃ x : Nat, 0 = x := ⟨_, rfl⟩
  obtain ⟨y0, hy0⟩ : ∃ y : Int, 0 = y := ⟨_, rfl⟩
  have HV1 : Hid (writeD ⟨ts, i, p⟩ r = (⟨us, i, p + 1⟩, e0)) := Lib.hid (by rw [← he0]; exact hv)
  have HY : Hid ((e0 : Int) = y0) := Lib.hid (by omega)
  have g9 : (y0 != 0) = false := by rw [bne_eq_false_iff_eq]; omega
  have HU : Hid (us.length = n) := Lib.hid (by rw [← hus, List.length_set]; exact hn)
  have HUj : Hid (us[j]? = some ⟨t.cap, t.rows.take pp ++ [r], false⟩) := Lib.hid (by rw [← hus, List.getElem?_set_self hjl])
  have HUl : Hid ((t.rows.take pp ++ [r]).length = y1) := Lib.hid (by rw [List.length_append, HMl.out, ← hy1]; rfl)
  have HUf := Lib.hid (few_may hmx)
  have k1 : decide (q < 0) = false := decide_eq_false (by omega)
  have k2 : decide (p ≤ q) = false := decide_eq_false (by omega)
  obtain ⟨z, hz⟩ : ∃ z, x.length = z := ⟨_, rfl⟩
  have Hz := Lib.hid hz
  have hmm := (mayD_iff.1 HMm.out).2.2.2.2.1 _ (List.mem_of_getElem? HMj.out)
  have hmu := (mayD_iff.1 hmx).2.2.2.2.1 _ (List.mem_of_getElem? HUj.out)
  have R1 : Hid (readV ⟨t.cap, t.rows, t.mark⟩ q = (x, 0)) := Lib.hid (by
    rw [readV_yes hmt (by omega) (by omega)]
    rw [hqu, Int.toNat_natCast, List.getD_eq_getElem?_getD, hx]
    rfl)
  have R2 : Hid (readV ⟨t.cap, t.rows.take pp ++ [r], false⟩ q = (x, 0)) := Lib.hid (by
    rw [readV_yes hmu (by omega) (by dsimp only; rw [HUl.out]; omega)]
    dsimp only
    rw [hqu, Int.toNat_natCast, List.getD_eq_getElem?_getD, List.getElem?_append_left (by rw [HMl.out]; omega), List.getElem?_take, if_pos hup, hx]
    rfl)
  have R3 : Hid (readV ⟨t.cap, t.rows.take pp, true⟩ q = (x, 0)) := Lib.hid (by
    rw [readV_yes hmm (by omega) (by dsimp only; rw [HMl.out]; omega)]
    dsimp only
    rw [hqu, Int.toNat_natCast, List.getD_eq_getElem?_getD, List.getElem?_take, if_pos hup, hx]
    rfl)
  have G1 := Lib.hid (HD.out.each t (List.mem_of_getElem? ht))
  have G2 := Lib.hid (HUf.out.each _ (List.mem_of_getElem? HUj.out))
  have G3 := Lib.hid (HMf.out.each _ (List.mem_of_getElem? HMj.out))
  clear hs ha h0 hAw I hx1 hl hr hM ht hy hij hpp hmk hms hmt hjl hus hv hmx he0 hy0 hz hmm hmu hqu hx
  go_enter Try.func6, Try.ntmps6
  go_upto_region 7 with (first
    | (go_at_call 9; refine (HAw.out _).mono ?_; rintro e wn ⟨rfl, hs⟩; replace H := Lib.hid (Stp.trans H.out hs); replace B0 := Lib.hid (B0.out.keep hs B0.out.lt); clear q0 q1 q2; obtain ⟨⟨q0, q1, q2⟩, -, -, -⟩ := dd_all B0.out; clear hs)
    | (go_at_call 10; (with_reducible refine (few_s ts i p n HS.out Hn.out _ HX1.out A k _ (Ha.out.keep H.out)).mono ?_); rintro e wn ⟨rfl, hs⟩; replace H := Lib.hid (Stp.trans H.out hs); replace B0 := Lib.hid (B0.out.keep hs B0.out.lt); clear q0 q1 q2; obtain ⟨⟨q0, q1, q2⟩, -, -, -⟩ := dd_all B0.out; clear hs)
    | (go_at_call 27; (with_reducible refine (HI.out.may ts i p n HD.out Hn.out _ HM.out A k _ (Ha.out.keep H.out)).mono ?_); rintro e wn ⟨rfl, hs⟩; replace H := Lib.hid (Stp.trans H.out hs); replace B0 := Lib.hid (B0.out.keep hs B0.out.lt); clear q0 q1 q2; obtain ⟨⟨q0, q1, q2⟩, -, -, -⟩ := dd_all B0.out; clear hs)
    | (go_at_call 17; (with_reducible refine (HI.out.write ts i p n HD.out Hn.out r l Hl.out Hl2.out us i (p + 1) n e0 HV1.out HU.out y0 HY.out A k C f _ (Ha.out.keep H.out) (Hr.out.keep H.out)).mono ?_); rintro e w9 ⟨Aw9, kw9, rfl, hr, hs, -⟩; have hsA := Stp.alloc hs (.cells (dcs Aw9 n kw9 i (p + 1)) 24); replace H := Lib.hid (Stp.trans H.out hsA); replace B0 := Lib.hid (B0.out.keep hsA B0.out.lt); have D9 := Lib.hid (Blk.new w9 24 (dcs Aw9 n kw9 i (p + 1))); have RD9 := Lib.hid (hr.keep (Stp.alloc (Stp.refl w9) (.cells (dcs Aw9 n kw9 i (p + 1)) 24))); clear q0 q1 q2; obtain ⟨⟨q0, q1, q2⟩, -, -, -⟩ := dd_all B0.out; obtain ⟨⟨aa0, aa1, aa2⟩, -, -, -⟩ := dd_all D9.out; clear hr hs hsA)
    | (go_at_call 19; (with_reducible refine (HI.out.mark ts i p n HD.out Hn.out ms i p n 0 HV2.out HMn.out 0 rfl A k _ (Ha.out.keep H.out)).mono ?_); rintro e w11 ⟨Aw11, kw11, rfl, hr, hs, -⟩; have hsA := Stp.alloc hs (.cells (dcs Aw11 n kw11 i p) 24); replace H := Lib.hid (Stp.trans H.out hsA); replace B0 := Lib.hid (B0.out.keep hsA B0.out.lt); replace D9 := Lib.hid (D9.out.keep hsA D9.out.lt); replace RD9 := Lib.hid (RD9.out.keep hsA); have D11 := Lib.hid (Blk.new w11 24 (dcs Aw11 n kw11 i p)); have RD11 := Lib.hid (hr.keep (Stp.alloc (Stp.refl w11) (.cells (dcs Aw11 n kw11 i p) 24))); clear q0 q1 q2; obtain ⟨⟨q0, q1, q2⟩, -, -, -⟩ := dd_all B0.out; clear aa0 aa1 aa2; obtain ⟨⟨aa0, aa1, aa2⟩, -, -, -⟩ := dd_all D9.out; obtain ⟨⟨ab0, ab1, ab2⟩, -, -, -⟩ := dd_all D11.out; clear hr hs hsA))
  obtain ⟨P9, hP9⟩ : ∃ x, w9.heap.size = x := ⟨_, rfl⟩
  obtain ⟨PB, hPB⟩ : ∃ x, w11.heap.size = x := ⟨_, rfl⟩
  obtain ⟨W, hW⟩ : ∃ z, w11.alloc (.cells (dcs Aw11 n kw11 i p) 24) = z := ⟨_, rfl⟩
  rw [hW] at H B0 D9 D11 RD9 RD11 q0 q1 q2 aa0 aa1 aa2 ab0 ab1 ab2 ⊢
  rw [hP9] at D9 aa0 aa1 aa2 ⊢
  rw [hPB] at D11 ab0 ab1 ab2 ⊢
  clear hW hP9 hPB
  obtain ⟨bM, oM, AM, kM, eM, tm⟩ := tp_at RD11.out HMj.out HMl.out
  cases eM
  dsimp only at tm
  have TM := Lib.hid tm
  have v0 := cell_regrown q0
  have v1 := cell_regrown q1
  have v2 := cell_regrown q2
  have v3 := cell_regrown ab0
  have v4 := cell_regrown ab1
  have v5 := cell_regrown ab2
  have v6 := cell_regrown tm.c0
  have v7 := cell_regrown tm.c1
  have v8 := cell_regrown tm.c2
  have cM : ∀ d os, Calls Try.prog 27 #[dc (some ⟨bM, oM, none⟩) n kw11 i p] (grow (redrawn W d) os) fun e w'' => e = .returned (.bool true) ∧ ∃ p : Regrown, w'' = grow (redrawn W p.d) p.os := fun d os => Calls.regrown_of (HI.out.may ms i p n HMf.out HMn.out true HMm.out _ _ _ (RD11.out.keep (below_regrown W d os)))
  clear tm q0 q1 q2 aa0 aa1 aa2 ab0 ab1 ab2
  refine wp_region_quiet_below (by kernel_rfl) (by kernel_rfl) ?_
  repeat (go_big_quiet_step (first | exact cM _ _))
  refine wpQuiet_nil ?_
  intro _ hw'
  obtain ⟨⟨dq, osq⟩, hw''⟩ := hw'
  subst hw''
  have X := Lib.hid (show Stp W (grow (redrawn W dq) osq) from below_regrown W dq osq)
  clear v0 v1 v2 v3 v4 v5 v6 v7 v8 cM
  generalize grow (redrawn W dq) osq = Y at X ⊢
  replace H := Lib.hid (Stp.trans H.out X.out)
  replace B0 := Lib.hid (B0.out.keep X.out B0.out.lt)
  replace D9 := Lib.hid (D9.out.keep X.out D9.out.lt)
  replace D11 := Lib.hid (D11.out.keep X.out D11.out.lt)
  replace RD9 := Lib.hid (RD9.out.keep X.out)
  replace RD11 := Lib.hid (RD11.out.keep X.out)
  replace TM := Lib.hid (TM.out.keep X.out)
  obtain ⟨⟨q0, q1, q2⟩, -, -, -⟩ := dd_all B0.out
  obtain ⟨⟨aa0, aa1, aa2⟩, -, -, -⟩ := dd_all D9.out
  obtain ⟨bU, oU, AU, kU, eU, tu⟩ := tp_at RD9.out HUj.out HUl.out
  cases eU
  dsimp only at tu
  have TU := Lib.hid tu
  have x0 := tu.c0
  have x1 := tu.c1
  have x2 := tu.c2
  clear tu
  obtain ⟨bX, oX, AX, kX, rfl, tx⟩ := tp_at (Ha.out.keep H.out) Ht.out Hy.out
  have TX := Lib.hid tx
  have x3 := tx.c0
  have x4 := tx.c1
  have x5 := tx.c2
  clear tx
  obtain ⟨⟨ab0, ab1, ab2⟩, -, -, -⟩ := dd_all D11.out
  have x6 := TM.out.c0
  have x7 := TM.out.c1
  have x8 := TM.out.c2
  go_wp2_with (first
    | (go_at_call 29; (with_reducible refine (read_s t.cap t.rows t.mark y G1.out Hy.out q hq0 hq1 x z 0 R1.out Hz.out 0 rfl AX kX _ TX.out.rd).mono ?_); rintro e w20 ⟨Bw20, dw20, rfl, hx, hs, -⟩; replace H := Lib.hid (Stp.trans H.out hs); replace B0 := Lib.hid (B0.out.keep hs B0.out.lt); replace D9 := Lib.hid (D9.out.keep hs D9.out.lt); replace D11 := Lib.hid (D11.out.keep hs D11.out.lt); replace TM := Lib.hid (TM.out.keep hs); replace TU := Lib.hid (TU.out.keep hs); replace TX := Lib.hid (TX.out.keep hs); have Sw20 := Lib.hid hx; clear q0 q1 q2 aa0 aa1 aa2 ab0 ab1 ab2 x0 x1 x2 x3 x4 x5 x6 x7 x8 hx hs; obtain ⟨⟨q0, q1, q2⟩, -, -, -⟩ := dd_all B0.out; obtain ⟨⟨aa0, aa1, aa2⟩, -, -, -⟩ := dd_all D9.out; obtain ⟨⟨ab0, ab1, ab2⟩, -, -, -⟩ := dd_all D11.out; have x0 := TU.out.c0; have x1 := TU.out.c1; have x2 := TU.out.c2; have x3 := TX.out.c0; have x4 := TX.out.c1; have x5 := TX.out.c2; have x6 := TM.out.c0; have x7 := TM.out.c1; have x8 := TM.out.c2)
    | (go_at_call 29; (with_reducible refine (read_s t.cap (t.rows.take pp ++ [r]) false y1 G2.out HUl.out q hq0 hq1 x z 0 R2.out Hz.out 0 rfl AU kU _ TU.out.rd).mono ?_); rintro e w21 ⟨Bw21, dw21, rfl, hx, hs, -⟩; replace H := Lib.hid (Stp.trans H.out hs); replace B0 := Lib.hid (B0.out.keep hs B0.out.lt); replace D9 := Lib.hid (D9.out.keep hs D9.out.lt); replace D11 := Lib.hid (D11.out.keep hs D11.out.lt); replace TM := Lib.hid (TM.out.keep hs); replace TU := Lib.hid (TU.out.keep hs); replace TX := Lib.hid (TX.out.keep hs); have Sw21 := Lib.hid hx; replace Sw20 := Lib.hid (Sw20.out.keep hs); clear q0 q1 q2 aa0 aa1 aa2 ab0 ab1 ab2 x0 x1 x2 x3 x4 x5 x6 x7 x8 hx hs; obtain ⟨⟨q0, q1, q2⟩, -, -, -⟩ := dd_all B0.out; obtain ⟨⟨aa0, aa1, aa2⟩, -, -, -⟩ := dd_all D9.out; obtain ⟨⟨ab0, ab1, ab2⟩, -, -, -⟩ := dd_all D11.out; have x0 := TU.out.c0; have x1 := TU.out.c1; have x2 := TU.out.c2; have x3 := TX.out.c0; have x4 := TX.out.c1; have x5 := TX.out.c2; have x6 := TM.out.c0; have x7 := TM.out.c1; have x8 := TM.out.c2)
    | (go_at_call 29; (with_reducible refine (read_s t.cap (t.rows.take pp) true pp G3.out HMl.out q hq0 hq1 x z 0 R3.out Hz.out 0 rfl AM kM _ TM.out.rd).mono ?_); rintro e w22 ⟨Bw22, dw22, rfl, hx, hs, -⟩; replace H := Lib.hid (Stp.trans H.out hs); replace B0 := Lib.hid (B0.out.keep hs B0.out.lt); replace D9 := Lib.hid (D9.out.keep hs D9.out.lt); replace D11 := Lib.hid (D11.out.keep hs D11.out.lt); replace TM := Lib.hid (TM.out.keep hs); replace TU := Lib.hid (TU.out.keep hs); replace TX := Lib.hid (TX.out.keep hs); have Sw22 := Lib.hid hx; replace Sw20 := Lib.hid (Sw20.out.keep hs); replace Sw21 := Lib.hid (Sw21.out.keep hs); have cv1 := str_n Hz.out Sw20.out; have cv2 := str_n Hz.out Sw21.out; have cv3 := str_n Hz.out Sw22.out; clear q0 q1 q2 aa0 aa1 aa2 ab0 ab1 ab2 x0 x1 x2 x3 x4 x5 x6 x7 x8 hx hs; obtain ⟨⟨q0, q1, q2⟩, -, -, -⟩ := dd_all B0.out; obtain ⟨⟨aa0, aa1, aa2⟩, -, -, -⟩ := dd_all D9.out; obtain ⟨⟨ab0, ab1, ab2⟩, -, -, -⟩ := dd_all D11.out; have x0 := TU.out.c0; have x1 := TU.out.c1; have x2 := TU.out.c2; have x3 := TX.out.c0; have x4 := TX.out.c1; have x5 := TX.out.c2; have x6 := TM.out.c0; have x7 := TM.out.c1; have x8 := TM.out.c2))
  all_goals go_ret
  all_goals exact ⟨rfl, H.out⟩
theorem lost_rd (I : DriveI) (hAw : ∀ w : World, Calls Try.prog 9 #[] w fun e w' => e = .returned (.bool true) ∧ Stp w w') (d : Dr) (A : Option Addr) (k : Nat) (w : World) (ha : RdS w A k d.shelf) (hs : SmallD d) (r : L) (C : Option Addr) (l f : Nat) (hr : Rd w w.heap.size (.slice C l f) (bs r)) (hl9 : r.length < 9223372036854775808) (q : Int) (hq0 : -9223372036854775808 ≤ q) (hq1 : q < 9223372036854775808) :
    Calls Try.prog 6 #[dv d A k, .slice C l f, .int .i64 q] w fun e w' => e = .returned (.bool true) ∧ Stp w w' := by
  obtain ⟨C', f', e, hr'⟩ := RdA.of hr
  rw [bs_length] at e
  cases e
  obtain ⟨ts, i, p⟩ := d
  cases hF : fewDB ts
  · exact lost_no I hAw ts i p _ hs rfl A k w ha r _ rfl hl9 C f hr' q hq0 hq1 hF
  · by_cases hl : 12000 < r.length
    · exact lost_long I hAw ts i p _ hs rfl A k w ha r _ rfl hl9 C f hr' q hq0 hq1 hF hl
    · cases hM : mayD ⟨ts, i, p⟩
      · exact lost_may I hAw ts i p _ hs rfl A k w ha r _ rfl hl9 C f hr' q hq0 hq1 hF (by omega) hM
      · by_cases hi : i < 0
        · exact lost_in I hAw ts i p _ hs rfl A k w ha r _ rfl hl9 C f hr' q hq0 hq1 hF (by omega) hM hi
        · obtain ⟨j, pp, t, e1, e2, e3, -, -, e6, -⟩ := mounted hM (by dsimp only; omega)
          dsimp only at e1 e2 e3
          by_cases he : (writeD ⟨ts, i, p⟩ r).2 = 0
          · obtain ⟨j2, p2, t2, -, f1, f2, f3, -, -, -, -, -, f9, f10⟩ := writeD_ok he
            dsimp only at f1 f2 f3
            have ej : j2 = j := by omega
            have ep : p2 = pp := by omega
            subst ej ep
            rw [e3] at f3
            cases f3
            rw [f9] at f10
            dsimp only at f9 f10
            rw [← f1, ← f2] at f9 f10
            by_cases hq : q < 0 ∨ p ≤ q
            · exact lost_out I hAw ts i p _ hs rfl A k w ha r _ rfl hl9 C f hr' q hq0 hq1 j2 p2 _ _ e1 e2 t e3 rfl e6 rfl hF (by omega) hM _ rfl f9 f10 hq
            · obtain ⟨x, hx⟩ : ∃ x, t.rows[q.toNat]? = some x := ⟨_, List.getElem?_eq_getElem (by omega)⟩
              exact lost_all I hAw ts i p _ hs rfl A k w ha r _ rfl hl9 C f hr' q hq0 hq1 j2 p2 _ _ e1 e2 t e3 rfl e6 rfl hF (by omega) hM _ rfl f9 f10 q.toNat (by omega) (by omega) x hx
          · exact lost_err I hAw ts i p _ hs rfl A k w ha r _ rfl hl9 C f hr' q hq0 hq1 j pp _ _ e1 e2 t e3 rfl e6 rfl hF (by omega) hM he
end Go.Proofs.Ytaknnkcfoafkdaa.Drive
