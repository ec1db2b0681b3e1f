/-
  The law DriveMounts, walked over the contracts: no statement is proved here.
-/
import Derived.Test.YtaknnkcfoafkdaaDriveP
namespace Go.Proofs.Ytaknnkcfoafkdaa.Drive
open Go.RowKit Go.Proofs.Ytaknnkcfoafkdaa.Str Go.Proofs.Ytaknnkcfoafkdaa.Base Go.Proofs.Ytaknnkcfoafkdaa.BlockM Go.Proofs.Ytaknnkcfoafkdaa.RecM Go.Proofs.Ytaknnkcfoafkdaa.TapeM Go.Proofs.Ytaknnkcfoafkdaa.Tape Go.Proofs.Ytaknnkcfoafkdaa.DriveM
set_option linter.unusedVariables false

set_option maxRecDepth 100000 in
set_option maxHeartbeats 2000000 in
theorem mounts_no (I : DriveI) (hAw : ∀ w : World, Calls Try.prog 9 #[] w fun e w' => e = .returned (.bool true) ∧ Stp w w') (ts : List Tp) (i p : Int) (n : Nat) (hs : SmallD ⟨ts, i, p⟩) (hn : ts.length = n) (A : Option Addr) (k : Nat) (w : World) (ha : RdS w A k ts) (q : Int) (hq0 : -9223372036854775808 ≤ q) (hq1 : q < 9223372036854775808) (r : Int) (hr0 : -9223372036854775808 ≤ r) (hr1 : r < 9223372036854775808) (hx1 : fewDB ts = false) :
    Calls Try.prog 7 #[dc A n k i p, .int .i64 q, .int .i64 r] w fun e w' => e = .returned (.bool true) ∧ Stp w w' := by
  have HI := Lib.hid I
  have HAw := Lib.hid hAw
  have HS := Lib.hid hs
  have Ha := Lib.hid ha
  have Hn := Lib.hid hn
  have h0 := Stp.alloc (Stp.refl w) (.cells (dcs A n k i p) 24)
  have H := Lib.hid h0
  have B0 := Lib.hid (Blk.new w 24 (dcs A n k i p))
  obtain ⟨⟨q0, q1, q2⟩, -, -, -⟩ := dd_all B0.out
  have HX1 := Lib.hid hx1
  clear hs ha h0 hAw I hx1
  go_enter Try.func7, Try.ntmps7
  go_wp2_with (first
    | (go_at_call 9; refine (HAw.out _).mono ?_; rintro e wn ⟨rfl, hs⟩; replace H := Lib.hid (Stp.trans H.out hs); replace B0 := Lib.hid (B0.out.keep hs B0.out.lt); clear q0 q1 q2; obtain ⟨⟨q0, q1, q2⟩, -, -, -⟩ := dd_all B0.out; clear hs)
    | (go_at_call 10; (with_reducible refine (few_s ts i p n HS.out Hn.out _ HX1.out A k _ (Ha.out.keep H.out)).mono ?_); rintro e wn ⟨rfl, hs⟩; replace H := Lib.hid (Stp.trans H.out hs); replace B0 := Lib.hid (B0.out.keep hs B0.out.lt); clear q0 q1 q2; obtain ⟨⟨q0, q1, q2⟩, -, -, -⟩ := dd_all B0.out; clear hs))
  go_ret
  exact ⟨rfl, H.out⟩
set_option maxRecDepth 100000 in
set_option maxHeartbeats 2000000 in
theorem mounts_may (I : DriveI) (hAw : ∀ w : World, Calls Try.prog 9 #[] w fun e w' => e = .returned (.bool true) ∧ Stp w w') (ts : List Tp) (i p : Int) (n : Nat) (hs : SmallD ⟨ts, i, p⟩) (hn : ts.length = n) (A : Option Addr) (k : Nat) (w : World) (ha : RdS w A k ts) (q : Int) (hq0 : -9223372036854775808 ≤ q) (hq1 : q < 9223372036854775808) (r : Int) (hr0 : -9223372036854775808 ≤ r) (hr1 : r < 9223372036854775808) (hx1 : fewDB ts = true) (hM : mayD ⟨ts, i, p⟩ = false) :
    Calls Try.prog 7 #[dc A n k i p, .int .i64 q, .int .i64 r] w fun e w' => e = .returned (.bool true) ∧ Stp w w' := by
  have HI := Lib.hid I
  have HAw := Lib.hid hAw
  have HS := Lib.hid hs
  have Ha := Lib.hid ha
  have Hn := Lib.hid hn
  have h0 := Stp.alloc (Stp.refl w) (.cells (dcs A n k i p) 24)
  have H := Lib.hid h0
  have B0 := Lib.hid (Blk.new w 24 (dcs A n k i p))
  obtain ⟨⟨q0, q1, q2⟩, -, -, -⟩ := dd_all B0.out
  have HX1 := Lib.hid hx1
  have HM := Lib.hid hM
  have HD := Lib.hid (fewD_of hs hx1)
  clear hs ha h0 hAw I hx1 hM
  go_enter Try.func7, Try.ntmps7
  go_wp2_with (first
    | (go_at_call 9; refine (HAw.out _).mono ?_; rintro e wn ⟨rfl, hs⟩; replace H := Lib.hid (Stp.trans H.out hs); replace B0 := Lib.hid (B0.out.keep hs B0.out.lt); clear q0 q1 q2; obtain ⟨⟨q0, q1, q2⟩, -, -, -⟩ := dd_all B0.out; clear hs)
    | (go_at_call 10; (with_reducible refine (few_s ts i p n HS.out Hn.out _ HX1.out A k _ (Ha.out.keep H.out)).mono ?_); rintro e wn ⟨rfl, hs⟩; replace H := Lib.hid (Stp.trans H.out hs); replace B0 := Lib.hid (B0.out.keep hs B0.out.lt); clear q0 q1 q2; obtain ⟨⟨q0, q1, q2⟩, -, -, -⟩ := dd_all B0.out; clear hs)
    | (go_at_call 27; (with_reducible refine (HI.out.may ts i p n HD.out Hn.out _ HM.out A k _ (Ha.out.keep H.out)).mono ?_); rintro e wn ⟨rfl, hs⟩; replace H := Lib.hid (Stp.trans H.out hs); replace B0 := Lib.hid (B0.out.keep hs B0.out.lt); clear q0 q1 q2; obtain ⟨⟨q0, q1, q2⟩, -, -, -⟩ := dd_all B0.out; clear hs))
  all_goals go_ret
  all_goals exact ⟨rfl, H.out⟩
set_option maxRecDepth 100000 in
set_option maxHeartbeats 4000000 in
theorem mounts_out (I : DriveI) (hAw : ∀ w : World, Calls Try.prog 9 #[] w fun e w' => e = .returned (.bool true) ∧ Stp w w') (ts : List Tp) (i p : Int) (n : Nat) (hs : SmallD ⟨ts, i, p⟩) (hn : ts.length = n) (A : Option Addr) (k : Nat) (w : World) (ha : RdS w A k ts) (q : Int) (hq0 : -9223372036854775808 ≤ q) (hq1 : q < 9223372036854775808) (r : Int) (hr0 : -9223372036854775808 ≤ r) (hr1 : r < 9223372036854775808) (hx1 : fewDB ts = true) (hM : mayD ⟨ts, i, p⟩ = true) (h : q < 0 ∨ (n : Int) ≤ q) :
    Calls Try.prog 7 #[dc A n k i p, .int .i64 q, .int .i64 r] w fun e w' => e = .returned (.bool true) ∧ Stp w w' := by
  have HI := Lib.hid I
  have HAw := Lib.hid hAw
  have HS := Lib.hid hs
  have Ha := Lib.hid ha
  have Hn := Lib.hid hn
  have h0 := Stp.alloc (Stp.refl w) (.cells (dcs A n k i p) 24)
  have H := Lib.hid h0
  have B0 := Lib.hid (Blk.new w 24 (dcs A n k i p))
  obtain ⟨⟨q0, q1, q2⟩, -, -, -⟩ := dd_all B0.out
  have HX1 := Lib.hid hx1
  have HM := Lib.hid hM
  have HD := Lib.hid (fewD_of hs hx1)
  have HV1 : Hid (mountD ⟨ts, i, p⟩ q = (⟨ts, i, p⟩, 9)) := Lib.hid (by rw [mountD, if_neg (by rw [hM]; simp), if_pos (by dsimp only; rw [hn]; exact h)])
  clear hs ha h0 hAw I hx1 hM
  rcases h with h | h
  · have g1 : decide (q < 0) = true := decide_eq_true h
    go_enter Try.func7, Try.ntmps7
    go_wp2_with (first
      | (go_at_call 9; refine (HAw.out _).mono ?_; rintro e wn ⟨rfl, hs⟩; replace H := Lib.hid (Stp.trans H.out hs); replace B0 := Lib.hid (B0.out.keep hs B0.out.lt); clear q0 q1 q2; obtain ⟨⟨q0, q1, q2⟩, -, -, -⟩ := dd_all B0.out; clear hs)
      | (go_at_call 10; (with_reducible refine (few_s ts i p n HS.out Hn.out _ HX1.out A k _ (Ha.out.keep H.out)).mono ?_); rintro e wn ⟨rfl, hs⟩; replace H := Lib.hid (Stp.trans H.out hs); replace B0 := Lib.hid (B0.out.keep hs B0.out.lt); clear q0 q1 q2; obtain ⟨⟨q0, q1, q2⟩, -, -, -⟩ := dd_all B0.out; clear hs)
      | (go_at_call 27; (with_reducible refine (HI.out.may ts i p n HD.out Hn.out _ HM.out A k _ (Ha.out.keep H.out)).mono ?_); rintro e wn ⟨rfl, hs⟩; replace H := Lib.hid (Stp.trans H.out hs); replace B0 := Lib.hid (B0.out.keep hs B0.out.lt); clear q0 q1 q2; obtain ⟨⟨q0, q1, q2⟩, -, -, -⟩ := dd_all B0.out; clear hs)
      | (go_at_call 11; (with_reducible refine (HI.out.mount ts i p n HD.out Hn.out q hq0 hq1 ts i p n 9 HV1.out Hn.out 9 rfl A k _ (Ha.out.keep H.out)).mono ?_); rintro e w1 ⟨Aw1, kw1, rfl, hr, hs, -⟩; have hsA := Stp.alloc hs (.cells (dcs Aw1 n kw1 i p) 24); replace H := Lib.hid (Stp.trans H.out hsA); replace B0 := Lib.hid (B0.out.keep hsA B0.out.lt); have D1 := Lib.hid (Blk.new w1 24 (dcs Aw1 n kw1 i p)); have RD1 := Lib.hid (hr.keep (Stp.alloc (Stp.refl w1) (.cells (dcs Aw1 n kw1 i p) 24))); clear q0 q1 q2; obtain ⟨⟨q0, q1, q2⟩, -, -, -⟩ := dd_all B0.out; obtain ⟨⟨aa0, aa1, aa2⟩, -, -, -⟩ := dd_all D1.out; clear hr hs hsA)
      | (go_at_call 28; (with_reducible refine (HI.out.same ts i p n HD.out Hn.out ts i p n HD.out Hn.out true (by simp) _ _ _ _ _ RD1.out (Ha.out.keep H.out)).mono ?_); rintro e wn ⟨rfl, hs⟩; replace H := Lib.hid (Stp.trans H.out hs); replace B0 := Lib.hid (B0.out.keep hs B0.out.lt); replace D1 := Lib.hid (D1.out.keep hs D1.out.lt); replace RD1 := Lib.hid (RD1.out.keep hs); clear q0 q1 q2; obtain ⟨⟨q0, q1, q2⟩, -, -, -⟩ := dd_all B0.out; clear aa0 aa1 aa2; obtain ⟨⟨aa0, aa1, aa2⟩, -, -, -⟩ := dd_all D1.out; clear hs))
    all_goals go_ret
    all_goals exact ⟨rfl, H.out⟩
  · have g1 : decide (q < 0) = false := decide_eq_false (by omega)
    have g2 : decide ((n : Int) ≤ q) = true := decide_eq_true h
    go_enter Try.func7, Try.ntmps7
    go_wp2_with (first
      | (go_at_call 9; refine (HAw.out _).mono ?_; rintro e wn ⟨rfl, hs⟩; replace H := Lib.hid (Stp.trans H.out hs); replace B0 := Lib.hid (B0.out.keep hs B0.out.lt); clear q0 q1 q2; obtain ⟨⟨q0, q1, q2⟩, -, -, -⟩ := dd_all B0.out; clear hs)
      | (go_at_call 10; (with_reducible refine (few_s ts i p n HS.out Hn.out _ HX1.out A k _ (Ha.out.keep H.out)).mono ?_); rintro e wn ⟨rfl, hs⟩; replace H := Lib.hid (Stp.trans H.out hs); replace B0 := Lib.hid (B0.out.keep hs B0.out.lt); clear q0 q1 q2; obtain ⟨⟨q0, q1, q2⟩, -, -, -⟩ := dd_all B0.out; clear hs)
      | (go_at_call 27; (with_reducible refine (HI.out.may ts i p n HD.out Hn.out _ HM.out A k _ (Ha.out.keep H.out)).mono ?_); rintro e wn ⟨rfl, hs⟩; replace H := Lib.hid (Stp.trans H.out hs); replace B0 := Lib.hid (B0.out.keep hs B0.out.lt); clear q0 q1 q2; obtain ⟨⟨q0, q1, q2⟩, -, -, -⟩ := dd_all B0.out; clear hs)
      | (go_at_call 11; (with_reducible refine (HI.out.mount ts i p n HD.out Hn.out q hq0 hq1 ts i p n 9 HV1.out Hn.out 9 rfl A k _ (Ha.out.keep H.out)).mono ?_); rintro e w1 ⟨Aw1, kw1, rfl, hr, hs, -⟩; have hsA := Stp.alloc hs (.cells (dcs Aw1 n kw1 i p) 24); replace H := Lib.hid (Stp.trans H.out hsA); replace B0 := Lib.hid (B0.out.keep hsA B0.out.lt); have D1 := Lib.hid (Blk.new w1 24 (dcs Aw1 n kw1 i p)); have RD1 := Lib.hid (hr.keep (Stp.alloc (Stp.refl w1) (.cells (dcs Aw1 n kw1 i p) 24))); clear q0 q1 q2; obtain ⟨⟨q0, q1, q2⟩, -, -, -⟩ := dd_all B0.out; obtain ⟨⟨aa0, aa1, aa2⟩, -, -, -⟩ := dd_all D1.out; clear hr hs hsA)
      | (go_at_call 28; (with_reducible refine (HI.out.same ts i p n HD.out Hn.out ts i p n HD.out Hn.out true (by simp) _ _ _ _ _ RD1.out (Ha.out.keep H.out)).mono ?_); rintro e wn ⟨rfl, hs⟩; replace H := Lib.hid (Stp.trans H.out hs); replace B0 := Lib.hid (B0.out.keep hs B0.out.lt); replace D1 := Lib.hid (D1.out.keep hs D1.out.lt); replace RD1 := Lib.hid (RD1.out.keep hs); clear q0 q1 q2; obtain ⟨⟨q0, q1, q2⟩, -, -, -⟩ := dd_all B0.out; clear aa0 aa1 aa2; obtain ⟨⟨aa0, aa1, aa2⟩, -, -, -⟩ := dd_all D1.out; clear hs))
    all_goals go_ret
    all_goals exact ⟨rfl, H.out⟩
set_option maxRecDepth 100000 in
set_option maxHeartbeats 8000000 in
theorem mounts_in (I : DriveI) (hAw : ∀ w : World, Calls Try.prog 9 #[] w fun e w' => e = .returned (.bool true) ∧ Stp w w') (ts : List Tp) (i p : Int) (n : Nat) (hs : SmallD ⟨ts, i, p⟩) (hn : ts.length = n) (A : Option Addr) (k : Nat) (w : World) (ha : RdS w A k ts) (q : Int) (hq0 : -9223372036854775808 ≤ q) (hq1 : q < 9223372036854775808) (r : Int) (hr0 : -9223372036854775808 ≤ r) (hr1 : r < 9223372036854775808) (hx1 : fewDB ts = true) (hM : mayD ⟨ts, i, p⟩ = true) (h : 0 ≤ q ∧ q < (n : Int)) (h2 : 0 ≤ r ∧ r < (n : Int)) :
    Calls Try.prog 7 #[dc A n k i p, .int .i64 q, .int .i64 r] w fun e w' => e = .returned (.bool true) ∧ Stp w w' := by
  have HI := Lib.hid I
  have HAw := Lib.hid hAw
  have HS := Lib.hid hs
  have Ha := Lib.hid ha
  have Hn := Lib.hid hn
  have h0 := Stp.alloc (Stp.refl w) (.cells (dcs A n k i p) 24)
  have H := Lib.hid h0
  have B0 := Lib.hid (Blk.new w 24 (dcs A n k i p))
  obtain ⟨⟨q0, q1, q2⟩, -, -, -⟩ := dd_all B0.out
  have HX1 := Lib.hid hx1
  have HM := Lib.hid hM
  have HD := Lib.hid (fewD_of hs hx1)
  have hmx : mayD ⟨ts, q, 0⟩ = true := may_at hM (by omega) (by rw [hn]; omega)
  have hmu : mayD ⟨ts, -1, 0⟩ = true := may_at hM (by omega) (by omega)
  have HQ := Lib.hid (few_may hmx)
  have HU := Lib.hid (few_may hmu)
  have HV1 : Hid (mountD ⟨ts, i, p⟩ q = (⟨ts, q, 0⟩, 0)) := Lib.hid (by rw [mountD, if_neg (by rw [hM]; simp), if_neg (by dsimp only; rw [hn]; omega)])
  have hmr : mayD ⟨ts, r, 0⟩ = true := may_at hM (by omega) (by rw [hn]; omega)
  have HR := Lib.hid (few_may hmr)
  have HV2 : Hid (mountD ⟨ts, q, 0⟩ r = (⟨ts, r, 0⟩, 0)) := Lib.hid (by rw [mountD, if_neg (by rw [hmx]; simp), if_neg (by dsimp only; rw [hn]; omega)])
  have HV3 : Hid (mountD ⟨ts, i, p⟩ r = (⟨ts, r, 0⟩, 0)) := Lib.hid (by rw [mountD, if_neg (by rw [hM]; simp), if_neg (by dsimp only; rw [hn]; omega)])
  clear hmr
  have HV4 : Hid (unmountD ⟨ts, q, 0⟩ = (⟨ts, -1, 0⟩, 0)) := Lib.hid (by rw [unmountD, if_neg (by rw [whyD_may hmx h.1]; simp)])
  have HV5 : Hid (unmountD ⟨ts, -1, 0⟩ = (⟨ts, -1, 0⟩, 9)) := Lib.hid (by
    have hw : whyD ⟨ts, -1, 0⟩ = 9 := by rw [whyD, if_neg (by rw [hmu]; simp), if_pos (by dsimp only; omega)]
    rw [unmountD, if_pos (by rw [hw]; omega), hw])
  have HV6 : Hid (newD ts = (⟨ts, -1, 0⟩, true)) := Lib.hid (by rw [newD, if_pos hmu])
  have Hn9 : Hid (n ≤ 1000) := Lib.hid (by rw [← hn]; exact HD.out.few)
  have HTe : Hid (∀ t ∈ ts, FewT t) := Lib.hid HD.out.each
  clear hs ha h0 hAw I hx1 hM hmx hmu h h2
  go_enter Try.func7, Try.ntmps7
  go_wp2_with (first
    | (go_at_call 9; refine (HAw.out _).mono ?_; rintro e wn ⟨rfl, hs⟩; replace H := Lib.hid (Stp.trans H.out hs); replace B0 := Lib.hid (B0.out.keep hs B0.out.lt); clear q0 q1 q2; obtain ⟨⟨q0, q1, q2⟩, -, -, -⟩ := dd_all B0.out; clear hs)
    | (go_at_call 10; (with_reducible refine (few_s ts i p n HS.out Hn.out _ HX1.out A k _ (Ha.out.keep H.out)).mono ?_); rintro e wn ⟨rfl, hs⟩; replace H := Lib.hid (Stp.trans H.out hs); replace B0 := Lib.hid (B0.out.keep hs B0.out.lt); clear q0 q1 q2; obtain ⟨⟨q0, q1, q2⟩, -, -, -⟩ := dd_all B0.out; clear hs)
    | (go_at_call 27; (with_reducible refine (HI.out.may ts i p n HD.out Hn.out _ HM.out A k _ (Ha.out.keep H.out)).mono ?_); rintro e wn ⟨rfl, hs⟩; replace H := Lib.hid (Stp.trans H.out hs); replace B0 := Lib.hid (B0.out.keep hs B0.out.lt); clear q0 q1 q2; obtain ⟨⟨q0, q1, q2⟩, -, -, -⟩ := dd_all B0.out; clear hs)
    | (go_at_call 11; (with_reducible refine (HI.out.mount ts i p n HD.out Hn.out q hq0 hq1 ts q 0 n 0 HV1.out Hn.out 0 rfl A k _ (Ha.out.keep H.out)).mono ?_); rintro e w1 ⟨Aw1, kw1, rfl, hr, hs, -⟩; have hsA := Stp.alloc hs (.cells (dcs Aw1 n kw1 q 0) 24); replace H := Lib.hid (Stp.trans H.out hsA); replace B0 := Lib.hid (B0.out.keep hsA B0.out.lt); have D1 := Lib.hid (Blk.new w1 24 (dcs Aw1 n kw1 q 0)); have RD1 := Lib.hid (hr.keep (Stp.alloc (Stp.refl w1) (.cells (dcs Aw1 n kw1 q 0) 24))); clear q0 q1 q2; obtain ⟨⟨q0, q1, q2⟩, -, -, -⟩ := dd_all B0.out; obtain ⟨⟨aa0, aa1, aa2⟩, -, -, -⟩ := dd_all D1.out; clear hr hs hsA)
    | (go_at_call 11; (with_reducible refine (HI.out.mount ts q 0 n HQ.out Hn.out r hr0 hr1 ts r 0 n 0 HV2.out Hn.out 0 rfl _ _ _ RD1.out).mono ?_); rintro e w2 ⟨Aw2, kw2, rfl, hr, hs, -⟩; have hsA := Stp.alloc hs (.cells (dcs Aw2 n kw2 r 0) 24); replace H := Lib.hid (Stp.trans H.out hsA); replace B0 := Lib.hid (B0.out.keep hsA B0.out.lt); replace D1 := Lib.hid (D1.out.keep hsA D1.out.lt); replace RD1 := Lib.hid (RD1.out.keep hsA); have D2 := Lib.hid (Blk.new w2 24 (dcs Aw2 n kw2 r 0)); have RD2 := Lib.hid (hr.keep (Stp.alloc (Stp.refl w2) (.cells (dcs Aw2 n kw2 r 0) 24))); clear q0 q1 q2; obtain ⟨⟨q0, q1, q2⟩, -, -, -⟩ := dd_all B0.out; clear aa0 aa1 aa2; obtain ⟨⟨aa0, aa1, aa2⟩, -, -, -⟩ := dd_all D1.out; obtain ⟨⟨ab0, ab1, ab2⟩, -, -, -⟩ := dd_all D2.out; clear hr hs hsA)
    | (go_at_call 11; (with_reducible refine (HI.out.mount ts i p n HD.out Hn.out r hr0 hr1 ts r 0 n 0 HV3.out Hn.out 0 rfl A k _ (Ha.out.keep H.out)).mono ?_); rintro e w3 ⟨Aw3, kw3, rfl, hr, hs, -⟩; have hsA := Stp.alloc hs (.cells (dcs Aw3 n kw3 r 0) 24); replace H := Lib.hid (Stp.trans H.out hsA); replace B0 := Lib.hid (B0.out.keep hsA B0.out.lt); replace D1 := Lib.hid (D1.out.keep hsA D1.out.lt); replace D2 := Lib.hid (D2.out.keep hsA D2.out.lt); replace RD1 := Lib.hid (RD1.out.keep hsA); replace RD2 := Lib.hid (RD2.out.keep hsA); have D3 := Lib.hid (Blk.new w3 24 (dcs Aw3 n kw3 r 0)); have RD3 := Lib.hid (hr.keep (Stp.alloc (Stp.refl w3) (.cells (dcs Aw3 n kw3 r 0) 24))); clear q0 q1 q2; obtain ⟨⟨q0, q1, q2⟩, -, -, -⟩ := dd_all B0.out; clear aa0 aa1 aa2; obtain ⟨⟨aa0, aa1, aa2⟩, -, -, -⟩ := dd_all D1.out; clear ab0 ab1 ab2; obtain ⟨⟨ab0, ab1, ab2⟩, -, -, -⟩ := dd_all D2.out; obtain ⟨⟨ac0, ac1, ac2⟩, -, -, -⟩ := dd_all D3.out; clear hr hs hsA)
    | (go_at_call 13; (with_reducible refine (HI.out.unmount ts q 0 n HQ.out Hn.out ts (-1) 0 n 0 HV4.out Hn.out 0 rfl _ _ _ RD1.out).mono ?_); rintro e w4 ⟨Aw4, kw4, rfl, hr, hs, -⟩; have hsA := Stp.alloc hs (.cells (dcs Aw4 n kw4 (-1) 0) 24); replace H := Lib.hid (Stp.trans H.out hsA); replace B0 := Lib.hid (B0.out.keep hsA B0.out.lt); replace D1 := Lib.hid (D1.out.keep hsA D1.out.lt); replace D2 := Lib.hid (D2.out.keep hsA D2.out.lt); replace D3 := Lib.hid (D3.out.keep hsA D3.out.lt); replace RD1 := Lib.hid (RD1.out.keep hsA); replace RD2 := Lib.hid (RD2.out.keep hsA); replace RD3 := Lib.hid (RD3.out.keep hsA); have D4 := Lib.hid (Blk.new w4 24 (dcs Aw4 n kw4 (-1) 0)); have RD4 := Lib.hid (hr.keep (Stp.alloc (Stp.refl w4) (.cells (dcs Aw4 n kw4 (-1) 0) 24))); clear q0 q1 q2; obtain ⟨⟨q0, q1, q2⟩, -, -, -⟩ := dd_all B0.out; clear aa0 aa1 aa2; obtain ⟨⟨aa0, aa1, aa2⟩, -, -, -⟩ := dd_all D1.out; clear ab0 ab1 ab2; obtain ⟨⟨ab0, ab1, ab2⟩, -, -, -⟩ := dd_all D2.out; clear ac0 ac1 ac2; obtain ⟨⟨ac0, ac1, ac2⟩, -, -, -⟩ := dd_all D3.out; obtain ⟨⟨ad0, ad1, ad2⟩, -, -, -⟩ := dd_all D4.out; clear hr hs hsA)
    | (go_at_call 13; (with_reducible refine (HI.out.unmount ts (-1) 0 n HU.out Hn.out ts (-1) 0 n 9 HV5.out Hn.out 9 rfl _ _ _ RD4.out).mono ?_); rintro e w5 ⟨Aw5, kw5, rfl, hr, hs, -⟩; have hsA := Stp.alloc hs (.cells (dcs Aw5 n kw5 (-1) 0) 24); replace H := Lib.hid (Stp.trans H.out hsA); replace B0 := Lib.hid (B0.out.keep hsA B0.out.lt); replace D1 := Lib.hid (D1.out.keep hsA D1.out.lt); replace D2 := Lib.hid (D2.out.keep hsA D2.out.lt); replace D3 := Lib.hid (D3.out.keep hsA D3.out.lt); replace D4 := Lib.hid (D4.out.keep hsA D4.out.lt); replace RD1 := Lib.hid (RD1.out.keep hsA); replace RD2 := Lib.hid (RD2.out.keep hsA); replace RD3 := Lib.hid (RD3.out.keep hsA); replace RD4 := Lib.hid (RD4.out.keep hsA); have D5 := Lib.hid (Blk.new w5 24 (dcs Aw5 n kw5 (-1) 0)); have RD5 := Lib.hid (hr.keep (Stp.alloc (Stp.refl w5) (.cells (dcs Aw5 n kw5 (-1) 0) 24))); clear q0 q1 q2; obtain ⟨⟨q0, q1, q2⟩, -, -, -⟩ := dd_all B0.out; clear aa0 aa1 aa2; obtain ⟨⟨aa0, aa1, aa2⟩, -, -, -⟩ := dd_all D1.out; clear ab0 ab1 ab2; obtain ⟨⟨ab0, ab1, ab2⟩, -, -, -⟩ := dd_all D2.out; clear ac0 ac1 ac2; obtain ⟨⟨ac0, ac1, ac2⟩, -, -, -⟩ := dd_all D3.out; clear ad0 ad1 ad2; obtain ⟨⟨ad0, ad1, ad2⟩, -, -, -⟩ := dd_all D4.out; obtain ⟨⟨ae0, ae1, ae2⟩, -, -, -⟩ := dd_all D5.out; clear hr hs hsA)
    | (go_at_call 23; (with_reducible refine (HI.out.new ts n Hn.out Hn9.out HTe.out ts (-1) 0 true n HV6.out Hn.out A k _ (Ha.out.keep H.out)).mono ?_); rintro e w6 ⟨Aw6, kw6, rfl, hr, hs, -⟩; have hsA := Stp.alloc hs (.cells (dcs Aw6 n kw6 (-1) 0) 24); replace H := Lib.hid (Stp.trans H.out hsA); replace B0 := Lib.hid (B0.out.keep hsA B0.out.lt); replace D1 := Lib.hid (D1.out.keep hsA D1.out.lt); replace D2 := Lib.hid (D2.out.keep hsA D2.out.lt); replace D3 := Lib.hid (D3.out.keep hsA D3.out.lt); replace D4 := Lib.hid (D4.out.keep hsA D4.out.lt); replace D5 := Lib.hid (D5.out.keep hsA D5.out.lt); replace RD1 := Lib.hid (RD1.out.keep hsA); replace RD2 := Lib.hid (RD2.out.keep hsA); replace RD3 := Lib.hid (RD3.out.keep hsA); replace RD4 := Lib.hid (RD4.out.keep hsA); replace RD5 := Lib.hid (RD5.out.keep hsA); have D6 := Lib.hid (Blk.new w6 24 (dcs Aw6 n kw6 (-1) 0)); have RD6 := Lib.hid (hr.keep (Stp.alloc (Stp.refl w6) (.cells (dcs Aw6 n kw6 (-1) 0) 24))); clear q0 q1 q2; obtain ⟨⟨q0, q1, q2⟩, -, -, -⟩ := dd_all B0.out; clear aa0 aa1 aa2; obtain ⟨⟨aa0, aa1, aa2⟩, -, -, -⟩ := dd_all D1.out; clear ab0 ab1 ab2; obtain ⟨⟨ab0, ab1, ab2⟩, -, -, -⟩ := dd_all D2.out; clear ac0 ac1 ac2; obtain ⟨⟨ac0, ac1, ac2⟩, -, -, -⟩ := dd_all D3.out; clear ad0 ad1 ad2; obtain ⟨⟨ad0, ad1, ad2⟩, -, -, -⟩ := dd_all D4.out; clear ae0 ae1 ae2; obtain ⟨⟨ae0, ae1, ae2⟩, -, -, -⟩ := dd_all D5.out; obtain ⟨⟨af0, af1, af2⟩, -, -, -⟩ := dd_all D6.out; clear hr hs hsA)
    | (go_at_call 28; (with_reducible refine (HI.out.same ts r 0 n HR.out Hn.out ts r 0 n HR.out Hn.out true (by simp) _ _ _ _ _ RD2.out RD3.out).mono ?_); rintro e wn ⟨rfl, hs⟩; replace H := Lib.hid (Stp.trans H.out hs); replace B0 := Lib.hid (B0.out.keep hs B0.out.lt); replace D1 := Lib.hid (D1.out.keep hs D1.out.lt); replace D2 := Lib.hid (D2.out.keep hs D2.out.lt); replace D3 := Lib.hid (D3.out.keep hs D3.out.lt); replace D4 := Lib.hid (D4.out.keep hs D4.out.lt); replace D5 := Lib.hid (D5.out.keep hs D5.out.lt); replace D6 := Lib.hid (D6.out.keep hs D6.out.lt); replace RD1 := Lib.hid (RD1.out.keep hs); replace RD2 := Lib.hid (RD2.out.keep hs); replace RD3 := Lib.hid (RD3.out.keep hs); replace RD4 := Lib.hid (RD4.out.keep hs); replace RD5 := Lib.hid (RD5.out.keep hs); replace RD6 := Lib.hid (RD6.out.keep hs); clear q0 q1 q2; obtain ⟨⟨q0, q1, q2⟩, -, -, -⟩ := dd_all B0.out; clear aa0 aa1 aa2; obtain ⟨⟨aa0, aa1, aa2⟩, -, -, -⟩ := dd_all D1.out; clear ab0 ab1 ab2; obtain ⟨⟨ab0, ab1, ab2⟩, -, -, -⟩ := dd_all D2.out; clear ac0 ac1 ac2; obtain ⟨⟨ac0, ac1, ac2⟩, -, -, -⟩ := dd_all D3.out; clear ad0 ad1 ad2; obtain ⟨⟨ad0, ad1, ad2⟩, -, -, -⟩ := dd_all D4.out; clear ae0 ae1 ae2; obtain ⟨⟨ae0, ae1, ae2⟩, -, -, -⟩ := dd_all D5.out; clear af0 af1 af2; obtain ⟨⟨af0, af1, af2⟩, -, -, -⟩ := dd_all D6.out; clear hs)
    | (go_at_call 28; (with_reducible refine (HI.out.same ts (-1) 0 n HU.out Hn.out ts (-1) 0 n HU.out Hn.out true (by simp) _ _ _ _ _ RD4.out RD6.out).mono ?_); rintro e wn ⟨rfl, hs⟩; replace H := Lib.hid (Stp.trans H.out hs); replace B0 := Lib.hid (B0.out.keep hs B0.out.lt); replace D1 := Lib.hid (D1.out.keep hs D1.out.lt); replace D2 := Lib.hid (D2.out.keep hs D2.out.lt); replace D3 := Lib.hid (D3.out.keep hs D3.out.lt); replace D4 := Lib.hid (D4.out.keep hs D4.out.lt); replace D5 := Lib.hid (D5.out.keep hs D5.out.lt); replace D6 := Lib.hid (D6.out.keep hs D6.out.lt); replace RD1 := Lib.hid (RD1.out.keep hs); replace RD2 := Lib.hid (RD2.out.keep hs); replace RD3 := Lib.hid (RD3.out.keep hs); replace RD4 := Lib.hid (RD4.out.keep hs); replace RD5 := Lib.hid (RD5.out.keep hs); replace RD6 := Lib.hid (RD6.out.keep hs); clear q0 q1 q2; obtain ⟨⟨q0, q1, q2⟩, -, -, -⟩ := dd_all B0.out; clear aa0 aa1 aa2; obtain ⟨⟨aa0, aa1, aa2⟩, -, -, -⟩ := dd_all D1.out; clear ab0 ab1 ab2; obtain ⟨⟨ab0, ab1, ab2⟩, -, -, -⟩ := dd_all D2.out; clear ac0 ac1 ac2; obtain ⟨⟨ac0, ac1, ac2⟩, -, -, -⟩ := dd_all D3.out; clear ad0 ad1 ad2; obtain ⟨⟨ad0, ad1, ad2⟩, -, -, -⟩ := dd_all D4.out; clear ae0 ae1 ae2; obtain ⟨⟨ae0, ae1, ae2⟩, -, -, -⟩ := dd_all D5.out; clear af0 af1 af2; obtain ⟨⟨af0, af1, af2⟩, -, -, -⟩ := dd_all D6.out; clear hs))
  all_goals go_ret
  all_goals exact ⟨rfl, H.out⟩
set_option maxRecDepth 100000 in
set_option maxHeartbeats 8000000 in
theorem mounts_off (I : DriveI) (hAw : ∀ w : World, Calls Try.prog 9 #[] w fun e w' => e = .returned (.bool true) ∧ Stp w w') (ts : List Tp) (i p : Int) (n : Nat) (hs : SmallD ⟨ts, i, p⟩) (hn : ts.length = n) (A : Option Addr) (k : Nat) (w : World) (ha : RdS w A k ts) (q : Int) (hq0 : -9223372036854775808 ≤ q) (hq1 : q < 9223372036854775808) (r : Int) (hr0 : -9223372036854775808 ≤ r) (hr1 : r < 9223372036854775808) (hx1 : fewDB ts = true) (hM : mayD ⟨ts, i, p⟩ = true) (h : 0 ≤ q ∧ q < (n : Int)) (h2 : ¬ (0 ≤ r ∧ r < (n : Int))) :
    Calls Try.prog 7 #[dc A n k i p, .int .i64 q, .int .i64 r] w fun e w' => e = .returned (.bool true) ∧ Stp w w' := by
  have HI := Lib.hid I
  have HAw := Lib.hid hAw
  have HS := Lib.hid hs
  have Ha := Lib.hid ha
  have Hn := Lib.hid hn
  have h0 := Stp.alloc (Stp.refl w) (.cells (dcs A n k i p) 24)
  have H := Lib.hid h0
  have B0 := Lib.hid (Blk.new w 24 (dcs A n k i p))
  obtain ⟨⟨q0, q1, q2⟩, -, -, -⟩ := dd_all B0.out
  have HX1 := Lib.hid hx1
  have HM := Lib.hid hM
  have HD := Lib.hid (fewD_of hs hx1)
  have hmx : mayD ⟨ts, q, 0⟩ = true := may_at hM (by omega) (by rw [hn]; omega)
  have hmu : mayD ⟨ts, -1, 0⟩ = true := may_at hM (by omega) (by omega)
  have HQ := Lib.hid (few_may hmx)
  have HU := Lib.hid (few_may hmu)
  have HV1 : Hid (mountD ⟨ts, i, p⟩ q = (⟨ts, q, 0⟩, 0)) := Lib.hid (by rw [mountD, if_neg (by rw [hM]; simp), if_neg (by dsimp only; rw [hn]; omega)])
  have HV2 : Hid (mountD ⟨ts, q, 0⟩ r = (⟨ts, q, 0⟩, 9)) := Lib.hid (by rw [mountD, if_neg (by rw [hmx]; simp), if_pos (by dsimp only; rw [hn]; omega)])
  have HV3 : Hid (mountD ⟨ts, i, p⟩ r = (⟨ts, i, p⟩, 9)) := Lib.hid (by rw [mountD, if_neg (by rw [hM]; simp), if_pos (by dsimp only; rw [hn]; omega)])
  have HV4 : Hid (unmountD ⟨ts, q, 0⟩ = (⟨ts, -1, 0⟩, 0)) := Lib.hid (by rw [unmountD, if_neg (by rw [whyD_may hmx h.1]; simp)])
  have HV5 : Hid (unmountD ⟨ts, -1, 0⟩ = (⟨ts, -1, 0⟩, 9)) := Lib.hid (by
    have hw : whyD ⟨ts, -1, 0⟩ = 9 := by rw [whyD, if_neg (by rw [hmu]; simp), if_pos (by dsimp only; omega)]
    rw [unmountD, if_pos (by rw [hw]; omega), hw])
  have HV6 : Hid (newD ts = (⟨ts, -1, 0⟩, true)) := Lib.hid (by rw [newD, if_pos hmu])
  have Hn9 : Hid (n ≤ 1000) := Lib.hid (by rw [← hn]; exact HD.out.few)
  have HTe : Hid (∀ t ∈ ts, FewT t) := Lib.hid HD.out.each
  clear hs ha h0 hAw I hx1 hM hmx hmu h h2
  go_enter Try.func7, Try.ntmps7
  go_wp2_with (first
    | (go_at_call 9; refine (HAw.out _).mono ?_; rintro e wn ⟨rfl, hs⟩; replace H := Lib.hid (Stp.trans H.out hs); replace B0 := Lib.hid (B0.out.keep hs B0.out.lt); clear q0 q1 q2; obtain ⟨⟨q0, q1, q2⟩, -, -, -⟩ := dd_all B0.out; clear hs)
    | (go_at_call 10; (with_reducible refine (few_s ts i p n HS.out Hn.out _ HX1.out A k _ (Ha.out.keep H.out)).mono ?_); rintro e wn ⟨rfl, hs⟩; replace H := Lib.hid (Stp.trans H.out hs); replace B0 := Lib.hid (B0.out.keep hs B0.out.lt); clear q0 q1 q2; obtain ⟨⟨q0, q1, q2⟩, -, -, -⟩ := dd_all B0.out; clear hs)
    | (go_at_call 27; (with_reducible refine (HI.out.may ts i p n HD.out Hn.out _ HM.out A k _ (Ha.out.keep H.out)).mono ?_); rintro e wn ⟨rfl, hs⟩; replace H := Lib.hid (Stp.trans H.out hs); replace B0 := Lib.hid (B0.out.keep hs B0.out.lt); clear q0 q1 q2; obtain ⟨⟨q0, q1, q2⟩, -, -, -⟩ := dd_all B0.out; clear hs)
    | (go_at_call 11; (with_reducible refine (HI.out.mount ts i p n HD.out Hn.out q hq0 hq1 ts q 0 n 0 HV1.out Hn.out 0 rfl A k _ (Ha.out.keep H.out)).mono ?_); rintro e w1 ⟨Aw1, kw1, rfl, hr, hs, -⟩; have hsA := Stp.alloc hs (.cells (dcs Aw1 n kw1 q 0) 24); replace H := Lib.hid (Stp.trans H.out hsA); replace B0 := Lib.hid (B0.out.keep hsA B0.out.lt); have D1 := Lib.hid (Blk.new w1 24 (dcs Aw1 n kw1 q 0)); have RD1 := Lib.hid (hr.keep (Stp.alloc (Stp.refl w1) (.cells (dcs Aw1 n kw1 q 0) 24))); clear q0 q1 q2; obtain ⟨⟨q0, q1, q2⟩, -, -, -⟩ := dd_all B0.out; obtain ⟨⟨aa0, aa1, aa2⟩, -, -, -⟩ := dd_all D1.out; clear hr hs hsA)
    | (go_at_call 11; (with_reducible refine (HI.out.mount ts q 0 n HQ.out Hn.out r hr0 hr1 ts q 0 n 9 HV2.out Hn.out 9 rfl _ _ _ RD1.out).mono ?_); rintro e w2 ⟨Aw2, kw2, rfl, hr, hs, -⟩; have hsA := Stp.alloc hs (.cells (dcs Aw2 n kw2 q 0) 24); replace H := Lib.hid (Stp.trans H.out hsA); replace B0 := Lib.hid (B0.out.keep hsA B0.out.lt); replace D1 := Lib.hid (D1.out.keep hsA D1.out.lt); replace RD1 := Lib.hid (RD1.out.keep hsA); have D2 := Lib.hid (Blk.new w2 24 (dcs Aw2 n kw2 q 0)); have RD2 := Lib.hid (hr.keep (Stp.alloc (Stp.refl w2) (.cells (dcs Aw2 n kw2 q 0) 24))); clear q0 q1 q2; obtain ⟨⟨q0, q1, q2⟩, -, -, -⟩ := dd_all B0.out; clear aa0 aa1 aa2; obtain ⟨⟨aa0, aa1, aa2⟩, -, -, -⟩ := dd_all D1.out; obtain ⟨⟨ab0, ab1, ab2⟩, -, -, -⟩ := dd_all D2.out; clear hr hs hsA)
    | (go_at_call 11; (with_reducible refine (HI.out.mount ts i p n HD.out Hn.out r hr0 hr1 ts i p n 9 HV3.out Hn.out 9 rfl A k _ (Ha.out.keep H.out)).mono ?_); rintro e w3 ⟨Aw3, kw3, rfl, hr, hs, -⟩; have hsA := Stp.alloc hs (.cells (dcs Aw3 n kw3 i p) 24); replace H := Lib.hid (Stp.trans H.out hsA); replace B0 := Lib.hid (B0.out.keep hsA B0.out.lt); replace D1 := Lib.hid (D1.out.keep hsA D1.out.lt); replace D2 := Lib.hid (D2.out.keep hsA D2.out.lt); replace RD1 := Lib.hid (RD1.out.keep hsA); replace RD2 := Lib.hid (RD2.out.keep hsA); have D3 := Lib.hid (Blk.new w3 24 (dcs Aw3 n kw3 i p)); have RD3 := Lib.hid (hr.keep (Stp.alloc (Stp.refl w3) (.cells (dcs Aw3 n kw3 i p) 24))); clear q0 q1 q2; obtain ⟨⟨q0, q1, q2⟩, -, -, -⟩ := dd_all B0.out; clear aa0 aa1 aa2; obtain ⟨⟨aa0, aa1, aa2⟩, -, -, -⟩ := dd_all D1.out; clear ab0 ab1 ab2; obtain ⟨⟨ab0, ab1, ab2⟩, -, -, -⟩ := dd_all D2.out; obtain ⟨⟨ac0, ac1, ac2⟩, -, -, -⟩ := dd_all D3.out; clear hr hs hsA)
    | (go_at_call 13; (with_reducible refine (HI.out.unmount ts q 0 n HQ.out Hn.out ts (-1) 0 n 0 HV4.out Hn.out 0 rfl _ _ _ RD1.out).mono ?_); rintro e w4 ⟨Aw4, kw4, rfl, hr, hs, -⟩; have hsA := Stp.alloc hs (.cells (dcs Aw4 n kw4 (-1) 0) 24); replace H := Lib.hid (Stp.trans H.out hsA); replace B0 := Lib.hid (B0.out.keep hsA B0.out.lt); replace D1 := Lib.hid (D1.out.keep hsA D1.out.lt); replace D2 := Lib.hid (D2.out.keep hsA D2.out.lt); replace D3 := Lib.hid (D3.out.keep hsA D3.out.lt); replace RD1 := Lib.hid (RD1.out.keep hsA); replace RD2 := Lib.hid (RD2.out.keep hsA); replace RD3 := Lib.hid (RD3.out.keep hsA); have D4 := Lib.hid (Blk.new w4 24 (dcs Aw4 n kw4 (-1) 0)); have RD4 := Lib.hid (hr.keep (Stp.alloc (Stp.refl w4) (.cells (dcs Aw4 n kw4 (-1) 0) 24))); clear q0 q1 q2; obtain ⟨⟨q0, q1, q2⟩, -, -, -⟩ := dd_all B0.out; clear aa0 aa1 aa2; obtain ⟨⟨aa0, aa1, aa2⟩, -, -, -⟩ := dd_all D1.out; clear ab0 ab1 ab2; obtain ⟨⟨ab0, ab1, ab2⟩, -, -, -⟩ := dd_all D2.out; clear ac0 ac1 ac2; obtain ⟨⟨ac0, ac1, ac2⟩, -, -, -⟩ := dd_all D3.out; obtain ⟨⟨ad0, ad1, ad2⟩, -, -, -⟩ := dd_all D4.out; clear hr hs hsA)
    | (go_at_call 13; (with_reducible refine (HI.out.unmount ts (-1) 0 n HU.out Hn.out ts (-1) 0 n 9 HV5.out Hn.out 9 rfl _ _ _ RD4.out).mono ?_); rintro e w5 ⟨Aw5, kw5, rfl, hr, hs, -⟩; have hsA := Stp.alloc hs (.cells (dcs Aw5 n kw5 (-1) 0) 24); replace H := Lib.hid (Stp.trans H.out hsA); replace B0 := Lib.hid (B0.out.keep hsA B0.out.lt); replace D1 := Lib.hid (D1.out.keep hsA D1.out.lt); replace D2 := Lib.hid (D2.out.keep hsA D2.out.lt); replace D3 := Lib.hid (D3.out.keep hsA D3.out.lt); replace D4 := Lib.hid (D4.out.keep hsA D4.out.lt); replace RD1 := Lib.hid (RD1.out.keep hsA); replace RD2 := Lib.hid (RD2.out.keep hsA); replace RD3 := Lib.hid (RD3.out.keep hsA); replace RD4 := Lib.hid (RD4.out.keep hsA); have D5 := Lib.hid (Blk.new w5 24 (dcs Aw5 n kw5 (-1) 0)); have RD5 := Lib.hid (hr.keep (Stp.alloc (Stp.refl w5) (.cells (dcs Aw5 n kw5 (-1) 0) 24))); clear q0 q1 q2; obtain ⟨⟨q0, q1, q2⟩, -, -, -⟩ := dd_all B0.out; clear aa0 aa1 aa2; obtain ⟨⟨aa0, aa1, aa2⟩, -, -, -⟩ := dd_all D1.out; clear ab0 ab1 ab2; obtain ⟨⟨ab0, ab1, ab2⟩, -, -, -⟩ := dd_all D2.out; clear ac0 ac1 ac2; obtain ⟨⟨ac0, ac1, ac2⟩, -, -, -⟩ := dd_all D3.out; clear ad0 ad1 ad2; obtain ⟨⟨ad0, ad1, ad2⟩, -, -, -⟩ := dd_all D4.out; obtain ⟨⟨ae0, ae1, ae2⟩, -, -, -⟩ := dd_all D5.out; clear hr hs hsA)
    | (go_at_call 23; (with_reducible refine (HI.out.new ts n Hn.out Hn9.out HTe.out ts (-1) 0 true n HV6.out Hn.out A k _ (Ha.out.keep H.out)).mono ?_); rintro e w6 ⟨Aw6, kw6, rfl, hr, hs, -⟩; have hsA := Stp.alloc hs (.cells (dcs Aw6 n kw6 (-1) 0) 24); replace H := Lib.hid (Stp.trans H.out hsA); replace B0 := Lib.hid (B0.out.keep hsA B0.out.lt); replace D1 := Lib.hid (D1.out.keep hsA D1.out.lt); replace D2 := Lib.hid (D2.out.keep hsA D2.out.lt); replace D3 := Lib.hid (D3.out.keep hsA D3.out.lt); replace D4 := Lib.hid (D4.out.keep hsA D4.out.lt); replace D5 := Lib.hid (D5.out.keep hsA D5.out.lt); replace RD1 := Lib.hid (RD1.out.keep hsA); replace RD2 := Lib.hid (RD2.out.keep hsA); replace RD3 := Lib.hid (RD3.out.keep hsA); replace RD4 := Lib.hid (RD4.out.keep hsA); replace RD5 := Lib.hid (RD5.out.keep hsA); have D6 := Lib.hid (Blk.new w6 24 (dcs Aw6 n kw6 (-1) 0)); have RD6 := Lib.hid (hr.keep (Stp.alloc (Stp.refl w6) (.cells (dcs Aw6 n kw6 (-1) 0) 24))); clear q0 q1 q2; obtain ⟨⟨q0, q1, q2⟩, -, -, -⟩ := dd_all B0.out; clear aa0 aa1 aa2; obtain ⟨⟨aa0, aa1, aa2⟩, -, -, -⟩ := dd_all D1.out; clear ab0 ab1 ab2; obtain ⟨⟨ab0, ab1, ab2⟩, -, -, -⟩ := dd_all D2.out; clear ac0 ac1 ac2; obtain ⟨⟨ac0, ac1, ac2⟩, -, -, -⟩ := dd_all D3.out; clear ad0 ad1 ad2; obtain ⟨⟨ad0, ad1, ad2⟩, -, -, -⟩ := dd_all D4.out; clear ae0 ae1 ae2; obtain ⟨⟨ae0, ae1, ae2⟩, -, -, -⟩ := dd_all D5.out; obtain ⟨⟨af0, af1, af2⟩, -, -, -⟩ := dd_all D6.out; clear hr hs hsA)
    | (go_at_call 28; (with_reducible refine (HI.out.same ts (-1) 0 n HU.out Hn.out ts (-1) 0 n HU.out Hn.out true (by simp) _ _ _ _ _ RD4.out RD6.out).mono ?_); rintro e wn ⟨rfl, hs⟩; replace H := Lib.hid (Stp.trans H.out hs); replace B0 := Lib.hid (B0.out.keep hs B0.out.lt); replace D1 := Lib.hid (D1.out.keep hs D1.out.lt); replace D2 := Lib.hid (D2.out.keep hs D2.out.lt); replace D3 := Lib.hid (D3.out.keep hs D3.out.lt); replace D4 := Lib.hid (D4.out.keep hs D4.out.lt); replace D5 := Lib.hid (D5.out.keep hs D5.out.lt); replace D6 := Lib.hid (D6.out.keep hs D6.out.lt); replace RD1 := Lib.hid (RD1.out.keep hs); replace RD2 := Lib.hid (RD2.out.keep hs); replace RD3 := Lib.hid (RD3.out.keep hs); replace RD4 := Lib.hid (RD4.out.keep hs); replace RD5 := Lib.hid (RD5.out.keep hs); replace RD6 := Lib.hid (RD6.out.keep hs); clear q0 q1 q2; obtain ⟨⟨q0, q1, q2⟩, -, -, -⟩ := dd_all B0.out; clear aa0 aa1 aa2; obtain ⟨⟨aa0, aa1, aa2⟩, -, -, -⟩ := dd_all D1.out; clear ab0 ab1 ab2; obtain ⟨⟨ab0, ab1, ab2⟩, -, -, -⟩ := dd_all D2.out; clear ac0 ac1 ac2; obtain ⟨⟨ac0, ac1, ac2⟩, -, -, -⟩ := dd_all D3.out; clear ad0 ad1 ad2; obtain ⟨⟨ad0, ad1, ad2⟩, -, -, -⟩ := dd_all D4.out; clear ae0 ae1 ae2; obtain ⟨⟨ae0, ae1, ae2⟩, -, -, -⟩ := dd_all D5.out; clear af0 af1 af2; obtain ⟨⟨af0, af1, af2⟩, -, -, -⟩ := dd_all D6.out; clear hs))
  all_goals go_ret
  all_goals exact ⟨rfl, H.out⟩
theorem mounts_walk (I : DriveI) (hAw : ∀ w : World, Calls Try.prog 9 #[] w fun e w' => e = .returned (.bool true) ∧ Stp w w') (d : Dr) (hs : SmallD d) (n : Nat) (hn : d.shelf.length = n) (A : Option Addr) (k : Nat) (w : World) (ha : RdS w A k d.shelf) (q : Int) (hq0 : -9223372036854775808 ≤ q) (hq1 : q < 9223372036854775808) (r : Int) (hr0 : -9223372036854775808 ≤ r) (hr1 : r < 9223372036854775808) :
    Calls Try.prog 7 #[dc A n k d.inn d.pos, .int .i64 q, .int .i64 r] w fun e w' => e = .returned (.bool true) ∧ Stp w w' := by
  obtain ⟨ts, i, p⟩ := d
  cases hF : fewDB ts
  · exact mounts_no I hAw ts i p n hs hn A k w ha q hq0 hq1 r hr0 hr1 hF
  · cases hM : mayD ⟨ts, i, p⟩
    · exact mounts_may I hAw ts i p n hs hn A k w ha q hq0 hq1 r hr0 hr1 hF hM
    · by_cases h : q < 0 ∨ (n : Int) ≤ q
      · exact mounts_out I hAw ts i p n hs hn A k w ha q hq0 hq1 r hr0 hr1 hF hM h
      · by_cases h2 : 0 ≤ r ∧ r < (n : Int)
        · exact mounts_in I hAw ts i p n hs hn A k w ha q hq0 hq1 r hr0 hr1 hF hM (by omega) h2
        · exact mounts_off I hAw ts i p n hs hn A k w ha q hq0 hq1 r hr0 hr1 hF hM (by omega) h2
end Go.Proofs.Ytaknnkcfoafkdaa.Drive
