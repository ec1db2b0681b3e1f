/-
  The law TapeCuts, walked over the contracts: no statement is proved here.
-/
import Derived.Test.YtphpeoalokaheaaTapeB
namespace Go.Proofs.Ytphpeoalokaheaa.Tape
open Go.RowKit Go.Proofs.Ytphpeoalokaheaa.Str Go.Proofs.Ytphpeoalokaheaa.Base Go.Proofs.Ytphpeoalokaheaa.BlockM Go.Proofs.Ytphpeoalokaheaa.RecM Go.Proofs.Ytphpeoalokaheaa.TapeM
set_option linter.unusedVariables false

set_option maxRecDepth 100000 in
set_option maxHeartbeats 2000000 in
theorem cuts_no (I : TapeI) (c : Int) (ls : List L) (m : Bool) (n : Nat) (hs : SmallT ⟨c, ls, m⟩) (hn : ls.length = n) (A : Option Addr) (k : Nat) (w : World) (ha : RdL w A k ls) (i j : Int) (hi0 : -9223372036854775808 ≤ i) (hi1 : i < 9223372036854775808) (hj0 : -9223372036854775808 ≤ j) (hj1 : j < 9223372036854775808) (hF : Rec.fewR ls = false) :
    Calls Try.prog 7 #[tc c A n k m, .int .i64 i, .int .i64 j] w fun e w' => e = .returned (.bool true) ∧ Stp w w' := by
  have HI := Lib.hid I
  have HS := Lib.hid hs
  have Ha := Lib.hid ha
  have Hn := Lib.hid hn
  have HL := Lib.hid hs.each
  have HN : Hid (n < 9223372036854775808) := Lib.hid (by rw [← hn]; exact hs.few)
  have H := Lib.hid (Stp.alloc (Stp.refl w) (.cells (tcs c A n k m) 24))
  have B0 := Lib.hid (Blk.new w 24 (tcs c A n k m))
  obtain ⟨⟨q0, q1, q2⟩, -, -, -⟩ := tt_all B0.out
  have b1 := hs.low
  have b2 := hs.high
  dsimp only at b1 b2
  have HF := Lib.hid hF
  clear hs hn ha hF
  go_enter Try.func7, Try.ntmps7
  go_wp2_with (first
    | (go_at_call 9; refine (awake_s HI.out _).mono ?_; rintro e wn ⟨rfl, hs⟩; replace H := Lib.hid (Stp.trans H.out hs); replace B0 := Lib.hid (B0.out.keep hs B0.out.lt); clear q0 q1 q2; obtain ⟨⟨q0, q1, q2⟩, -, -, -⟩ := tt_all B0.out; clear hs)
    | (go_at_call 10; (with_reducible refine (Rec.fewr_n ls n Hn.out _ _ _ (Ha.out.keep H.out) HN.out HL.out).mono ?_); rintro e wn ⟨rfl, hs⟩; rw [HF.out]; replace H := Lib.hid (Stp.trans H.out hs); replace B0 := Lib.hid (B0.out.keep hs B0.out.lt); clear q0 q1 q2; obtain ⟨⟨q0, q1, q2⟩, -, -, -⟩ := tt_all B0.out; clear hs))
  go_ret
  exact ⟨rfl, H.out⟩
set_option maxRecDepth 100000 in
set_option maxHeartbeats 2000000 in
theorem cuts_may (I : TapeI) (c : Int) (ls : List L) (m : Bool) (n : Nat) (hs : SmallT ⟨c, ls, m⟩) (hn : ls.length = n) (A : Option Addr) (k : Nat) (w : World) (ha : RdL w A k ls) (i j : Int) (hi0 : -9223372036854775808 ≤ i) (hi1 : i < 9223372036854775808) (hj0 : -9223372036854775808 ≤ j) (hj1 : j < 9223372036854775808) (hF : Rec.fewR ls = true) (hM : mayT ⟨c, ls, m⟩ = false) :
    Calls Try.prog 7 #[tc c A n k m, .int .i64 i, .int .i64 j] w fun e w' => e = .returned (.bool true) ∧ Stp w w' := by
  have HI := Lib.hid I
  have HS := Lib.hid hs
  have Ha := Lib.hid ha
  have Hn := Lib.hid hn
  have HL := Lib.hid hs.each
  have HN : Hid (n < 9223372036854775808) := Lib.hid (by rw [← hn]; exact hs.few)
  have H := Lib.hid (Stp.alloc (Stp.refl w) (.cells (tcs c A n k m) 24))
  have B0 := Lib.hid (Blk.new w 24 (tcs c A n k m))
  obtain ⟨⟨q0, q1, q2⟩, -, -, -⟩ := tt_all B0.out
  have b1 := hs.low
  have b2 := hs.high
  dsimp only at b1 b2
  have HF := Lib.hid hF
  have HM := Lib.hid hM
  have HT := Lib.hid (few_of hs hF)
  clear hs hn ha hF hM
  go_enter Try.func7, Try.ntmps7
  go_wp2_with (first
    | (go_at_call 9; refine (awake_s HI.out _).mono ?_; rintro e wn ⟨rfl, hs⟩; replace H := Lib.hid (Stp.trans H.out hs); replace B0 := Lib.hid (B0.out.keep hs B0.out.lt); clear q0 q1 q2; obtain ⟨⟨q0, q1, q2⟩, -, -, -⟩ := tt_all B0.out; clear hs)
    | (go_at_call 10; (with_reducible refine (Rec.fewr_n ls n Hn.out _ _ _ (Ha.out.keep H.out) HN.out HL.out).mono ?_); rintro e wn ⟨rfl, hs⟩; rw [HF.out]; replace H := Lib.hid (Stp.trans H.out hs); replace B0 := Lib.hid (B0.out.keep hs B0.out.lt); clear q0 q1 q2; obtain ⟨⟨q0, q1, q2⟩, -, -, -⟩ := tt_all B0.out; clear hs)
    | (go_at_call 11; (with_reducible refine (HI.out.may c ls m n HT.out Hn.out _ HM.out _ _ _ (Ha.out.keep H.out)).mono ?_); rintro e wn ⟨rfl, hs⟩; replace H := Lib.hid (Stp.trans H.out hs); replace B0 := Lib.hid (B0.out.keep hs B0.out.lt); clear q0 q1 q2; obtain ⟨⟨q0, q1, q2⟩, -, -, -⟩ := tt_all B0.out; clear hs))
  go_ret
  exact ⟨rfl, H.out⟩
set_option maxRecDepth 100000 in
set_option maxHeartbeats 2000000 in
theorem cuts_gt (I : TapeI) (c : Int) (ls : List L) (m : Bool) (n : Nat) (hs : SmallT ⟨c, ls, m⟩) (hn : ls.length = n) (A : Option Addr) (k : Nat) (w : World) (ha : RdL w A k ls) (i j : Int) (hi0 : -9223372036854775808 ≤ i) (hi1 : i < 9223372036854775808) (hj0 : -9223372036854775808 ≤ j) (hj1 : j < 9223372036854775808) (hF : Rec.fewR ls = true) (hM : mayT ⟨c, ls, m⟩ = true) (h : i < j) :
    Calls Try.prog 7 #[tc c A n k m, .int .i64 i, .int .i64 j] w fun e w' => e = .returned (.bool true) ∧ Stp w w' := by
  have HI := Lib.hid I
  have HS := Lib.hid hs
  have Ha := Lib.hid ha
  have Hn := Lib.hid hn
  have HL := Lib.hid hs.each
  have HN : Hid (n < 9223372036854775808) := Lib.hid (by rw [← hn]; exact hs.few)
  have H := Lib.hid (Stp.alloc (Stp.refl w) (.cells (tcs c A n k m) 24))
  have B0 := Lib.hid (Blk.new w 24 (tcs c A n k m))
  obtain ⟨⟨q0, q1, q2⟩, -, -, -⟩ := tt_all B0.out
  have b1 := hs.low
  have b2 := hs.high
  dsimp only at b1 b2
  have HF := Lib.hid hF
  have HM := Lib.hid hM
  have HT := Lib.hid (few_of hs hF)
  have g1 : decide (i < j) = true := decide_eq_true h
  clear hs hn ha hF hM h
  go_enter Try.func7, Try.ntmps7
  go_wp2_with (first
    | (go_at_call 9; refine (awake_s HI.out _).mono ?_; rintro e wn ⟨rfl, hs⟩; replace H := Lib.hid (Stp.trans H.out hs); replace B0 := Lib.hid (B0.out.keep hs B0.out.lt); clear q0 q1 q2; obtain ⟨⟨q0, q1, q2⟩, -, -, -⟩ := tt_all B0.out; clear hs)
    | (go_at_call 10; (with_reducible refine (Rec.fewr_n ls n Hn.out _ _ _ (Ha.out.keep H.out) HN.out HL.out).mono ?_); rintro e wn ⟨rfl, hs⟩; rw [HF.out]; replace H := Lib.hid (Stp.trans H.out hs); replace B0 := Lib.hid (B0.out.keep hs B0.out.lt); clear q0 q1 q2; obtain ⟨⟨q0, q1, q2⟩, -, -, -⟩ := tt_all B0.out; clear hs)
    | (go_at_call 11; (with_reducible refine (HI.out.may c ls m n HT.out Hn.out _ HM.out _ _ _ (Ha.out.keep H.out)).mono ?_); rintro e wn ⟨rfl, hs⟩; replace H := Lib.hid (Stp.trans H.out hs); replace B0 := Lib.hid (B0.out.keep hs B0.out.lt); clear q0 q1 q2; obtain ⟨⟨q0, q1, q2⟩, -, -, -⟩ := tt_all B0.out; clear hs))
  go_ret
  exact ⟨rfl, H.out⟩
set_option maxRecDepth 100000 in
set_option maxHeartbeats 4000000 in
theorem cuts_err (I : TapeI) (c : Int) (ls : List L) (m : Bool) (n : Nat) (hs : SmallT ⟨c, ls, m⟩) (hn : ls.length = n) (A : Option Addr) (k : Nat) (w : World) (ha : RdL w A k ls) (i j : Int) (hi0 : -9223372036854775808 ≤ i) (hi1 : i < 9223372036854775808) (hj0 : -9223372036854775808 ≤ j) (hj1 : j < 9223372036854775808) (hF : Rec.fewR ls = true) (hM : mayT ⟨c, ls, m⟩ = true) (h : ¬ i < j) (h1 : i < 0 ∨ (n : Int) < i) :
    Calls Try.prog 7 #[tc c A n k m, .int .i64 i, .int .i64 j] w fun e w' => e = .returned (.bool true) ∧ Stp w w' := by
  have HI := Lib.hid I
  have HS := Lib.hid hs
  have Ha := Lib.hid ha
  have Hn := Lib.hid hn
  have HL := Lib.hid hs.each
  have HN : Hid (n < 9223372036854775808) := Lib.hid (by rw [← hn]; exact hs.few)
  have H := Lib.hid (Stp.alloc (Stp.refl w) (.cells (tcs c A n k m) 24))
  have B0 := Lib.hid (Blk.new w 24 (tcs c A n k m))
  obtain ⟨⟨q0, q1, q2⟩, -, -, -⟩ := tt_all B0.out
  have b1 := hs.low
  have b2 := hs.high
  dsimp only at b1 b2
  have HF := Lib.hid hF
  have HM := Lib.hid hM
  have HT := Lib.hid (few_of hs hF)
  have g1 : decide (i < j) = false := decide_eq_false h
  have HX := Lib.hid (cutT_no hM (n := i) (by dsimp only; rw [hn]; exact h1))
  obtain ⟨⟨⟨c1, ls1, m1⟩, e1⟩, hy⟩ : ∃ y, cutT ⟨c, ls, m⟩ j = y := ⟨_, rfl⟩
  obtain ⟨n1, hn1⟩ : ∃ x, ls1.length = x := ⟨_, rfl⟩
  obtain ⟨ei, he1⟩ : ∃ x : Int, (e1 : Int) = x := ⟨_, rfl⟩
  have HY := Lib.hid hy
  have Hn1 := Lib.hid hn1
  have He1 := Lib.hid he1
  clear hs hn ha hF hM h h1 hy hn1 he1
  go_enter Try.func7, Try.ntmps7
  go_wp2_with (first
    | (go_at_call 9; refine (awake_s HI.out _).mono ?_; rintro e wn ⟨rfl, hs⟩; replace H := Lib.hid (Stp.trans H.out hs); replace B0 := Lib.hid (B0.out.keep hs B0.out.lt); clear q0 q1 q2; obtain ⟨⟨q0, q1, q2⟩, -, -, -⟩ := tt_all B0.out; clear hs)
    | (go_at_call 10; (with_reducible refine (Rec.fewr_n ls n Hn.out _ _ _ (Ha.out.keep H.out) HN.out HL.out).mono ?_); rintro e wn ⟨rfl, hs⟩; rw [HF.out]; replace H := Lib.hid (Stp.trans H.out hs); replace B0 := Lib.hid (B0.out.keep hs B0.out.lt); clear q0 q1 q2; obtain ⟨⟨q0, q1, q2⟩, -, -, -⟩ := tt_all B0.out; clear hs)
    | (go_at_call 11; (with_reducible refine (HI.out.may c ls m n HT.out Hn.out _ HM.out _ _ _ (Ha.out.keep H.out)).mono ?_); rintro e wn ⟨rfl, hs⟩; replace H := Lib.hid (Stp.trans H.out hs); replace B0 := Lib.hid (B0.out.keep hs B0.out.lt); clear q0 q1 q2; obtain ⟨⟨q0, q1, q2⟩, -, -, -⟩ := tt_all B0.out; clear hs)
    | (go_at_call 17; (with_reducible refine (HI.out.cut c ls m n HT.out Hn.out i hi0 hi1 c ls m n 9 HX.out Hn.out 9 rfl _ _ _ (Ha.out.keep H.out)).mono ?_); rintro e w5 ⟨Aw5, kw5, rfl, hr, hs, -⟩; have hsA := Stp.alloc hs (.cells (tcs c Aw5 n kw5 m) 24); replace H := Lib.hid (Stp.trans H.out hsA); replace B0 := Lib.hid (B0.out.keep hsA B0.out.lt); have B1 := Lib.hid (Blk.new w5 24 (tcs c Aw5 n kw5 m)); have RB1 := Lib.hid (hr.keep (Stp.alloc (Stp.refl w5) (.cells (tcs c Aw5 n kw5 m) 24))); clear q0 q1 q2; obtain ⟨⟨q0, q1, q2⟩, -, -, -⟩ := tt_all B0.out; obtain ⟨⟨r0, r1, r2⟩, -, -, -⟩ := tt_all B1.out; clear hr hs hsA)
    | (go_at_call 17; (with_reducible refine (HI.out.cut c ls m n HT.out Hn.out j hj0 hj1 c1 ls1 m1 n1 e1 HY.out Hn1.out ei He1.out _ _ _ RB1.out).mono ?_); rintro e w6 ⟨Aw6, kw6, rfl, hr, hs, -⟩; have hsA := Stp.alloc hs (.cells (tcs c1 Aw6 n1 kw6 m1) 24); replace H := Lib.hid (Stp.trans H.out hsA); replace B0 := Lib.hid (B0.out.keep hsA B0.out.lt); replace B1 := Lib.hid (B1.out.keep hsA B1.out.lt); replace RB1 := Lib.hid (RB1.out.keep hsA); have B2 := Lib.hid (Blk.new w6 24 (tcs c1 Aw6 n1 kw6 m1)); have RB2 := Lib.hid (hr.keep (Stp.alloc (Stp.refl w6) (.cells (tcs c1 Aw6 n1 kw6 m1) 24))); clear q0 q1 q2; obtain ⟨⟨q0, q1, q2⟩, -, -, -⟩ := tt_all B0.out; clear r0 r1 r2; obtain ⟨⟨r0, r1, r2⟩, -, -, -⟩ := tt_all B1.out; obtain ⟨⟨u0, u1, u2⟩, -, -, -⟩ := tt_all B2.out; clear hr hs hsA)
    | (go_at_call 17; (with_reducible refine (HI.out.cut c ls m n HT.out Hn.out j hj0 hj1 c1 ls1 m1 n1 e1 HY.out Hn1.out ei He1.out _ _ _ (Ha.out.keep H.out)).mono ?_); rintro e w7 ⟨Aw7, kw7, rfl, hr, hs, -⟩; have hsA := Stp.alloc hs (.cells (tcs c1 Aw7 n1 kw7 m1) 24); replace H := Lib.hid (Stp.trans H.out hsA); replace B0 := Lib.hid (B0.out.keep hsA B0.out.lt); replace B1 := Lib.hid (B1.out.keep hsA B1.out.lt); replace B2 := Lib.hid (B2.out.keep hsA B2.out.lt); replace RB1 := Lib.hid (RB1.out.keep hsA); replace RB2 := Lib.hid (RB2.out.keep hsA); have B3 := Lib.hid (Blk.new w7 24 (tcs c1 Aw7 n1 kw7 m1)); have RB3 := Lib.hid (hr.keep (Stp.alloc (Stp.refl w7) (.cells (tcs c1 Aw7 n1 kw7 m1) 24))); clear q0 q1 q2; obtain ⟨⟨q0, q1, q2⟩, -, -, -⟩ := tt_all B0.out; clear r0 r1 r2; obtain ⟨⟨r0, r1, r2⟩, -, -, -⟩ := tt_all B1.out; clear u0 u1 u2; obtain ⟨⟨u0, u1, u2⟩, -, -, -⟩ := tt_all B2.out; obtain ⟨⟨v0, v1, v2⟩, -, -, -⟩ := tt_all B3.out; clear hr hs hsA)
    | (go_at_call 13; (with_reducible refine (HI.out.same c ls m n HT.out Hn.out c ls m n HT.out Hn.out true (by simp) _ _ _ _ _ RB1.out (Ha.out.keep H.out)).mono ?_); rintro e wn ⟨rfl, hs⟩; replace H := Lib.hid (Stp.trans H.out hs); replace B0 := Lib.hid (B0.out.keep hs B0.out.lt); replace B1 := Lib.hid (B1.out.keep hs B1.out.lt); replace B2 := Lib.hid (B2.out.keep hs B2.out.lt); replace B3 := Lib.hid (B3.out.keep hs B3.out.lt); replace RB1 := Lib.hid (RB1.out.keep hs); replace RB2 := Lib.hid (RB2.out.keep hs); replace RB3 := Lib.hid (RB3.out.keep hs); clear q0 q1 q2; obtain ⟨⟨q0, q1, q2⟩, -, -, -⟩ := tt_all B0.out; clear r0 r1 r2; obtain ⟨⟨r0, r1, r2⟩, -, -, -⟩ := tt_all B1.out; clear u0 u1 u2; obtain ⟨⟨u0, u1, u2⟩, -, -, -⟩ := tt_all B2.out; clear v0 v1 v2; obtain ⟨⟨v0, v1, v2⟩, -, -, -⟩ := tt_all B3.out; clear hs))
  go_ret
  exact ⟨rfl, H.out⟩
set_option maxRecDepth 100000 in
set_option maxHeartbeats 4000000 in
theorem cuts_low (I : TapeI) (c : Int) (ls : List L) (m : Bool) (n : Nat) (hs : SmallT ⟨c, ls, m⟩) (hn : ls.length = n) (A : Option Addr) (k : Nat) (w : World) (ha : RdL w A k ls) (i j : Int) (hi0 : -9223372036854775808 ≤ i) (hi1 : i < 9223372036854775808) (hj0 : -9223372036854775808 ≤ j) (hj1 : j < 9223372036854775808) (hF : Rec.fewR ls = true) (hM : mayT ⟨c, ls, m⟩ = true) (h : ¬ i < j) (p : Nat) (hp : i = (p : Int)) (hpn : p ≤ n) (h1 : j < 0) :
    Calls Try.prog 7 #[tc c A n k m, .int .i64 i, .int .i64 j] w fun e w' => e = .returned (.bool true) ∧ Stp w w' := by
  have HI := Lib.hid I
  have HS := Lib.hid hs
  have Ha := Lib.hid ha
  have Hn := Lib.hid hn
  have HL := Lib.hid hs.each
  have HN : Hid (n < 9223372036854775808) := Lib.hid (by rw [← hn]; exact hs.few)
  have H := Lib.hid (Stp.alloc (Stp.refl w) (.cells (tcs c A n k m) 24))
  have B0 := Lib.hid (Blk.new w 24 (tcs c A n k m))
  obtain ⟨⟨q0, q1, q2⟩, -, -, -⟩ := tt_all B0.out
  have b1 := hs.low
  have b2 := hs.high
  dsimp only at b1 b2
  have HF := Lib.hid hF
  have HM := Lib.hid hM
  have HT := Lib.hid (few_of hs hF)
  have g1 : decide (i < j) = false := decide_eq_false h
  have hx : cutT ⟨c, ls, m⟩ i = (⟨c, ls.take p, false⟩, 0) := by
    rw [cutT_yes hM (by omega) (by dsimp only; omega), hp, Int.toNat_natCast]
  have HX := Lib.hid hx
  have HTp := Lib.hid (HT.out.cut p false)
  have Hp : Hid ((ls.take p).length = p) := Lib.hid (by rw [List.length_take]; omega)
  have HY := Lib.hid (cutT_no (mayT_take hM p false) (n := j) (.inl h1))
  have HZ := Lib.hid (cutT_no hM (n := j) (.inl h1))
  clear hs hn ha hF hM h h1 hx hp hpn
  go_enter Try.func7, Try.ntmps7
  go_wp2_with (first
    | (go_at_call 9; refine (awake_s HI.out _).mono ?_; rintro e wn ⟨rfl, hs⟩; replace H := Lib.hid (Stp.trans H.out hs); replace B0 := Lib.hid (B0.out.keep hs B0.out.lt); clear q0 q1 q2; obtain ⟨⟨q0, q1, q2⟩, -, -, -⟩ := tt_all B0.out; clear hs)
    | (go_at_call 10; (with_reducible refine (Rec.fewr_n ls n Hn.out _ _ _ (Ha.out.keep H.out) HN.out HL.out).mono ?_); rintro e wn ⟨rfl, hs⟩; rw [HF.out]; replace H := Lib.hid (Stp.trans H.out hs); replace B0 := Lib.hid (B0.out.keep hs B0.out.lt); clear q0 q1 q2; obtain ⟨⟨q0, q1, q2⟩, -, -, -⟩ := tt_all B0.out; clear hs)
    | (go_at_call 11; (with_reducible refine (HI.out.may c ls m n HT.out Hn.out _ HM.out _ _ _ (Ha.out.keep H.out)).mono ?_); rintro e wn ⟨rfl, hs⟩; replace H := Lib.hid (Stp.trans H.out hs); replace B0 := Lib.hid (B0.out.keep hs B0.out.lt); clear q0 q1 q2; obtain ⟨⟨q0, q1, q2⟩, -, -, -⟩ := tt_all B0.out; clear hs)
    | (go_at_call 17; (with_reducible refine (HI.out.cut c ls m n HT.out Hn.out i hi0 hi1 c (ls.take p) false p 0 HX.out Hp.out 0 rfl _ _ _ (Ha.out.keep H.out)).mono ?_); rintro e w5 ⟨Aw5, kw5, rfl, hr, hs, -⟩; have hsA := Stp.alloc hs (.cells (tcs c Aw5 p kw5 false) 24); replace H := Lib.hid (Stp.trans H.out hsA); replace B0 := Lib.hid (B0.out.keep hsA B0.out.lt); have B1 := Lib.hid (Blk.new w5 24 (tcs c Aw5 p kw5 false)); have RB1 := Lib.hid (hr.keep (Stp.alloc (Stp.refl w5) (.cells (tcs c Aw5 p kw5 false) 24))); clear q0 q1 q2; obtain ⟨⟨q0, q1, q2⟩, -, -, -⟩ := tt_all B0.out; obtain ⟨⟨r0, r1, r2⟩, -, -, -⟩ := tt_all B1.out; clear hr hs hsA)
    | (go_at_call 17; (with_reducible refine (HI.out.cut c (ls.take p) false p HTp.out Hp.out j hj0 hj1 c (ls.take p) false p 9 HY.out Hp.out 9 rfl _ _ _ RB1.out).mono ?_); rintro e w6 ⟨Aw6, kw6, rfl, hr, hs, -⟩; have hsA := Stp.alloc hs (.cells (tcs c Aw6 p kw6 false) 24); replace H := Lib.hid (Stp.trans H.out hsA); replace B0 := Lib.hid (B0.out.keep hsA B0.out.lt); replace B1 := Lib.hid (B1.out.keep hsA B1.out.lt); replace RB1 := Lib.hid (RB1.out.keep hsA); have B2 := Lib.hid (Blk.new w6 24 (tcs c Aw6 p kw6 false)); have RB2 := Lib.hid (hr.keep (Stp.alloc (Stp.refl w6) (.cells (tcs c Aw6 p kw6 false) 24))); clear q0 q1 q2; obtain ⟨⟨q0, q1, q2⟩, -, -, -⟩ := tt_all B0.out; clear r0 r1 r2; obtain ⟨⟨r0, r1, r2⟩, -, -, -⟩ := tt_all B1.out; obtain ⟨⟨u0, u1, u2⟩, -, -, -⟩ := tt_all B2.out; clear hr hs hsA)
    | (go_at_call 17; (with_reducible refine (HI.out.cut c ls m n HT.out Hn.out j hj0 hj1 c ls m n 9 HZ.out Hn.out 9 rfl _ _ _ (Ha.out.keep H.out)).mono ?_); rintro e w7 ⟨Aw7, kw7, rfl, hr, hs, -⟩; have hsA := Stp.alloc hs (.cells (tcs c Aw7 n kw7 m) 24); replace H := Lib.hid (Stp.trans H.out hsA); replace B0 := Lib.hid (B0.out.keep hsA B0.out.lt); replace B1 := Lib.hid (B1.out.keep hsA B1.out.lt); replace B2 := Lib.hid (B2.out.keep hsA B2.out.lt); replace RB1 := Lib.hid (RB1.out.keep hsA); replace RB2 := Lib.hid (RB2.out.keep hsA); have B3 := Lib.hid (Blk.new w7 24 (tcs c Aw7 n kw7 m)); have RB3 := Lib.hid (hr.keep (Stp.alloc (Stp.refl w7) (.cells (tcs c Aw7 n kw7 m) 24))); clear q0 q1 q2; obtain ⟨⟨q0, q1, q2⟩, -, -, -⟩ := tt_all B0.out; clear r0 r1 r2; obtain ⟨⟨r0, r1, r2⟩, -, -, -⟩ := tt_all B1.out; clear u0 u1 u2; obtain ⟨⟨u0, u1, u2⟩, -, -, -⟩ := tt_all B2.out; obtain ⟨⟨v0, v1, v2⟩, -, -, -⟩ := tt_all B3.out; clear hr hs hsA))
  go_ret
  exact ⟨rfl, H.out⟩
set_option maxRecDepth 100000 in
set_option maxHeartbeats 4000000 in
theorem cuts_all (I : TapeI) (c : Int) (ls : List L) (m : Bool) (n : Nat) (hs : SmallT ⟨c, ls, m⟩) (hn : ls.length = n) (A : Option Addr) (k : Nat) (w : World) (ha : RdL w A k ls) (i j : Int) (hi0 : -9223372036854775808 ≤ i) (hi1 : i < 9223372036854775808) (hj0 : -9223372036854775808 ≤ j) (hj1 : j < 9223372036854775808) (hF : Rec.fewR ls = true) (hM : mayT ⟨c, ls, m⟩ = true) (h : ¬ i < j) (p : Nat) (hp : i = (p : Int)) (hpn : p ≤ n) (q : Nat) (hq : j = (q : Int)) :
    Calls Try.prog 7 #[tc c A n k m, .int .i64 i, .int .i64 j] w fun e w' => e = .returned (.bool true) ∧ Stp w w' := by
  have HI := Lib.hid I
  have HS := Lib.hid hs
  have Ha := Lib.hid ha
  have Hn := Lib.hid hn
  have HL := Lib.hid hs.each
  have HN : Hid (n < 9223372036854775808) := Lib.hid (by rw [← hn]; exact hs.few)
  have H := Lib.hid (Stp.alloc (Stp.refl w) (.cells (tcs c A n k m) 24))
  have B0 := Lib.hid (Blk.new w 24 (tcs c A n k m))
  obtain ⟨⟨q0, q1, q2⟩, -, -, -⟩ := tt_all B0.out
  have b1 := hs.low
  have b2 := hs.high
  dsimp only at b1 b2
  have HF := Lib.hid hF
  have HM := Lib.hid hM
  have HT := Lib.hid (few_of hs hF)
  have g1 : decide (i < j) = false := decide_eq_false h
  have hqp : q ≤ p := by omega
  have hx : cutT ⟨c, ls, m⟩ i = (⟨c, ls.take p, false⟩, 0) := by
    rw [cutT_yes hM (by omega) (by dsimp only; omega), hp, Int.toNat_natCast]
  have hz : cutT ⟨c, ls, m⟩ j = (⟨c, ls.take q, false⟩, 0) := by
    rw [cutT_yes hM (by omega) (by dsimp only; omega), hq, Int.toNat_natCast]
  have hy : cutT ⟨c, ls.take p, false⟩ j = (⟨c, ls.take q, false⟩, 0) := by
    rw [cutT_yes (mayT_take hM p false) (by omega) (by dsimp only; rw [List.length_take]; omega), hq, Int.toNat_natCast]
    dsimp only
    rw [List.take_take, Nat.min_eq_left hqp]
  have HX := Lib.hid hx
  have HY := Lib.hid hy
  have HZ := Lib.hid hz
  have HTp := Lib.hid (HT.out.cut p false)
  have HTq := Lib.hid (HT.out.cut q false)
  have HMq := Lib.hid (mayT_take hM q false)
  have Hp : Hid ((ls.take p).length = p) := Lib.hid (by rw [List.length_take]; omega)
  have Hq : Hid ((ls.take q).length = q) := Lib.hid (by rw [List.length_take]; omega)
  have g2 : ((q : Int) == j) = true := by rw [hq]; simp
  clear hs hn ha hF hM h hx hy hz hp hpn hq hqp
  go_enter Try.func7, Try.ntmps7
  go_wp2_with (first
    | (go_at_call 9; refine (awake_s HI.out _).mono ?_; rintro e wn ⟨rfl, hs⟩; replace H := Lib.hid (Stp.trans H.out hs); replace B0 := Lib.hid (B0.out.keep hs B0.out.lt); clear q0 q1 q2; obtain ⟨⟨q0, q1, q2⟩, -, -, -⟩ := tt_all B0.out; clear hs)
    | (go_at_call 10; (with_reducible refine (Rec.fewr_n ls n Hn.out _ _ _ (Ha.out.keep H.out) HN.out HL.out).mono ?_); rintro e wn ⟨rfl, hs⟩; rw [HF.out]; replace H := Lib.hid (Stp.trans H.out hs); replace B0 := Lib.hid (B0.out.keep hs B0.out.lt); clear q0 q1 q2; obtain ⟨⟨q0, q1, q2⟩, -, -, -⟩ := tt_all B0.out; clear hs)
    | (go_at_call 11; (with_reducible refine (HI.out.may c ls m n HT.out Hn.out _ HM.out _ _ _ (Ha.out.keep H.out)).mono ?_); rintro e wn ⟨rfl, hs⟩; replace H := Lib.hid (Stp.trans H.out hs); replace B0 := Lib.hid (B0.out.keep hs B0.out.lt); clear q0 q1 q2; obtain ⟨⟨q0, q1, q2⟩, -, -, -⟩ := tt_all B0.out; clear hs)
    | (go_at_call 17; (with_reducible refine (HI.out.cut c ls m n HT.out Hn.out i hi0 hi1 c (ls.take p) false p 0 HX.out Hp.out 0 rfl _ _ _ (Ha.out.keep H.out)).mono ?_); rintro e w5 ⟨Aw5, kw5, rfl, hr, hs, -⟩; have hsA := Stp.alloc hs (.cells (tcs c Aw5 p kw5 false) 24); replace H := Lib.hid (Stp.trans H.out hsA); replace B0 := Lib.hid (B0.out.keep hsA B0.out.lt); have B1 := Lib.hid (Blk.new w5 24 (tcs c Aw5 p kw5 false)); have RB1 := Lib.hid (hr.keep (Stp.alloc (Stp.refl w5) (.cells (tcs c Aw5 p kw5 false) 24))); clear q0 q1 q2; obtain ⟨⟨q0, q1, q2⟩, -, -, -⟩ := tt_all B0.out; obtain ⟨⟨r0, r1, r2⟩, -, -, -⟩ := tt_all B1.out; clear hr hs hsA)
    | (go_at_call 17; (with_reducible refine (HI.out.cut c (ls.take p) false p HTp.out Hp.out j hj0 hj1 c (ls.take q) false q 0 HY.out Hq.out 0 rfl _ _ _ RB1.out).mono ?_); rintro e w6 ⟨Aw6, kw6, rfl, hr, hs, -⟩; have hsA := Stp.alloc hs (.cells (tcs c Aw6 q kw6 false) 24); replace H := Lib.hid (Stp.trans H.out hsA); replace B0 := Lib.hid (B0.out.keep hsA B0.out.lt); replace B1 := Lib.hid (B1.out.keep hsA B1.out.lt); replace RB1 := Lib.hid (RB1.out.keep hsA); have B2 := Lib.hid (Blk.new w6 24 (tcs c Aw6 q kw6 false)); have RB2 := Lib.hid (hr.keep (Stp.alloc (Stp.refl w6) (.cells (tcs c Aw6 q kw6 false) 24))); clear q0 q1 q2; obtain ⟨⟨q0, q1, q2⟩, -, -, -⟩ := tt_all B0.out; clear r0 r1 r2; obtain ⟨⟨r0, r1, r2⟩, -, -, -⟩ := tt_all B1.out; obtain ⟨⟨u0, u1, u2⟩, -, -, -⟩ := tt_all B2.out; clear hr hs hsA)
    | (go_at_call 17; (with_reducible refine (HI.out.cut c ls m n HT.out Hn.out j hj0 hj1 c (ls.take q) false q 0 HZ.out Hq.out 0 rfl _ _ _ (Ha.out.keep H.out)).mono ?_); rintro e w7 ⟨Aw7, kw7, rfl, hr, hs, -⟩; have hsA := Stp.alloc hs (.cells (tcs c Aw7 q kw7 false) 24); replace H := Lib.hid (Stp.trans H.out hsA); replace B0 := Lib.hid (B0.out.keep hsA B0.out.lt); replace B1 := Lib.hid (B1.out.keep hsA B1.out.lt); replace B2 := Lib.hid (B2.out.keep hsA B2.out.lt); replace RB1 := Lib.hid (RB1.out.keep hsA); replace RB2 := Lib.hid (RB2.out.keep hsA); have B3 := Lib.hid (Blk.new w7 24 (tcs c Aw7 q kw7 false)); have RB3 := Lib.hid (hr.keep (Stp.alloc (Stp.refl w7) (.cells (tcs c Aw7 q kw7 false) 24))); clear q0 q1 q2; obtain ⟨⟨q0, q1, q2⟩, -, -, -⟩ := tt_all B0.out; clear r0 r1 r2; obtain ⟨⟨r0, r1, r2⟩, -, -, -⟩ := tt_all B1.out; clear u0 u1 u2; obtain ⟨⟨u0, u1, u2⟩, -, -, -⟩ := tt_all B2.out; obtain ⟨⟨v0, v1, v2⟩, -, -, -⟩ := tt_all B3.out; clear hr hs hsA)
    | (go_at_call 13; (with_reducible refine (HI.out.same c (ls.take q) false q HTq.out Hq.out c (ls.take q) false q HTq.out Hq.out true (by simp) _ _ _ _ _ RB2.out RB3.out).mono ?_); rintro e wn ⟨rfl, hs⟩; replace H := Lib.hid (Stp.trans H.out hs); replace B0 := Lib.hid (B0.out.keep hs B0.out.lt); replace B1 := Lib.hid (B1.out.keep hs B1.out.lt); replace B2 := Lib.hid (B2.out.keep hs B2.out.lt); replace B3 := Lib.hid (B3.out.keep hs B3.out.lt); replace RB1 := Lib.hid (RB1.out.keep hs); replace RB2 := Lib.hid (RB2.out.keep hs); replace RB3 := Lib.hid (RB3.out.keep hs); clear q0 q1 q2; obtain ⟨⟨q0, q1, q2⟩, -, -, -⟩ := tt_all B0.out; clear r0 r1 r2; obtain ⟨⟨r0, r1, r2⟩, -, -, -⟩ := tt_all B1.out; clear u0 u1 u2; obtain ⟨⟨u0, u1, u2⟩, -, -, -⟩ := tt_all B2.out; clear v0 v1 v2; obtain ⟨⟨v0, v1, v2⟩, -, -, -⟩ := tt_all B3.out; clear hs)
    | (go_at_call 11; (with_reducible refine (HI.out.may c (ls.take q) false q HTq.out Hq.out _ HMq.out _ _ _ RB2.out).mono ?_); rintro e wn ⟨rfl, hs⟩; replace H := Lib.hid (Stp.trans H.out hs); replace B0 := Lib.hid (B0.out.keep hs B0.out.lt); replace B1 := Lib.hid (B1.out.keep hs B1.out.lt); replace B2 := Lib.hid (B2.out.keep hs B2.out.lt); replace B3 := Lib.hid (B3.out.keep hs B3.out.lt); replace RB1 := Lib.hid (RB1.out.keep hs); replace RB2 := Lib.hid (RB2.out.keep hs); replace RB3 := Lib.hid (RB3.out.keep hs); clear q0 q1 q2; obtain ⟨⟨q0, q1, q2⟩, -, -, -⟩ := tt_all B0.out; clear r0 r1 r2; obtain ⟨⟨r0, r1, r2⟩, -, -, -⟩ := tt_all B1.out; clear u0 u1 u2; obtain ⟨⟨u0, u1, u2⟩, -, -, -⟩ := tt_all B2.out; clear v0 v1 v2; obtain ⟨⟨v0, v1, v2⟩, -, -, -⟩ := tt_all B3.out; clear hs))
  go_ret
  exact ⟨rfl, H.out⟩

theorem cuts_walk (I : TapeI) (t : Tp) (A : Option Addr) (k : Nat) (w : World) (ha : RdL w A k t.rows) (hs : SmallT t) (i j : Int) (hi0 : -9223372036854775808 ≤ i) (hi1 : i < 9223372036854775808) (hj0 : -9223372036854775808 ≤ j) (hj1 : j < 9223372036854775808) :
    Calls Try.prog 7 #[tv t A k, .int .i64 i, .int .i64 j] w fun e w' => e = .returned (.bool true) ∧ Stp w w' := by
  obtain ⟨c, ls, m⟩ := t
  cases hF : Rec.fewR ls
  · exact cuts_no I c ls m _ hs rfl A k w ha i j hi0 hi1 hj0 hj1 hF
  · cases hM : mayT ⟨c, ls, m⟩
    · exact cuts_may I c ls m _ hs rfl A k w ha i j hi0 hi1 hj0 hj1 hF hM
    · by_cases h : i < j
      · exact cuts_gt I c ls m _ hs rfl A k w ha i j hi0 hi1 hj0 hj1 hF hM h
      · by_cases h1 : i < 0 ∨ (ls.length : Int) < i
        · exact cuts_err I c ls m _ hs rfl A k w ha i j hi0 hi1 hj0 hj1 hF hM h h1
        · by_cases h2 : j < 0
          · exact cuts_low I c ls m _ hs rfl A k w ha i j hi0 hi1 hj0 hj1 hF hM h i.toNat (by omega) (by omega) h2
          · exact cuts_all I c ls m _ hs rfl A k w ha i j hi0 hi1 hj0 hj1 hF hM h i.toNat (by omega) (by omega) j.toNat (by omega)
end Go.Proofs.Ytphpeoalokaheaa.Tape
