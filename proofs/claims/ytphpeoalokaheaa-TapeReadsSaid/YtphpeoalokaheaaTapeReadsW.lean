/-
  The law TapeReads, walked over the contracts: no statement is proved here.
-/
import Derived.Test.YtphpeoalokaheaaTapeB
namespace Go.Proofs.Ytphpeoalokaheaa.Tape
open Go.RowKit Go.Proofs.Ytphpeoalokaheaa.Str Go.Proofs.Ytphpeoalokaheaa.Base Go.Proofs.Ytphpeoalokaheaa.BlockM Go.Proofs.Ytphpeoalokaheaa.RecM Go.Proofs.Ytphpeoalokaheaa.TapeM
set_option linter.unusedVariables false

set_option maxRecDepth 100000 in
set_option maxHeartbeats 2000000 in
theorem reads_no (I : TapeI) (c : Int) (ls : List L) (m : Bool) (n : Nat) (hs : SmallT ⟨c, ls, m⟩) (hn : ls.length = n) (A : Option Addr) (k : Nat) (w : World) (ha : RdL w A k ls) (i : Int) (hF : Rec.fewR ls = false) :
    Calls Try.prog 6 #[tc c A n k m, .int .i64 i] w fun e w' => e = .returned (.bool true) ∧ Stp w w' := by
  have HI := Lib.hid I
  have HS := Lib.hid hs
  have Ha := Lib.hid ha
  have Hn := Lib.hid hn
  have HL := Lib.hid hs.each
  have HN : Hid (n < 9223372036854775808) := Lib.hid (by rw [← hn]; exact hs.few)
  have H := Lib.hid (Stp.alloc (Stp.refl w) (.cells (tcs c A n k m) 24))
  have B0 := Lib.hid (Blk.new w 24 (tcs c A n k m))
  obtain ⟨⟨q0, q1, q2⟩, -, -, -⟩ := tt_all B0.out
  have b1 := hs.low
  have b2 := hs.high
  dsimp only at b1 b2
  have HF := Lib.hid hF
  clear hs hn ha hF
  go_enter Try.func6, Try.ntmps6
  go_wp2_with (first
    | (go_at_call 9; refine (awake_s HI.out _).mono ?_; rintro e wn ⟨rfl, hs⟩; replace H := Lib.hid (Stp.trans H.out hs); replace B0 := Lib.hid (B0.out.keep hs B0.out.lt); clear q0 q1 q2; obtain ⟨⟨q0, q1, q2⟩, -, -, -⟩ := tt_all B0.out; clear hs)
    | (go_at_call 10; (with_reducible refine (Rec.fewr_n ls n Hn.out _ _ _ (Ha.out.keep H.out) HN.out HL.out).mono ?_); rintro e wn ⟨rfl, hs⟩; rw [HF.out]; replace H := Lib.hid (Stp.trans H.out hs); replace B0 := Lib.hid (B0.out.keep hs B0.out.lt); clear q0 q1 q2; obtain ⟨⟨q0, q1, q2⟩, -, -, -⟩ := tt_all B0.out; clear hs))
  go_ret
  exact ⟨rfl, H.out⟩
set_option maxRecDepth 100000 in
set_option maxHeartbeats 2000000 in
theorem reads_may (I : TapeI) (c : Int) (ls : List L) (m : Bool) (n : Nat) (hs : SmallT ⟨c, ls, m⟩) (hn : ls.length = n) (A : Option Addr) (k : Nat) (w : World) (ha : RdL w A k ls) (i : Int) (hF : Rec.fewR ls = true) (hM : mayT ⟨c, ls, m⟩ = false) :
    Calls Try.prog 6 #[tc c A n k m, .int .i64 i] w fun e w' => e = .returned (.bool true) ∧ Stp w w' := by
  have HI := Lib.hid I
  have HS := Lib.hid hs
  have Ha := Lib.hid ha
  have Hn := Lib.hid hn
  have HL := Lib.hid hs.each
  have HN : Hid (n < 9223372036854775808) := Lib.hid (by rw [← hn]; exact hs.few)
  have H := Lib.hid (Stp.alloc (Stp.refl w) (.cells (tcs c A n k m) 24))
  have B0 := Lib.hid (Blk.new w 24 (tcs c A n k m))
  obtain ⟨⟨q0, q1, q2⟩, -, -, -⟩ := tt_all B0.out
  have b1 := hs.low
  have b2 := hs.high
  dsimp only at b1 b2
  have HF := Lib.hid hF
  have HM := Lib.hid hM
  have HT := Lib.hid (few_of hs hF)
  clear hs hn ha hF hM
  go_enter Try.func6, Try.ntmps6
  go_wp2_with (first
    | (go_at_call 9; refine (awake_s HI.out _).mono ?_; rintro e wn ⟨rfl, hs⟩; replace H := Lib.hid (Stp.trans H.out hs); replace B0 := Lib.hid (B0.out.keep hs B0.out.lt); clear q0 q1 q2; obtain ⟨⟨q0, q1, q2⟩, -, -, -⟩ := tt_all B0.out; clear hs)
    | (go_at_call 10; (with_reducible refine (Rec.fewr_n ls n Hn.out _ _ _ (Ha.out.keep H.out) HN.out HL.out).mono ?_); rintro e wn ⟨rfl, hs⟩; rw [HF.out]; replace H := Lib.hid (Stp.trans H.out hs); replace B0 := Lib.hid (B0.out.keep hs B0.out.lt); clear q0 q1 q2; obtain ⟨⟨q0, q1, q2⟩, -, -, -⟩ := tt_all B0.out; clear hs)
    | (go_at_call 11; (with_reducible refine (HI.out.may c ls m n HT.out Hn.out _ HM.out _ _ _ (Ha.out.keep H.out)).mono ?_); rintro e wn ⟨rfl, hs⟩; replace H := Lib.hid (Stp.trans H.out hs); replace B0 := Lib.hid (B0.out.keep hs B0.out.lt); clear q0 q1 q2; obtain ⟨⟨q0, q1, q2⟩, -, -, -⟩ := tt_all B0.out; clear hs))
  go_ret
  exact ⟨rfl, H.out⟩
set_option maxRecDepth 100000 in
set_option maxHeartbeats 2000000 in
theorem reads_low (I : TapeI) (c : Int) (ls : List L) (m : Bool) (n : Nat) (hs : SmallT ⟨c, ls, m⟩) (hn : ls.length = n) (A : Option Addr) (k : Nat) (w : World) (ha : RdL w A k ls) (i : Int) (hi0 : -9223372036854775808 ≤ i) (hi1 : i < 9223372036854775808) (hF : Rec.fewR ls = true) (hM : mayT ⟨c, ls, m⟩ = true) (h : i < 0) :
    Calls Try.prog 6 #[tc c A n k m, .int .i64 i] w fun e w' => e = .returned (.bool true) ∧ Stp w w' := by
  have HI := Lib.hid I
  have HS := Lib.hid hs
  have Ha := Lib.hid ha
  have Hn := Lib.hid hn
  have HL := Lib.hid hs.each
  have HN : Hid (n < 9223372036854775808) := Lib.hid (by rw [← hn]; exact hs.few)
  have H := Lib.hid (Stp.alloc (Stp.refl w) (.cells (tcs c A n k m) 24))
  have B0 := Lib.hid (Blk.new w 24 (tcs c A n k m))
  obtain ⟨⟨q0, q1, q2⟩, -, -, -⟩ := tt_all B0.out
  have b1 := hs.low
  have b2 := hs.high
  dsimp only at b1 b2
  have HF := Lib.hid hF
  have HM := Lib.hid hM
  have HT := Lib.hid (few_of hs hF)
  have g1 : decide (i < 0) = true := decide_eq_true h
  have HV := Lib.hid (readV_no hM h)
  clear hs hn ha hF hM h
  go_enter Try.func6, Try.ntmps6
  go_wp2_with (first
    | (go_at_call 9; refine (awake_s HI.out _).mono ?_; rintro e wn ⟨rfl, hs⟩; replace H := Lib.hid (Stp.trans H.out hs); replace B0 := Lib.hid (B0.out.keep hs B0.out.lt); clear q0 q1 q2; obtain ⟨⟨q0, q1, q2⟩, -, -, -⟩ := tt_all B0.out; clear hs)
    | (go_at_call 10; (with_reducible refine (Rec.fewr_n ls n Hn.out _ _ _ (Ha.out.keep H.out) HN.out HL.out).mono ?_); rintro e wn ⟨rfl, hs⟩; rw [HF.out]; replace H := Lib.hid (Stp.trans H.out hs); replace B0 := Lib.hid (B0.out.keep hs B0.out.lt); clear q0 q1 q2; obtain ⟨⟨q0, q1, q2⟩, -, -, -⟩ := tt_all B0.out; clear hs)
    | (go_at_call 11; (with_reducible refine (HI.out.may c ls m n HT.out Hn.out _ HM.out _ _ _ (Ha.out.keep H.out)).mono ?_); rintro e wn ⟨rfl, hs⟩; replace H := Lib.hid (Stp.trans H.out hs); replace B0 := Lib.hid (B0.out.keep hs B0.out.lt); clear q0 q1 q2; obtain ⟨⟨q0, q1, q2⟩, -, -, -⟩ := tt_all B0.out; clear hs)
    | (go_at_call 14; (with_reducible refine (HI.out.read c ls m n HT.out Hn.out i hi0 hi1 [] 0 9 HV.out rfl 9 rfl _ _ _ (Ha.out.keep H.out)).mono ?_); rintro e wn ⟨Br, dr, rfl, hr, hs, -⟩; have RR := Lib.hid hr; replace H := Lib.hid (Stp.trans H.out hs); replace B0 := Lib.hid (B0.out.keep hs B0.out.lt); clear q0 q1 q2; obtain ⟨⟨q0, q1, q2⟩, -, -, -⟩ := tt_all B0.out; clear hs hr))
  go_ret
  exact ⟨rfl, H.out⟩
set_option maxRecDepth 100000 in
set_option maxHeartbeats 2000000 in
theorem reads_end (I : TapeI) (c : Int) (ls : List L) (m : Bool) (n : Nat) (hs : SmallT ⟨c, ls, m⟩) (hn : ls.length = n) (A : Option Addr) (k : Nat) (w : World) (ha : RdL w A k ls) (i : Int) (hi0 : -9223372036854775808 ≤ i) (hi1 : i < 9223372036854775808) (hF : Rec.fewR ls = true) (hM : mayT ⟨c, ls, m⟩ = true) (h0 : 0 ≤ i) (h : (n : Int) ≤ i) :
    Calls Try.prog 6 #[tc c A n k m, .int .i64 i] w fun e w' => e = .returned (.bool true) ∧ Stp w w' := by
  have HI := Lib.hid I
  have HS := Lib.hid hs
  have Ha := Lib.hid ha
  have Hn := Lib.hid hn
  have HL := Lib.hid hs.each
  have HN : Hid (n < 9223372036854775808) := Lib.hid (by rw [← hn]; exact hs.few)
  have H := Lib.hid (Stp.alloc (Stp.refl w) (.cells (tcs c A n k m) 24))
  have B0 := Lib.hid (Blk.new w 24 (tcs c A n k m))
  obtain ⟨⟨q0, q1, q2⟩, -, -, -⟩ := tt_all B0.out
  have b1 := hs.low
  have b2 := hs.high
  dsimp only at b1 b2
  have HF := Lib.hid hF
  have HM := Lib.hid hM
  have HT := Lib.hid (few_of hs hF)
  have g1 : decide (i < 0) = false := decide_eq_false (by omega)
  have g2 : decide ((n : Int) ≤ i) = true := decide_eq_true h
  have HV := Lib.hid (readV_end hM h0 (by dsimp only; rw [hn]; exact h))
  clear hs hn ha hF hM h
  go_enter Try.func6, Try.ntmps6
  go_wp2_with (first
    | (go_at_call 9; refine (awake_s HI.out _).mono ?_; rintro e wn ⟨rfl, hs⟩; replace H := Lib.hid (Stp.trans H.out hs); replace B0 := Lib.hid (B0.out.keep hs B0.out.lt); clear q0 q1 q2; obtain ⟨⟨q0, q1, q2⟩, -, -, -⟩ := tt_all B0.out; clear hs)
    | (go_at_call 10; (with_reducible refine (Rec.fewr_n ls n Hn.out _ _ _ (Ha.out.keep H.out) HN.out HL.out).mono ?_); rintro e wn ⟨rfl, hs⟩; rw [HF.out]; replace H := Lib.hid (Stp.trans H.out hs); replace B0 := Lib.hid (B0.out.keep hs B0.out.lt); clear q0 q1 q2; obtain ⟨⟨q0, q1, q2⟩, -, -, -⟩ := tt_all B0.out; clear hs)
    | (go_at_call 11; (with_reducible refine (HI.out.may c ls m n HT.out Hn.out _ HM.out _ _ _ (Ha.out.keep H.out)).mono ?_); rintro e wn ⟨rfl, hs⟩; replace H := Lib.hid (Stp.trans H.out hs); replace B0 := Lib.hid (B0.out.keep hs B0.out.lt); clear q0 q1 q2; obtain ⟨⟨q0, q1, q2⟩, -, -, -⟩ := tt_all B0.out; clear hs)
    | (go_at_call 14; (with_reducible refine (HI.out.read c ls m n HT.out Hn.out i hi0 hi1 [] 0 8 HV.out rfl 8 rfl _ _ _ (Ha.out.keep H.out)).mono ?_); rintro e wn ⟨Br, dr, rfl, hr, hs, -⟩; have RR := Lib.hid hr; replace H := Lib.hid (Stp.trans H.out hs); replace B0 := Lib.hid (B0.out.keep hs B0.out.lt); clear q0 q1 q2; obtain ⟨⟨q0, q1, q2⟩, -, -, -⟩ := tt_all B0.out; clear hs hr))
  go_ret
  exact ⟨rfl, H.out⟩
set_option maxRecDepth 100000 in
set_option maxHeartbeats 2000000 in
theorem reads_in (I : TapeI) (c : Int) (ls : List L) (m : Bool) (n : Nat) (hs : SmallT ⟨c, ls, m⟩) (hn : ls.length = n) (A : Option Addr) (k : Nat) (w : World) (ha : RdL w A k ls) (i : Int) (hi0 : -9223372036854775808 ≤ i) (hi1 : i < 9223372036854775808) (hF : Rec.fewR ls = true) (hM : mayT ⟨c, ls, m⟩ = true) (h0 : 0 ≤ i) (h : i < (n : Int)) :
    Calls Try.prog 6 #[tc c A n k m, .int .i64 i] w fun e w' => e = .returned (.bool true) ∧ Stp w w' := by
  have HI := Lib.hid I
  have HS := Lib.hid hs
  have Ha := Lib.hid ha
  have Hn := Lib.hid hn
  have HL := Lib.hid hs.each
  have HN : Hid (n < 9223372036854775808) := Lib.hid (by rw [← hn]; exact hs.few)
  have H := Lib.hid (Stp.alloc (Stp.refl w) (.cells (tcs c A n k m) 24))
  have B0 := Lib.hid (Blk.new w 24 (tcs c A n k m))
  obtain ⟨⟨q0, q1, q2⟩, -, -, -⟩ := tt_all B0.out
  have b1 := hs.low
  have b2 := hs.high
  dsimp only at b1 b2
  have HF := Lib.hid hF
  have HM := Lib.hid hM
  have HT := Lib.hid (few_of hs hF)
  have g1 : decide (i < 0) = false := decide_eq_false (by omega)
  have g2 : decide ((n : Int) ≤ i) = false := decide_eq_false (by omega)
  obtain ⟨r, hr⟩ : ∃ r, ls[i.toNat]? = some r := ⟨_, List.getElem?_eq_getElem (by omega)⟩
  have hv : readV ⟨c, ls, m⟩ i = (r, 0) := by
    rw [readV_yes hM h0 (by dsimp only; rw [hn]; exact h)]
    dsimp only
    rw [List.getD_eq_getElem?_getD, hr]
    rfl
  have HV := Lib.hid hv
  have Hr := Lib.hid hr
  obtain ⟨y, hy⟩ : ∃ y, r.length = y := ⟨_, rfl⟩
  have Hy := Lib.hid hy
  obtain ⟨b, o, A1, c1, rfl, -, -⟩ := ha.at_ hr
  clear hs hn ha hF hM hv hr hy
  go_enter Try.func6, Try.ntmps6
  go_wp2_with (first
    | (go_at_call 9; refine (awake_s HI.out _).mono ?_; rintro e wn ⟨rfl, hs⟩; replace H := Lib.hid (Stp.trans H.out hs); replace B0 := Lib.hid (B0.out.keep hs B0.out.lt); clear q0 q1 q2; obtain ⟨⟨q0, q1, q2⟩, -, -, -⟩ := tt_all B0.out; clear hs)
    | (go_at_call 10; (with_reducible refine (Rec.fewr_n ls n Hn.out _ _ _ (Ha.out.keep H.out) HN.out HL.out).mono ?_); rintro e wn ⟨rfl, hs⟩; rw [HF.out]; replace H := Lib.hid (Stp.trans H.out hs); replace B0 := Lib.hid (B0.out.keep hs B0.out.lt); clear q0 q1 q2; obtain ⟨⟨q0, q1, q2⟩, -, -, -⟩ := tt_all B0.out; clear hs)
    | (go_at_call 11; (with_reducible refine (HI.out.may c ls m n HT.out Hn.out _ HM.out _ _ _ (Ha.out.keep H.out)).mono ?_); rintro e wn ⟨rfl, hs⟩; replace H := Lib.hid (Stp.trans H.out hs); replace B0 := Lib.hid (B0.out.keep hs B0.out.lt); clear q0 q1 q2; obtain ⟨⟨q0, q1, q2⟩, -, -, -⟩ := tt_all B0.out; clear hs)
    | (go_at_call 14; (with_reducible refine (HI.out.read c ls m n HT.out Hn.out i hi0 hi1 r y 0 HV.out Hy.out 0 rfl _ _ _ (Ha.out.keep H.out)).mono ?_); rintro e wn ⟨Br, dr, rfl, hr, hs, -⟩; have RR := Lib.hid hr; replace H := Lib.hid (Stp.trans H.out hs); replace B0 := Lib.hid (B0.out.keep hs B0.out.lt); clear q0 q1 q2; obtain ⟨⟨q0, q1, q2⟩, -, -, -⟩ := tt_all B0.out; clear hs hr))
  obtain ⟨b', o', A2, c2, e2, ca, ra⟩ := (Ha.out.keep H.out).at_ Hr.out
  cases e2
  rw [Hy.out] at ca
  have hc1 : ∀ q, (convert 25 9 (.slice Br y dr)).run Try.prog (wn.drewN q) = .ok (.string ⟨r.toArray⟩) (wn.drewN q) := fun q => str_n Hy.out (RR.out.keep (Stp.drewN (Stp.refl wn) q))
  have hc2 : ∀ q, (convert 25 9 (.slice A2 y c2)).run Try.prog (wn.drewN q) = .ok (.string ⟨r.toArray⟩) (wn.drewN q) := fun q => str_n Hy.out (ra.keep (Stp.drewN (Stp.refl wn) q))
  go_quiet (fail)
  go_wp2
  go_ret
  exact ⟨rfl, Stp.drewN H.out _⟩

theorem reads_walk (I : TapeI) (t : Tp) (A : Option Addr) (k : Nat) (w : World) (ha : RdL w A k t.rows) (hs : SmallT t) (i : Int) (hi0 : -9223372036854775808 ≤ i) (hi1 : i < 9223372036854775808) :
    Calls Try.prog 6 #[tv t A k, .int .i64 i] w fun e w' => e = .returned (.bool true) ∧ Stp w w' := by
  obtain ⟨c, ls, m⟩ := t
  cases hF : Rec.fewR ls
  · exact reads_no I c ls m _ hs rfl A k w ha i hF
  · cases hM : mayT ⟨c, ls, m⟩
    · exact reads_may I c ls m _ hs rfl A k w ha i hF hM
    · by_cases h : i < 0
      · exact reads_low I c ls m _ hs rfl A k w ha i hi0 hi1 hF hM h
      · by_cases h2 : (ls.length : Int) ≤ i
        · exact reads_end I c ls m _ hs rfl A k w ha i hi0 hi1 hF hM (by omega) h2
        · exact reads_in I c ls m _ hs rfl A k w ha i hi0 hi1 hF hM (by omega) (by omega)
end Go.Proofs.Ytphpeoalokaheaa.Tape
