/-
  The law TapeWrites, walked over the contracts: no statement is proved here.
-/
import Derived.Test.YtphpeoalokaheaaTapeB
namespace Go.Proofs.Ytphpeoalokaheaa.Tape
open Go.RowKit Go.Proofs.Ytphpeoalokaheaa.Str Go.Proofs.Ytphpeoalokaheaa.Base Go.Proofs.Ytphpeoalokaheaa.BlockM Go.Proofs.Ytphpeoalokaheaa.RecM Go.Proofs.Ytphpeoalokaheaa.TapeM
set_option linter.unusedVariables false

set_option maxRecDepth 100000 in
set_option maxHeartbeats 2000000 in
theorem writes_no (I : TapeI) (c : Int) (ls : List L) (m : Bool) (n : Nat) (hs : SmallT ⟨c, ls, m⟩) (hn : ls.length = n) (A : Option Addr) (k : Nat) (w : World) (ha : RdL w A k ls) (r : L) (l : Nat) (hl : r.length = l) (B : Option Addr) (d : Nat) (hr : RdA w B d (bs r)) (hl2 : l < 9223372036854775808) (i : Int) (hi0 : -9223372036854775808 ≤ i) (hi1 : i < 9223372036854775808) (hF : Rec.fewR ls = false) :
    Calls Try.prog 3 #[tc c A n k m, .slice B l d, .int .i64 i] w fun e w' => e = .returned (.bool true) ∧ Stp w w' := by
  have HI := Lib.hid I
  have HS := Lib.hid hs
  have Ha := Lib.hid ha
  have Hn := Lib.hid hn
  have HL := Lib.hid hs.each
  have HN : Hid (n < 9223372036854775808) := Lib.hid (by rw [← hn]; exact hs.few)
  have H := Lib.hid (Stp.alloc (Stp.refl w) (.cells (tcs c A n k m) 24))
  have B0 := Lib.hid (Blk.new w 24 (tcs c A n k m))
  obtain ⟨⟨q0, q1, q2⟩, -, -, -⟩ := tt_all B0.out
  have b1 := hs.low
  have b2 := hs.high
  dsimp only at b1 b2
  have Hr := Lib.hid hr
  have Hl := Lib.hid hl
  have HF := Lib.hid hF
  clear hs hn ha hF hr hl
  go_enter Try.func3, Try.ntmps3
  go_wp2_with (first
    | (go_at_call 9; refine (awake_s HI.out _).mono ?_; rintro e wn ⟨rfl, hs⟩; replace H := Lib.hid (Stp.trans H.out hs); replace B0 := Lib.hid (B0.out.keep hs B0.out.lt); clear q0 q1 q2; obtain ⟨⟨q0, q1, q2⟩, -, -, -⟩ := tt_all B0.out; clear hs)
    | (go_at_call 10; (with_reducible refine (Rec.fewr_n ls n Hn.out _ _ _ (Ha.out.keep H.out) HN.out HL.out).mono ?_); rintro e wn ⟨rfl, hs⟩; rw [HF.out]; replace H := Lib.hid (Stp.trans H.out hs); replace B0 := Lib.hid (B0.out.keep hs B0.out.lt); clear q0 q1 q2; obtain ⟨⟨q0, q1, q2⟩, -, -, -⟩ := tt_all B0.out; clear hs))
  go_ret
  exact ⟨rfl, H.out⟩
set_option maxRecDepth 100000 in
set_option maxHeartbeats 2000000 in
theorem writes_long (I : TapeI) (c : Int) (ls : List L) (m : Bool) (n : Nat) (hs : SmallT ⟨c, ls, m⟩) (hn : ls.length = n) (A : Option Addr) (k : Nat) (w : World) (ha : RdL w A k ls) (r : L) (l : Nat) (hl : r.length = l) (B : Option Addr) (d : Nat) (hr : RdA w B d (bs r)) (hl2 : l < 9223372036854775808) (i : Int) (hi0 : -9223372036854775808 ≤ i) (hi1 : i < 9223372036854775808) (hF : Rec.fewR ls = true) (h : 12000 < l) :
    Calls Try.prog 3 #[tc c A n k m, .slice B l d, .int .i64 i] w fun e w' => e = .returned (.bool true) ∧ Stp w w' := by
  have HI := Lib.hid I
  have HS := Lib.hid hs
  have Ha := Lib.hid ha
  have Hn := Lib.hid hn
  have HL := Lib.hid hs.each
  have HN : Hid (n < 9223372036854775808) := Lib.hid (by rw [← hn]; exact hs.few)
  have H := Lib.hid (Stp.alloc (Stp.refl w) (.cells (tcs c A n k m) 24))
  have B0 := Lib.hid (Blk.new w 24 (tcs c A n k m))
  obtain ⟨⟨q0, q1, q2⟩, -, -, -⟩ := tt_all B0.out
  have b1 := hs.low
  have b2 := hs.high
  dsimp only at b1 b2
  have Hr := Lib.hid hr
  have Hl := Lib.hid hl
  have HF := Lib.hid hF
  have g1 : decide ((12000 : Int) < (l : Int)) = true := decide_eq_true (by omega)
  clear hs hn ha hF hr hl
  go_enter Try.func3, Try.ntmps3
  go_wp2_with (first
    | (go_at_call 9; refine (awake_s HI.out _).mono ?_; rintro e wn ⟨rfl, hs⟩; replace H := Lib.hid (Stp.trans H.out hs); replace B0 := Lib.hid (B0.out.keep hs B0.out.lt); clear q0 q1 q2; obtain ⟨⟨q0, q1, q2⟩, -, -, -⟩ := tt_all B0.out; clear hs)
    | (go_at_call 10; (with_reducible refine (Rec.fewr_n ls n Hn.out _ _ _ (Ha.out.keep H.out) HN.out HL.out).mono ?_); rintro e wn ⟨rfl, hs⟩; rw [HF.out]; replace H := Lib.hid (Stp.trans H.out hs); replace B0 := Lib.hid (B0.out.keep hs B0.out.lt); clear q0 q1 q2; obtain ⟨⟨q0, q1, q2⟩, -, -, -⟩ := tt_all B0.out; clear hs))
  go_ret
  exact ⟨rfl, H.out⟩
set_option maxRecDepth 100000 in
set_option maxHeartbeats 2000000 in
theorem writes_may (I : TapeI) (c : Int) (ls : List L) (m : Bool) (n : Nat) (hs : SmallT ⟨c, ls, m⟩) (hn : ls.length = n) (A : Option Addr) (k : Nat) (w : World) (ha : RdL w A k ls) (r : L) (l : Nat) (hl : r.length = l) (B : Option Addr) (d : Nat) (hr : RdA w B d (bs r)) (hl2 : l < 9223372036854775808) (i : Int) (hi0 : -9223372036854775808 ≤ i) (hi1 : i < 9223372036854775808) (hF : Rec.fewR ls = true) (h : l ≤ 12000) (hM : mayT ⟨c, ls, m⟩ = false) :
    Calls Try.prog 3 #[tc c A n k m, .slice B l d, .int .i64 i] w fun e w' => e = .returned (.bool true) ∧ Stp w w' := by
  have HI := Lib.hid I
  have HS := Lib.hid hs
  have Ha := Lib.hid ha
  have Hn := Lib.hid hn
  have HL := Lib.hid hs.each
  have HN : Hid (n < 9223372036854775808) := Lib.hid (by rw [← hn]; exact hs.few)
  have H := Lib.hid (Stp.alloc (Stp.refl w) (.cells (tcs c A n k m) 24))
  have B0 := Lib.hid (Blk.new w 24 (tcs c A n k m))
  obtain ⟨⟨q0, q1, q2⟩, -, -, -⟩ := tt_all B0.out
  have b1 := hs.low
  have b2 := hs.high
  dsimp only at b1 b2
  have Hr := Lib.hid hr
  have Hl := Lib.hid hl
  have HF := Lib.hid hF
  have HM := Lib.hid hM
  have HT := Lib.hid (few_of hs hF)
  have g1 : decide ((12000 : Int) < (l : Int)) = false := decide_eq_false (by omega)
  clear hs hn ha hF hM hr hl
  go_enter Try.func3, Try.ntmps3
  go_wp2_with (first
    | (go_at_call 9; refine (awake_s HI.out _).mono ?_; rintro e wn ⟨rfl, hs⟩; replace H := Lib.hid (Stp.trans H.out hs); replace B0 := Lib.hid (B0.out.keep hs B0.out.lt); clear q0 q1 q2; obtain ⟨⟨q0, q1, q2⟩, -, -, -⟩ := tt_all B0.out; clear hs)
    | (go_at_call 10; (with_reducible refine (Rec.fewr_n ls n Hn.out _ _ _ (Ha.out.keep H.out) HN.out HL.out).mono ?_); rintro e wn ⟨rfl, hs⟩; rw [HF.out]; replace H := Lib.hid (Stp.trans H.out hs); replace B0 := Lib.hid (B0.out.keep hs B0.out.lt); clear q0 q1 q2; obtain ⟨⟨q0, q1, q2⟩, -, -, -⟩ := tt_all B0.out; clear hs)
    | (go_at_call 11; (with_reducible refine (HI.out.may c ls m n HT.out Hn.out _ HM.out _ _ _ (Ha.out.keep H.out)).mono ?_); rintro e wn ⟨rfl, hs⟩; replace H := Lib.hid (Stp.trans H.out hs); replace B0 := Lib.hid (B0.out.keep hs B0.out.lt); clear q0 q1 q2; obtain ⟨⟨q0, q1, q2⟩, -, -, -⟩ := tt_all B0.out; clear hs))
  go_ret
  exact ⟨rfl, H.out⟩
set_option maxRecDepth 100000 in
set_option maxHeartbeats 4000000 in
theorem writes_err (I : TapeI) (c : Int) (ls : List L) (m : Bool) (n : Nat) (hs : SmallT ⟨c, ls, m⟩) (hn : ls.length = n) (A : Option Addr) (k : Nat) (w : World) (ha : RdL w A k ls) (r : L) (l : Nat) (hl : r.length = l) (B : Option Addr) (d : Nat) (hr : RdA w B d (bs r)) (hl2 : l < 9223372036854775808) (i : Int) (hi0 : -9223372036854775808 ≤ i) (hi1 : i < 9223372036854775808) (hF : Rec.fewR ls = true) (h : l ≤ 12000) (hM : mayT ⟨c, ls, m⟩ = true) (e1 : Nat) (hX : writeV ⟨c, ls, m⟩ r = (⟨c, ls, m⟩, e1)) (he : e1 ≠ 0) :
    Calls Try.prog 3 #[tc c A n k m, .slice B l d, .int .i64 i] w fun e w' => e = .returned (.bool true) ∧ Stp w w' := by
  have HI := Lib.hid I
  have HS := Lib.hid hs
  have Ha := Lib.hid ha
  have Hn := Lib.hid hn
  have HL := Lib.hid hs.each
  have HN : Hid (n < 9223372036854775808) := Lib.hid (by rw [← hn]; exact hs.few)
  have H := Lib.hid (Stp.alloc (Stp.refl w) (.cells (tcs c A n k m) 24))
  have B0 := Lib.hid (Blk.new w 24 (tcs c A n k m))
  obtain ⟨⟨q0, q1, q2⟩, -, -, -⟩ := tt_all B0.out
  have b1 := hs.low
  have b2 := hs.high
  dsimp only at b1 b2
  have Hr := Lib.hid hr
  have Hl := Lib.hid hl
  have HF := Lib.hid hF
  have HM := Lib.hid hM
  have HT := Lib.hid (few_of hs hF)
  have Hl2 : Hid (l ≤ 100000) := Lib.hid (by omega)
  have g1 : decide ((12000 : Int) < (l : Int)) = false := decide_eq_false (by omega)
  have HX := Lib.hid hX
  obtain ⟨e1i, he1⟩ : ∃ x : Int, (e1 : Int) = x := ⟨_, rfl⟩
  have He1 := Lib.hid he1
  have g2 : (e1i != 0) = true := by rw [bne_iff_ne]; omega
  clear hs hn ha hF hM hr hl hX he he1
  go_enter Try.func3, Try.ntmps3
  go_wp2_with (first
    | (go_at_call 9; refine (awake_s HI.out _).mono ?_; rintro e wn ⟨rfl, hs⟩; replace H := Lib.hid (Stp.trans H.out hs); replace B0 := Lib.hid (B0.out.keep hs B0.out.lt); clear q0 q1 q2; obtain ⟨⟨q0, q1, q2⟩, -, -, -⟩ := tt_all B0.out; clear hs)
    | (go_at_call 10; (with_reducible refine (Rec.fewr_n ls n Hn.out _ _ _ (Ha.out.keep H.out) HN.out HL.out).mono ?_); rintro e wn ⟨rfl, hs⟩; rw [HF.out]; replace H := Lib.hid (Stp.trans H.out hs); replace B0 := Lib.hid (B0.out.keep hs B0.out.lt); clear q0 q1 q2; obtain ⟨⟨q0, q1, q2⟩, -, -, -⟩ := tt_all B0.out; clear hs)
    | (go_at_call 11; (with_reducible refine (HI.out.may c ls m n HT.out Hn.out _ HM.out _ _ _ (Ha.out.keep H.out)).mono ?_); rintro e wn ⟨rfl, hs⟩; replace H := Lib.hid (Stp.trans H.out hs); replace B0 := Lib.hid (B0.out.keep hs B0.out.lt); clear q0 q1 q2; obtain ⟨⟨q0, q1, q2⟩, -, -, -⟩ := tt_all B0.out; clear hs)
    | (go_at_call 12; (with_reducible refine (HI.out.write c ls m n HT.out Hn.out r l Hl.out Hl2.out c ls m n e1 HX.out Hn.out e1i He1.out _ _ _ _ _ (Ha.out.keep H.out) (Hr.out.keep H.out)).mono ?_); rintro e w5 ⟨Aw5, kw5, rfl, hr, hs, -⟩; have hsA := Stp.alloc hs (.cells (tcs c Aw5 n kw5 m) 24); replace H := Lib.hid (Stp.trans H.out hsA); replace B0 := Lib.hid (B0.out.keep hsA B0.out.lt); have B1 := Lib.hid (Blk.new w5 24 (tcs c Aw5 n kw5 m)); have RB1 := Lib.hid (hr.keep (Stp.alloc (Stp.refl w5) (.cells (tcs c Aw5 n kw5 m) 24))); clear q0 q1 q2; obtain ⟨⟨q0, q1, q2⟩, -, -, -⟩ := tt_all B0.out; obtain ⟨⟨r0, r1, r2⟩, -, -, -⟩ := tt_all B1.out; clear hr hs hsA)
    | (go_at_call 13; (with_reducible refine (HI.out.same c ls m n HT.out Hn.out c ls m n HT.out Hn.out true (by simp) _ _ _ _ _ RB1.out (Ha.out.keep H.out)).mono ?_); rintro e wn ⟨rfl, hs⟩; replace H := Lib.hid (Stp.trans H.out hs); replace B0 := Lib.hid (B0.out.keep hs B0.out.lt); replace B1 := Lib.hid (B1.out.keep hs B1.out.lt); replace RB1 := Lib.hid (RB1.out.keep hs); clear q0 q1 q2; obtain ⟨⟨q0, q1, q2⟩, -, -, -⟩ := tt_all B0.out; clear r0 r1 r2; obtain ⟨⟨r0, r1, r2⟩, -, -, -⟩ := tt_all B1.out; clear hs))
  go_ret
  exact ⟨rfl, H.out⟩
set_option maxRecDepth 100000 in
set_option maxHeartbeats 4000000 in
theorem writes_at (I : TapeI) (c : Int) (ls : List L) (m : Bool) (n : Nat) (hs : SmallT ⟨c, ls, m⟩) (hn : ls.length = n) (A : Option Addr) (k : Nat) (w : World) (ha : RdL w A k ls) (r : L) (l : Nat) (hl : r.length = l) (B : Option Addr) (d : Nat) (hr : RdA w B d (bs r)) (hl2 : l < 9223372036854775808) (i : Int) (hi0 : -9223372036854775808 ≤ i) (hi1 : i < 9223372036854775808) (hF : Rec.fewR ls = true) (h : l ≤ 12000) (hM : mayT ⟨c, ls, m⟩ = true) (hX : (writeV ⟨c, ls, m⟩ r).2 = 0) (hin : i = (n : Int)) :
    Calls Try.prog 3 #[tc c A n k m, .slice B l d, .int .i64 i] w fun e w' => e = .returned (.bool true) ∧ Stp w w' := by
  have HI := Lib.hid I
  have HS := Lib.hid hs
  have Ha := Lib.hid ha
  have Hn := Lib.hid hn
  have HL := Lib.hid hs.each
  have HN : Hid (n < 9223372036854775808) := Lib.hid (by rw [← hn]; exact hs.few)
  have H := Lib.hid (Stp.alloc (Stp.refl w) (.cells (tcs c A n k m) 24))
  have B0 := Lib.hid (Blk.new w 24 (tcs c A n k m))
  obtain ⟨⟨q0, q1, q2⟩, -, -, -⟩ := tt_all B0.out
  have b1 := hs.low
  have b2 := hs.high
  dsimp only at b1 b2
  have Hr := Lib.hid hr
  have Hl := Lib.hid hl
  have HF := Lib.hid hF
  have HM := Lib.hid hM
  have HT := Lib.hid (few_of hs hF)
  have Hl2 : Hid (l ≤ 100000) := Lib.hid (by omega)
  have g1 : decide ((12000 : Int) < (l : Int)) = false := decide_eq_false (by omega)
  obtain ⟨a1, a2, a3, a4⟩ := writeV_ok.1 hX
  dsimp only at a4
  have hW := read_written hX
  have hm1 := writeV_may (r := r) hM
  rw [writeV_yes a1 a2 a3 a4] at hW hm1
  dsimp only at hW hm1
  have HM1 := Lib.hid hm1
  have HX := Lib.hid (writeV_yes a1 a2 a3 a4)
  obtain ⟨n1, hn1⟩ : ∃ x, n + 1 = x := ⟨_, rfl⟩
  have Hn1 : Hid ((ls ++ [r]).length = n1) := Lib.hid (by rw [List.length_append, hn]; exact hn1)
  have HT1 := Lib.hid (few_app hs hF (rs := [r]) (by simp) (by simp [hl]; exact h) false)
  have HV : Hid (readV ⟨c, ls ++ [r], false⟩ (n : Int) = (r, 0)) := Lib.hid (by rw [← hn]; exact hW.1)
  have hn60 : n ≤ 60 := by rw [← hn]; exact (fewR_n hF).1
  have Hn0 : Hid (-9223372036854775808 ≤ (n : Int)) := Lib.hid (by omega)
  have Hn9 : Hid ((n : Int) < 9223372036854775808) := Lib.hid (by omega)
  rw [hn] at a4
  have g2 : decide ((n1 : Int) ≤ c) = true := decide_eq_true (by omega)
  have g3 : ((n1 : Int) == (n : Int) + 1) = true := by rw [← hn1]; simp
  obtain ⟨⟨ra, ea⟩, hA⟩ : ∃ y, readV ⟨c, ls, m⟩ i = y := ⟨_, rfl⟩
  obtain ⟨la, hla⟩ : ∃ y, ra.length = y := ⟨_, rfl⟩
  obtain ⟨eai, hea⟩ : ∃ y : Int, (ea : Int) = y := ⟨_, rfl⟩
  have HA := Lib.hid hA
  have Hla := Lib.hid hla
  have Hea := Lib.hid hea
  obtain ⟨⟨rb, eb⟩, hB⟩ : ∃ y, readV ⟨c, ls ++ [r], false⟩ i = y := ⟨_, rfl⟩
  obtain ⟨lb, hlb⟩ : ∃ y, rb.length = y := ⟨_, rfl⟩
  obtain ⟨ebi, heb⟩ : ∃ y : Int, (eb : Int) = y := ⟨_, rfl⟩
  have HB := Lib.hid hB
  have Hlb := Lib.hid hlb
  have Heb := Lib.hid heb
  have g4 : (i == (n : Int)) = true := by rw [hin]; simp
  clear hB hlb heb
  clear hs hn ha hF hM hr hl hX a1 a2 a3 a4 hW hm1 hn1 hA hla hea hin h
  go_enter Try.func3, Try.ntmps3
  go_wp2_with (first
    | (go_at_call 9; refine (awake_s HI.out _).mono ?_; rintro e wn ⟨rfl, hs⟩; replace H := Lib.hid (Stp.trans H.out hs); replace B0 := Lib.hid (B0.out.keep hs B0.out.lt); clear q0 q1 q2; obtain ⟨⟨q0, q1, q2⟩, -, -, -⟩ := tt_all B0.out; clear hs)
    | (go_at_call 10; (with_reducible refine (Rec.fewr_n ls n Hn.out _ _ _ (Ha.out.keep H.out) HN.out HL.out).mono ?_); rintro e wn ⟨rfl, hs⟩; rw [HF.out]; replace H := Lib.hid (Stp.trans H.out hs); replace B0 := Lib.hid (B0.out.keep hs B0.out.lt); clear q0 q1 q2; obtain ⟨⟨q0, q1, q2⟩, -, -, -⟩ := tt_all B0.out; clear hs)
    | (go_at_call 11; (with_reducible refine (HI.out.may c ls m n HT.out Hn.out _ HM.out _ _ _ (Ha.out.keep H.out)).mono ?_); rintro e wn ⟨rfl, hs⟩; replace H := Lib.hid (Stp.trans H.out hs); replace B0 := Lib.hid (B0.out.keep hs B0.out.lt); clear q0 q1 q2; obtain ⟨⟨q0, q1, q2⟩, -, -, -⟩ := tt_all B0.out; clear hs)
    | (go_at_call 12; (with_reducible refine (HI.out.write c ls m n HT.out Hn.out r l Hl.out Hl2.out c (ls ++ [r]) false n1 0 HX.out Hn1.out 0 rfl _ _ _ _ _ (Ha.out.keep H.out) (Hr.out.keep H.out)).mono ?_); rintro e w5 ⟨Aw5, kw5, rfl, hr, hs, -⟩; have hsA := Stp.alloc hs (.cells (tcs c Aw5 n1 kw5 false) 24); replace H := Lib.hid (Stp.trans H.out hsA); replace B0 := Lib.hid (B0.out.keep hsA B0.out.lt); have B1 := Lib.hid (Blk.new w5 24 (tcs c Aw5 n1 kw5 false)); have RB1 := Lib.hid (hr.keep (Stp.alloc (Stp.refl w5) (.cells (tcs c Aw5 n1 kw5 false) 24))); clear q0 q1 q2; obtain ⟨⟨q0, q1, q2⟩, -, -, -⟩ := tt_all B0.out; obtain ⟨⟨r0, r1, r2⟩, -, -, -⟩ := tt_all B1.out; clear hr hs hsA)
    | (go_at_call 14; (with_reducible refine (HI.out.read c (ls ++ [r]) false n1 HT1.out Hn1.out (n : Int) Hn0.out Hn9.out r l 0 HV.out Hl.out 0 rfl _ _ _ RB1.out).mono ?_); rintro e wn ⟨BS, dS, rfl, hr, hs, -⟩; have RS := Lib.hid hr; replace H := Lib.hid (Stp.trans H.out hs); replace B0 := Lib.hid (B0.out.keep hs B0.out.lt); replace B1 := Lib.hid (B1.out.keep hs B1.out.lt); replace RB1 := Lib.hid (RB1.out.keep hs); clear q0 q1 q2; obtain ⟨⟨q0, q1, q2⟩, -, -, -⟩ := tt_all B0.out; clear r0 r1 r2; obtain ⟨⟨r0, r1, r2⟩, -, -, -⟩ := tt_all B1.out; clear hr hs)
    | (go_at_call 14; (with_reducible refine (HI.out.read c ls m n HT.out Hn.out i hi0 hi1 ra la ea HA.out Hla.out eai Hea.out _ _ _ (Ha.out.keep H.out)).mono ?_); rintro e wn ⟨BA, dA, rfl, hr, hs, -⟩; have RA := Lib.hid hr; replace H := Lib.hid (Stp.trans H.out hs); replace B0 := Lib.hid (B0.out.keep hs B0.out.lt); replace B1 := Lib.hid (B1.out.keep hs B1.out.lt); replace RB1 := Lib.hid (RB1.out.keep hs); replace RS := Lib.hid (RS.out.keep hs); clear q0 q1 q2; obtain ⟨⟨q0, q1, q2⟩, -, -, -⟩ := tt_all B0.out; clear r0 r1 r2; obtain ⟨⟨r0, r1, r2⟩, -, -, -⟩ := tt_all B1.out; clear hr hs)
    | (go_at_call 14; (with_reducible refine (HI.out.read c (ls ++ [r]) false n1 HT1.out Hn1.out i hi0 hi1 rb lb eb HB.out Hlb.out ebi Heb.out _ _ _ RB1.out).mono ?_); rintro e wn ⟨BC, dC, rfl, hr, hs, -⟩; have RC := Lib.hid hr; replace H := Lib.hid (Stp.trans H.out hs); replace B0 := Lib.hid (B0.out.keep hs B0.out.lt); replace B1 := Lib.hid (B1.out.keep hs B1.out.lt); replace RB1 := Lib.hid (RB1.out.keep hs); replace RS := Lib.hid (RS.out.keep hs); replace RA := Lib.hid (RA.out.keep hs); clear q0 q1 q2; obtain ⟨⟨q0, q1, q2⟩, -, -, -⟩ := tt_all B0.out; clear r0 r1 r2; obtain ⟨⟨r0, r1, r2⟩, -, -, -⟩ := tt_all B1.out; clear hr hs)
    | (go_at_call 11; (with_reducible refine (HI.out.may c (ls ++ [r]) false n1 HT1.out Hn1.out _ HM1.out _ _ _ RB1.out).mono ?_); rintro e wn ⟨rfl, hs⟩; replace H := Lib.hid (Stp.trans H.out hs); replace B0 := Lib.hid (B0.out.keep hs B0.out.lt); replace B1 := Lib.hid (B1.out.keep hs B1.out.lt); replace RB1 := Lib.hid (RB1.out.keep hs); replace RS := Lib.hid (RS.out.keep hs); replace RA := Lib.hid (RA.out.keep hs); replace RC := Lib.hid (RC.out.keep hs); clear q0 q1 q2; obtain ⟨⟨q0, q1, q2⟩, -, -, -⟩ := tt_all B0.out; clear r0 r1 r2; obtain ⟨⟨r0, r1, r2⟩, -, -, -⟩ := tt_all B1.out; clear hs; have cv1 := str_n Hl.out RS.out; have cv2 := str_n Hl.out (Hr.out.keep H.out)))
  go_ret
  exact ⟨rfl, H.out⟩
set_option maxRecDepth 100000 in
set_option maxHeartbeats 4000000 in
theorem writes_off (I : TapeI) (c : Int) (ls : List L) (m : Bool) (n : Nat) (hs : SmallT ⟨c, ls, m⟩) (hn : ls.length = n) (A : Option Addr) (k : Nat) (w : World) (ha : RdL w A k ls) (r : L) (l : Nat) (hl : r.length = l) (B : Option Addr) (d : Nat) (hr : RdA w B d (bs r)) (hl2 : l < 9223372036854775808) (i : Int) (hi0 : -9223372036854775808 ≤ i) (hi1 : i < 9223372036854775808) (hF : Rec.fewR ls = true) (h : l ≤ 12000) (hM : mayT ⟨c, ls, m⟩ = true) (hX : (writeV ⟨c, ls, m⟩ r).2 = 0) (hin : i ≠ (n : Int)) :
    Calls Try.prog 3 #[tc c A n k m, .slice B l d, .int .i64 i] w fun e w' => e = .returned (.bool true) ∧ Stp w w' := by
  have HI := Lib.hid I
  have HS := Lib.hid hs
  have Ha := Lib.hid ha
  have Hn := Lib.hid hn
  have HL := Lib.hid hs.each
  have HN : Hid (n < 9223372036854775808) := Lib.hid (by rw [← hn]; exact hs.few)
  have H := Lib.hid (Stp.alloc (Stp.refl w) (.cells (tcs c A n k m) 24))
  have B0 := Lib.hid (Blk.new w 24 (tcs c A n k m))
  obtain ⟨⟨q0, q1, q2⟩, -, -, -⟩ := tt_all B0.out
  have b1 := hs.low
  have b2 := hs.high
  dsimp only at b1 b2
  have Hr := Lib.hid hr
  have Hl := Lib.hid hl
  have HF := Lib.hid hF
  have HM := Lib.hid hM
  have HT := Lib.hid (few_of hs hF)
  have Hl2 : Hid (l ≤ 100000) := Lib.hid (by omega)
  have g1 : decide ((12000 : Int) < (l : Int)) = false := decide_eq_false (by omega)
  obtain ⟨a1, a2, a3, a4⟩ := writeV_ok.1 hX
  dsimp only at a4
  have hW := read_written hX
  have hm1 := writeV_may (r := r) hM
  rw [writeV_yes a1 a2 a3 a4] at hW hm1
  dsimp only at hW hm1
  have HM1 := Lib.hid hm1
  have HX := Lib.hid (writeV_yes a1 a2 a3 a4)
  obtain ⟨n1, hn1⟩ : ∃ x, n + 1 = x := ⟨_, rfl⟩
  have Hn1 : Hid ((ls ++ [r]).length = n1) := Lib.hid (by rw [List.length_append, hn]; exact hn1)
  have HT1 := Lib.hid (few_app hs hF (rs := [r]) (by simp) (by simp [hl]; exact h) false)
  have HV : Hid (readV ⟨c, ls ++ [r], false⟩ (n : Int) = (r, 0)) := Lib.hid (by rw [← hn]; exact hW.1)
  have hn60 : n ≤ 60 := by rw [← hn]; exact (fewR_n hF).1
  have Hn0 : Hid (-9223372036854775808 ≤ (n : Int)) := Lib.hid (by omega)
  have Hn9 : Hid ((n : Int) < 9223372036854775808) := Lib.hid (by omega)
  rw [hn] at a4
  have g2 : decide ((n1 : Int) ≤ c) = true := decide_eq_true (by omega)
  have g3 : ((n1 : Int) == (n : Int) + 1) = true := by rw [← hn1]; simp
  obtain ⟨⟨ra, ea⟩, hA⟩ : ∃ y, readV ⟨c, ls, m⟩ i = y := ⟨_, rfl⟩
  obtain ⟨la, hla⟩ : ∃ y, ra.length = y := ⟨_, rfl⟩
  obtain ⟨eai, hea⟩ : ∃ y : Int, (ea : Int) = y := ⟨_, rfl⟩
  have HA := Lib.hid hA
  have Hla := Lib.hid hla
  have Hea := Lib.hid hea
  have HB : Hid (readV ⟨c, ls ++ [r], false⟩ i = (ra, ea)) := Lib.hid (by rw [hW.2 i (by rw [hn]; exact hin), hA])
  have g4 : (i == (n : Int)) = false := by rw [beq_eq_false_iff_ne]; exact hin
  clear hs hn ha hF hM hr hl hX a1 a2 a3 a4 hW hm1 hn1 hA hla hea hin h
  go_enter Try.func3, Try.ntmps3
  go_wp2_with (first
    | (go_at_call 9; refine (awake_s HI.out _).mono ?_; rintro e wn ⟨rfl, hs⟩; replace H := Lib.hid (Stp.trans H.out hs); replace B0 := Lib.hid (B0.out.keep hs B0.out.lt); clear q0 q1 q2; obtain ⟨⟨q0, q1, q2⟩, -, -, -⟩ := tt_all B0.out; clear hs)
    | (go_at_call 10; (with_reducible refine (Rec.fewr_n ls n Hn.out _ _ _ (Ha.out.keep H.out) HN.out HL.out).mono ?_); rintro e wn ⟨rfl, hs⟩; rw [HF.out]; replace H := Lib.hid (Stp.trans H.out hs); replace B0 := Lib.hid (B0.out.keep hs B0.out.lt); clear q0 q1 q2; obtain ⟨⟨q0, q1, q2⟩, -, -, -⟩ := tt_all B0.out; clear hs)
    | (go_at_call 11; (with_reducible refine (HI.out.may c ls m n HT.out Hn.out _ HM.out _ _ _ (Ha.out.keep H.out)).mono ?_); rintro e wn ⟨rfl, hs⟩; replace H := Lib.hid (Stp.trans H.out hs); replace B0 := Lib.hid (B0.out.keep hs B0.out.lt); clear q0 q1 q2; obtain ⟨⟨q0, q1, q2⟩, -, -, -⟩ := tt_all B0.out; clear hs)
    | (go_at_call 12; (with_reducible refine (HI.out.write c ls m n HT.out Hn.out r l Hl.out Hl2.out c (ls ++ [r]) false n1 0 HX.out Hn1.out 0 rfl _ _ _ _ _ (Ha.out.keep H.out) (Hr.out.keep H.out)).mono ?_); rintro e w5 ⟨Aw5, kw5, rfl, hr, hs, -⟩; have hsA := Stp.alloc hs (.cells (tcs c Aw5 n1 kw5 false) 24); replace H := Lib.hid (Stp.trans H.out hsA); replace B0 := Lib.hid (B0.out.keep hsA B0.out.lt); have B1 := Lib.hid (Blk.new w5 24 (tcs c Aw5 n1 kw5 false)); have RB1 := Lib.hid (hr.keep (Stp.alloc (Stp.refl w5) (.cells (tcs c Aw5 n1 kw5 false) 24))); clear q0 q1 q2; obtain ⟨⟨q0, q1, q2⟩, -, -, -⟩ := tt_all B0.out; obtain ⟨⟨r0, r1, r2⟩, -, -, -⟩ := tt_all B1.out; clear hr hs hsA)
    | (go_at_call 14; (with_reducible refine (HI.out.read c (ls ++ [r]) false n1 HT1.out Hn1.out (n : Int) Hn0.out Hn9.out r l 0 HV.out Hl.out 0 rfl _ _ _ RB1.out).mono ?_); rintro e wn ⟨BS, dS, rfl, hr, hs, -⟩; have RS := Lib.hid hr; replace H := Lib.hid (Stp.trans H.out hs); replace B0 := Lib.hid (B0.out.keep hs B0.out.lt); replace B1 := Lib.hid (B1.out.keep hs B1.out.lt); replace RB1 := Lib.hid (RB1.out.keep hs); clear q0 q1 q2; obtain ⟨⟨q0, q1, q2⟩, -, -, -⟩ := tt_all B0.out; clear r0 r1 r2; obtain ⟨⟨r0, r1, r2⟩, -, -, -⟩ := tt_all B1.out; clear hr hs)
    | (go_at_call 14; (with_reducible refine (HI.out.read c ls m n HT.out Hn.out i hi0 hi1 ra la ea HA.out Hla.out eai Hea.out _ _ _ (Ha.out.keep H.out)).mono ?_); rintro e wn ⟨BA, dA, rfl, hr, hs, -⟩; have RA := Lib.hid hr; replace H := Lib.hid (Stp.trans H.out hs); replace B0 := Lib.hid (B0.out.keep hs B0.out.lt); replace B1 := Lib.hid (B1.out.keep hs B1.out.lt); replace RB1 := Lib.hid (RB1.out.keep hs); replace RS := Lib.hid (RS.out.keep hs); clear q0 q1 q2; obtain ⟨⟨q0, q1, q2⟩, -, -, -⟩ := tt_all B0.out; clear r0 r1 r2; obtain ⟨⟨r0, r1, r2⟩, -, -, -⟩ := tt_all B1.out; clear hr hs)
    | (go_at_call 14; (with_reducible refine (HI.out.read c (ls ++ [r]) false n1 HT1.out Hn1.out i hi0 hi1 ra la ea HB.out Hla.out eai Hea.out _ _ _ RB1.out).mono ?_); rintro e wn ⟨BC, dC, rfl, hr, hs, -⟩; have RC := Lib.hid hr; replace H := Lib.hid (Stp.trans H.out hs); replace B0 := Lib.hid (B0.out.keep hs B0.out.lt); replace B1 := Lib.hid (B1.out.keep hs B1.out.lt); replace RB1 := Lib.hid (RB1.out.keep hs); replace RS := Lib.hid (RS.out.keep hs); replace RA := Lib.hid (RA.out.keep hs); clear q0 q1 q2; obtain ⟨⟨q0, q1, q2⟩, -, -, -⟩ := tt_all B0.out; clear r0 r1 r2; obtain ⟨⟨r0, r1, r2⟩, -, -, -⟩ := tt_all B1.out; clear hr hs)
    | (go_at_call 11; (with_reducible refine (HI.out.may c (ls ++ [r]) false n1 HT1.out Hn1.out _ HM1.out _ _ _ RB1.out).mono ?_); rintro e wn ⟨rfl, hs⟩; replace H := Lib.hid (Stp.trans H.out hs); replace B0 := Lib.hid (B0.out.keep hs B0.out.lt); replace B1 := Lib.hid (B1.out.keep hs B1.out.lt); replace RB1 := Lib.hid (RB1.out.keep hs); replace RS := Lib.hid (RS.out.keep hs); replace RA := Lib.hid (RA.out.keep hs); replace RC := Lib.hid (RC.out.keep hs); clear q0 q1 q2; obtain ⟨⟨q0, q1, q2⟩, -, -, -⟩ := tt_all B0.out; clear r0 r1 r2; obtain ⟨⟨r0, r1, r2⟩, -, -, -⟩ := tt_all B1.out; clear hs; have cv1 := str_n Hl.out RS.out; have cv2 := str_n Hl.out (Hr.out.keep H.out); have cv3 := str_n Hla.out RA.out; have cv4 := str_n Hla.out RC.out))
  go_ret
  exact ⟨rfl, H.out⟩

theorem writes_walk (I : TapeI) (t : Tp) (A : Option Addr) (k : Nat) (w : World) (ha : RdL w A k t.rows) (hs : SmallT t) (r : L) (B : Option Addr) (d : Nat) (hr : RdA w B d (bs r)) (hl2 : r.length < 9223372036854775808) (i : Int) (hi0 : -9223372036854775808 ≤ i) (hi1 : i < 9223372036854775808) :
    Calls Try.prog 3 #[tv t A k, .slice B r.length d, .int .i64 i] w fun e w' => e = .returned (.bool true) ∧ Stp w w' := by
  obtain ⟨c, ls, m⟩ := t
  cases hF : Rec.fewR ls
  · exact writes_no I c ls m _ hs rfl A k w ha r _ rfl B d hr hl2 i hi0 hi1 hF
  · by_cases h : 12000 < r.length
    · exact writes_long I c ls m _ hs rfl A k w ha r _ rfl B d hr hl2 i hi0 hi1 hF h
    · cases hM : mayT ⟨c, ls, m⟩
      · exact writes_may I c ls m _ hs rfl A k w ha r _ rfl B d hr hl2 i hi0 hi1 hF (by omega) hM
      · by_cases hX : (writeV ⟨c, ls, m⟩ r).2 = 0
        · by_cases hin : i = (ls.length : Int)
          · exact writes_at I c ls m _ hs rfl A k w ha r _ rfl B d hr hl2 i hi0 hi1 hF (by omega) hM hX hin
          · exact writes_off I c ls m _ hs rfl A k w ha r _ rfl B d hr hl2 i hi0 hi1 hF (by omega) hM hX hin
        · refine writes_err I c ls m _ hs rfl A k w ha r _ rfl B d hr hl2 i hi0 hi1 hF (by omega) hM _ ?_ hX
          exact Prod.ext (writeV_no hX) rfl
theorem writes_rd (I : TapeI) (t : Tp) (A : Option Addr) (k : Nat) (w : World) (ha : RdL w A k t.rows) (hs : SmallT t) (r : L) (B : Option Addr) (l d : Nat) (hr : Rd w w.heap.size (.slice B l d) (bs r)) (hl2 : r.length < 9223372036854775808) (i : Int) (hi0 : -9223372036854775808 ≤ i) (hi1 : i < 9223372036854775808) :
    Calls Try.prog 3 #[tv t A k, .slice B l d, .int .i64 i] w fun e w' => e = .returned (.bool true) ∧ Stp w w' := by
  obtain ⟨B', d', e, hr'⟩ := RdA.of hr
  rw [bs_length] at e
  cases e
  exact writes_walk I t A k w ha hs r B d hr' hl2 i hi0 hi1
end Go.Proofs.Ytphpeoalokaheaa.Tape
