/-
  The law TapeMarks, walked over the contracts: no statement is proved here.
-/
import Derived.Test.YtphpeoalokaheaaTapeB
import Derived.Deep.RegionLaw
import Derived.Deep.Cut
namespace Go.Proofs.Ytphpeoalokaheaa.Tape
open Go.RowKit Go.Proofs.Ytphpeoalokaheaa.Str Go.Proofs.Ytphpeoalokaheaa.Base Go.Proofs.Ytphpeoalokaheaa.BlockM Go.Proofs.Ytphpeoalokaheaa.RecM Go.Proofs.Ytphpeoalokaheaa.TapeM
set_option linter.unusedVariables false

set_option maxRecDepth 100000 in
set_option maxHeartbeats 2000000 in
theorem marks_no (I : TapeI) (c : Int) (ls : List L) (m : Bool) (n : Nat) (hs : SmallT ⟨c, ls, m⟩) (hn : ls.length = n) (A : Option Addr) (k : Nat) (w : World) (ha : RdL w A k ls) (i : Int) (hi0 : -9223372036854775808 ≤ i) (hi1 : i < 9223372036854775808) (hF : Rec.fewR ls = false) :
    Calls Try.prog 5 #[tc c A n k m, .int .i64 i] w fun e w' => e = .returned (.bool true) ∧ Stp w w' := by
  have HI := Lib.hid I
  have HS := Lib.hid hs
  have Ha := Lib.hid ha
  have Hn := Lib.hid hn
  have HL := Lib.hid hs.each
  have HN : Hid (n < 9223372036854775808) := Lib.hid (by rw [← hn]; exact hs.few)
  have H := Lib.hid (Stp.alloc (Stp.refl w) (.cells (tcs c A n k m) 24))
  have B0 := Lib.hid (Blk.new w 24 (tcs c A n k m))
  obtain ⟨⟨q0, q1, q2⟩, -, -, -⟩ := tt_all B0.out
  have b1 := hs.low
  have b2 := hs.high
  dsimp only at b1 b2
  have HF := Lib.hid hF
  clear hs hn ha hF
  go_enter Try.func5, Try.ntmps5
  go_wp2_with (first
    | (go_at_call 9; refine (awake_s HI.out _).mono ?_; rintro e wn ⟨rfl, hs⟩; replace H := Lib.hid (Stp.trans H.out hs); replace B0 := Lib.hid (B0.out.keep hs B0.out.lt); clear q0 q1 q2; obtain ⟨⟨q0, q1, q2⟩, -, -, -⟩ := tt_all B0.out; clear hs)
    | (go_at_call 10; (with_reducible refine (Rec.fewr_n ls n Hn.out _ _ _ (Ha.out.keep H.out) HN.out HL.out).mono ?_); rintro e wn ⟨rfl, hs⟩; rw [HF.out]; replace H := Lib.hid (Stp.trans H.out hs); replace B0 := Lib.hid (B0.out.keep hs B0.out.lt); clear q0 q1 q2; obtain ⟨⟨q0, q1, q2⟩, -, -, -⟩ := tt_all B0.out; clear hs))
  go_ret
  exact ⟨rfl, H.out⟩
set_option maxRecDepth 100000 in
set_option maxHeartbeats 2000000 in
theorem marks_may (I : TapeI) (c : Int) (ls : List L) (m : Bool) (n : Nat) (hs : SmallT ⟨c, ls, m⟩) (hn : ls.length = n) (A : Option Addr) (k : Nat) (w : World) (ha : RdL w A k ls) (i : Int) (hi0 : -9223372036854775808 ≤ i) (hi1 : i < 9223372036854775808) (hF : Rec.fewR ls = true) (hM : mayT ⟨c, ls, m⟩ = false) :
    Calls Try.prog 5 #[tc c A n k m, .int .i64 i] w fun e w' => e = .returned (.bool true) ∧ Stp w w' := by
  have HI := Lib.hid I
  have HS := Lib.hid hs
  have Ha := Lib.hid ha
  have Hn := Lib.hid hn
  have HL := Lib.hid hs.each
  have HN : Hid (n < 9223372036854775808) := Lib.hid (by rw [← hn]; exact hs.few)
  have H := Lib.hid (Stp.alloc (Stp.refl w) (.cells (tcs c A n k m) 24))
  have B0 := Lib.hid (Blk.new w 24 (tcs c A n k m))
  obtain ⟨⟨q0, q1, q2⟩, -, -, -⟩ := tt_all B0.out
  have b1 := hs.low
  have b2 := hs.high
  dsimp only at b1 b2
  have HF := Lib.hid hF
  have HM := Lib.hid hM
  have HT := Lib.hid (few_of hs hF)
  clear hs hn ha hF hM
  go_enter Try.func5, Try.ntmps5
  go_wp2_with (first
    | (go_at_call 9; refine (awake_s HI.out _).mono ?_; rintro e wn ⟨rfl, hs⟩; replace H := Lib.hid (Stp.trans H.out hs); replace B0 := Lib.hid (B0.out.keep hs B0.out.lt); clear q0 q1 q2; obtain ⟨⟨q0, q1, q2⟩, -, -, -⟩ := tt_all B0.out; clear hs)
    | (go_at_call 10; (with_reducible refine (Rec.fewr_n ls n Hn.out _ _ _ (Ha.out.keep H.out) HN.out HL.out).mono ?_); rintro e wn ⟨rfl, hs⟩; rw [HF.out]; replace H := Lib.hid (Stp.trans H.out hs); replace B0 := Lib.hid (B0.out.keep hs B0.out.lt); clear q0 q1 q2; obtain ⟨⟨q0, q1, q2⟩, -, -, -⟩ := tt_all B0.out; clear hs)
    | (go_at_call 11; (with_reducible refine (HI.out.may c ls m n HT.out Hn.out _ HM.out _ _ _ (Ha.out.keep H.out)).mono ?_); rintro e wn ⟨rfl, hs⟩; replace H := Lib.hid (Stp.trans H.out hs); replace B0 := Lib.hid (B0.out.keep hs B0.out.lt); clear q0 q1 q2; obtain ⟨⟨q0, q1, q2⟩, -, -, -⟩ := tt_all B0.out; clear hs))
  go_ret
  exact ⟨rfl, H.out⟩
set_option maxRecDepth 100000 in
set_option maxHeartbeats 2000000 in
theorem marks_mark (I : TapeI) (c : Int) (ls : List L) (m : Bool) (n : Nat) (hs : SmallT ⟨c, ls, m⟩) (hn : ls.length = n) (A : Option Addr) (k : Nat) (w : World) (ha : RdL w A k ls) (i : Int) (hi0 : -9223372036854775808 ≤ i) (hi1 : i < 9223372036854775808) (hF : Rec.fewR ls = true) (hM : mayT ⟨c, ls, m⟩ = true) (hm : m = true) :
    Calls Try.prog 5 #[tc c A n k m, .int .i64 i] w fun e w' => e = .returned (.bool true) ∧ Stp w w' := by
  have HI := Lib.hid I
  have HS := Lib.hid hs
  have Ha := Lib.hid ha
  have Hn := Lib.hid hn
  have HL := Lib.hid hs.each
  have HN : Hid (n < 9223372036854775808) := Lib.hid (by rw [← hn]; exact hs.few)
  have H := Lib.hid (Stp.alloc (Stp.refl w) (.cells (tcs c A n k m) 24))
  have B0 := Lib.hid (Blk.new w 24 (tcs c A n k m))
  obtain ⟨⟨q0, q1, q2⟩, -, -, -⟩ := tt_all B0.out
  have b1 := hs.low
  have b2 := hs.high
  dsimp only at b1 b2
  have HF := Lib.hid hF
  have HM := Lib.hid hM
  have HT := Lib.hid (few_of hs hF)
  clear hs hn ha hF hM
  subst hm
  go_enter Try.func5, Try.ntmps5
  go_wp2_with (first
    | (go_at_call 9; refine (awake_s HI.out _).mono ?_; rintro e wn ⟨rfl, hs⟩; replace H := Lib.hid (Stp.trans H.out hs); replace B0 := Lib.hid (B0.out.keep hs B0.out.lt); clear q0 q1 q2; obtain ⟨⟨q0, q1, q2⟩, -, -, -⟩ := tt_all B0.out; clear hs)
    | (go_at_call 10; (with_reducible refine (Rec.fewr_n ls n Hn.out _ _ _ (Ha.out.keep H.out) HN.out HL.out).mono ?_); rintro e wn ⟨rfl, hs⟩; rw [HF.out]; replace H := Lib.hid (Stp.trans H.out hs); replace B0 := Lib.hid (B0.out.keep hs B0.out.lt); clear q0 q1 q2; obtain ⟨⟨q0, q1, q2⟩, -, -, -⟩ := tt_all B0.out; clear hs)
    | (go_at_call 11; (with_reducible refine (HI.out.may c ls true n HT.out Hn.out _ HM.out _ _ _ (Ha.out.keep H.out)).mono ?_); rintro e wn ⟨rfl, hs⟩; replace H := Lib.hid (Stp.trans H.out hs); replace B0 := Lib.hid (B0.out.keep hs B0.out.lt); clear q0 q1 q2; obtain ⟨⟨q0, q1, q2⟩, -, -, -⟩ := tt_all B0.out; clear hs))
  go_ret
  exact ⟨rfl, H.out⟩
set_option maxRecDepth 100000 in
set_option maxHeartbeats 8000000 in
theorem marks_out (I : TapeI) (c : Int) (ls : List L) (m : Bool) (n : Nat) (hs : SmallT ⟨c, ls, m⟩) (hn : ls.length = n) (A : Option Addr) (k : Nat) (w : World) (ha : RdL w A k ls) (i : Int) (hi0 : -9223372036854775808 ≤ i) (hi1 : i < 9223372036854775808) (hF : Rec.fewR ls = true) (hM : mayT ⟨c, ls, m⟩ = true) (hm : m = false) (h : i < 0 ∨ (n : Int) < i) :
    Calls Try.prog 5 #[tc c A n k m, .int .i64 i] w fun e w' => e = .returned (.bool true) ∧ Stp w w' := by
  have HI := Lib.hid I
  have HS := Lib.hid hs
  have Ha := Lib.hid ha
  have Hn := Lib.hid hn
  have HL := Lib.hid hs.each
  have HN : Hid (n < 9223372036854775808) := Lib.hid (by rw [← hn]; exact hs.few)
  have H := Lib.hid (Stp.alloc (Stp.refl w) (.cells (tcs c A n k m) 24))
  have B0 := Lib.hid (Blk.new w 24 (tcs c A n k m))
  obtain ⟨⟨q0, q1, q2⟩, -, -, -⟩ := tt_all B0.out
  have b1 := hs.low
  have b2 := hs.high
  dsimp only at b1 b2
  have HF := Lib.hid hF
  have HM := Lib.hid hM
  have HT := Lib.hid (few_of hs hF)
  subst hm
  obtain ⟨hcl, hw, hcc, hcut, hcut2⟩ := marks hM rfl
  obtain ⟨z, hz⟩ : ∃ z, noughts 512 = z := ⟨_, rfl⟩
  have f0 : z.length = 512 := (ex_facts z hz).1
  have hrz : mayR z = true := mayR_iff.2 ⟨by omega, by omega, by omega⟩
  have Hz := Lib.hid hz
  have F0 := Lib.hid f0
  obtain ⟨zs, hzs⟩ : ∃ zs : Array Value, Array.replicate 512 (Value.int .u8 0) = zs := ⟨_, rfl⟩
  have hmk := mk_zs hzs
  have Hzs := Lib.hid hzs
  have HTm := Lib.hid (HT.out.mark true)
  have HCL := Lib.hid hcl
  have HW1 := Lib.hid (hw z hrz)
  have HC2 := Lib.hid hcc
  have HC := Lib.hid (hcut2 i (by dsimp only; rw [hn]; exact h))
  rcases h with h | h
  · have g1 : decide (0 ≤ i) = false := decide_eq_false (by omega)
    clear hs hn ha hF hM hcl hw hcc hcut hcut2 hz f0 hrz hzs h
    go_enter Try.func5, Try.ntmps5
    go_upto_region 6 with (first
      | (go_at_call 9; refine (awake_s HI.out _).mono ?_; rintro e wn ⟨rfl, hs⟩; replace H := Lib.hid (Stp.trans H.out hs); replace B0 := Lib.hid (B0.out.keep hs B0.out.lt); clear q0 q1 q2; obtain ⟨⟨q0, q1, q2⟩, -, -, -⟩ := tt_all B0.out; clear hs)
      | (go_at_call 10; (with_reducible refine (Rec.fewr_n ls n Hn.out _ _ _ (Ha.out.keep H.out) HN.out HL.out).mono ?_); rintro e wn ⟨rfl, hs⟩; rw [HF.out]; replace H := Lib.hid (Stp.trans H.out hs); replace B0 := Lib.hid (B0.out.keep hs B0.out.lt); clear q0 q1 q2; obtain ⟨⟨q0, q1, q2⟩, -, -, -⟩ := tt_all B0.out; clear hs)
      | (go_at_call 11; (with_reducible refine (HI.out.may c ls false n HT.out Hn.out _ HM.out _ _ _ (Ha.out.keep H.out)).mono ?_); rintro e wn ⟨rfl, hs⟩; replace H := Lib.hid (Stp.trans H.out hs); replace B0 := Lib.hid (B0.out.keep hs B0.out.lt); clear q0 q1 q2; obtain ⟨⟨q0, q1, q2⟩, -, -, -⟩ := tt_all B0.out; clear hs)
      | (go_at_call 18; (with_reducible refine (HI.out.close c ls false n HT.out Hn.out c ls true n 0 HCL.out Hn.out 0 rfl _ _ _ (Ha.out.keep H.out)).mono ?_); rintro e w5 ⟨Aw5, kw5, rfl, hr, hs, -⟩; have hsA := Stp.alloc hs (.cells (tcs c Aw5 n kw5 true) 24); replace H := Lib.hid (Stp.trans H.out hsA); replace B0 := Lib.hid (B0.out.keep hsA B0.out.lt); have B1 := Lib.hid (Blk.new w5 24 (tcs c Aw5 n kw5 true)); have RB1 := Lib.hid (hr.keep (Stp.alloc (Stp.refl w5) (.cells (tcs c Aw5 n kw5 true) 24))); clear q0 q1 q2; obtain ⟨⟨q0, q1, q2⟩, -, -, -⟩ := tt_all B0.out; obtain ⟨⟨r0, r1, r2⟩, -, -, -⟩ := tt_all B1.out; clear hr hs hsA))
    obtain ⟨W, hW⟩ : ∃ z, w5.alloc (.cells (tcs c Aw5 n kw5 true) 24) = z := ⟨_, rfl⟩
    rw [hW] at H B0 B1 RB1 ⊢
    clear hW q0 q1 q2 r0 r1 r2
    obtain ⟨PB, hPB⟩ : ∃ x, w5.heap.size = x := ⟨_, rfl⟩
    rw [hPB] at B1 ⊢
    clear hPB
    go_cut [9, 10] from 42 (fun sp se wx => (∃ p4, sp = .pointer (some ⟨p4, 0, none⟩)) ∧ se = .int .i64 8 ∧ Hid (Stp W wx))
    case first =>
      obtain ⟨⟨q0, q1, q2⟩, -, -, -⟩ := tt_all (Blk.drew B1.out)
      have hne : W.heap.size ≠ PB := Ne.symm (Nat.ne_of_lt B1.out.lt)
      have X1 := Lib.hid (show Stp W (W.alloc (.cells zs 5)).drew from Stp.drewN (Stp.alloc (Stp.refl W) _) 1)
      have X2 := Lib.hid (show Stp W ((W.alloc (.cells zs 5)).alloc (.cells (tcs 0 none 0 0 false) 24)).drew from Stp.drewN (Stp.alloc (Stp.alloc (Stp.refl W) _) _) 1)
      have X3 := Lib.hid (show Stp W ((W.alloc (.cells (tcs 0 none 0 0 false) 24)).alloc (.cells zs 5)).drew from Stp.drewN (Stp.alloc (Stp.alloc (Stp.refl W) _) _) 1)
      obtain ⟨⟨a3, a4, a5⟩, -, -, -⟩ := tt_all (B1.out.alloc (.cells (tcs 0 none 0 0 false) 24))
      obtain ⟨⟨b3, b4, b5⟩, -, -, -⟩ := tt_all (B1.out.alloc (.cells zs 5))
      obtain ⟨⟨c3, c4, c5⟩, -, -, -⟩ := tt_all ((B1.out.alloc (.cells zs 5)).alloc (.cells (tcs 0 none 0 0 false) 24))
      obtain ⟨⟨d3, d4, d5⟩, -, -, -⟩ := tt_all ((B1.out.alloc (.cells (tcs 0 none 0 0 false) 24)).alloc (.cells zs 5))
      have M1 := Lib.hid ((mk_at Hzs.out Hz.out W).keep (show Stp _ (W.alloc (.cells zs 5)).drew from Stp.drewN (Stp.refl _) 1))
      have M2 := Lib.hid ((mk_at Hzs.out Hz.out W).keep (show Stp _ ((W.alloc (.cells zs 5)).alloc (.cells (tcs 0 none 0 0 false) 24)).drew from Stp.drewN (Stp.alloc (Stp.refl _) _) 1))
      have m3 := (mk_at Hzs.out Hz.out (W.alloc (.cells (tcs 0 none 0 0 false) 24))).keep (show Stp _ ((W.alloc (.cells (tcs 0 none 0 0 false) 24)).alloc (.cells zs 5)).drew from Stp.drewN (Stp.refl _) 1)
      have n2 := (Blk.new (W.alloc (.cells zs 5)) 24 (tcs 0 none 0 0 false)).drew
      rw [World.size_alloc] at n2 m3
      have M3 := Lib.hid m3
      have N2 : Hid (Blk _ (W.heap.size + 1) 24 (tcs 0 none 0 0 false)) := Lib.hid n2
      have N3 : Hid (Blk _ W.heap.size 24 (tcs 0 none 0 0 false)) := Lib.hid (((Blk.new W 24 (tcs 0 none 0 0 false)).alloc (.cells zs 5)).drew)
      clear n2 m3
      have C1 := Lib.hid (HI.out.write c ls true n HTm.out Hn.out z 512 F0.out (by omega) c ls true n 8 HW1.out Hn.out 8 rfl _ _ _ _ _ (RB1.out.keep X1.out) M1.out)
      have C2 := Lib.hid (HI.out.write c ls true n HTm.out Hn.out z 512 F0.out (by omega) c ls true n 8 HW1.out Hn.out 8 rfl _ _ _ _ _ (RB1.out.keep X2.out) M2.out)
      have C3 := Lib.hid (HI.out.write c ls true n HTm.out Hn.out z 512 F0.out (by omega) c ls true n 8 HW1.out Hn.out 8 rfl _ _ _ _ _ (RB1.out.keep X3.out) M3.out)
      go_region_law (first
        | (go_simp; go_at_call 12; (with_reducible refine (C1.out).mono ?_); rintro e w9 ⟨A9, k9, rfl, hr, hs, -⟩; have K := Lib.hid (Stp.trans X1.out hs); clear hr hs)
        | (go_simp; go_at_call 12; (with_reducible refine (C2.out).mono ?_); rintro e w9 ⟨A9, k9, rfl, hr, hs, -⟩; have K := Lib.hid (Stp.trans X2.out hs); have N := Lib.hid (N2.out.keep hs N2.out.lt); clear hr hs; obtain ⟨⟨n0, n1', n2⟩, m0, m1', m2⟩ := tt_all N.out)
        | (go_simp; go_at_call 12; (with_reducible refine (C3.out).mono ?_); rintro e w9 ⟨A9, k9, rfl, hr, hs, -⟩; have K := Lib.hid (Stp.trans X3.out hs); have N := Lib.hid (N3.out.keep hs N3.out.lt); clear hr hs; obtain ⟨⟨n0, n1', n2⟩, m0, m1', m2⟩ := tt_all N.out))
      all_goals first
        | (have R := Stp.alloc K.out (.cells (tcs c A9 n k9 true) 24)
           go_wp2_with fail
           go_meet
           with_reducible exact ⟨⟨_, rfl⟩, rfl, Lib.hid R⟩)
        | (have R := fillt_stp c A9 n k9 true K.out (g := W.heap.size + 1) (Nat.le_add_right _ 1)
           go_wp2_with fail
           go_meet
           with_reducible exact ⟨⟨_, rfl⟩, rfl, Lib.hid R⟩)
        | (have R := fillt_stp c A9 n k9 true K.out (g := W.heap.size) (Nat.le_refl _)
           go_wp2_with fail
           go_meet
           with_reducible exact ⟨⟨_, rfl⟩, rfl, Lib.hid R⟩)
    case rest =>
      obtain ⟨⟨pW7, rfl⟩, rfl, HK⟩ := hcut
      obtain ⟨W7, hW9⟩ : ∃ z, z = wc := ⟨_, rfl⟩
      subst hW9
      replace B0 := Lib.hid (B0.out.keep HK.out B0.out.lt)
      replace B1 := Lib.hid (B1.out.keep HK.out B1.out.lt)
      replace RB1 := Lib.hid (RB1.out.keep HK.out)
      replace H := Lib.hid (Stp.trans H.out HK.out)
      clear HK
      obtain ⟨⟨q0, q1, q2⟩, -, -, -⟩ := tt_all B0.out
      obtain ⟨⟨r0, r1, r2⟩, -, -, -⟩ := tt_all B1.out
      go_upto_region 11 with (first
        | (go_at_call 18; (with_reducible refine (HI.out.close c ls true n HTm.out Hn.out c ls true n 8 HC2.out Hn.out 8 rfl _ _ _ RB1.out).mono ?_); rintro e w7 ⟨Aw7, kw7, rfl, hr, hs, -⟩; have hsA := Stp.alloc hs (.cells (tcs c Aw7 n kw7 true) 24); replace H := Lib.hid (Stp.trans H.out hsA); replace B0 := Lib.hid (B0.out.keep hsA B0.out.lt); replace B1 := Lib.hid (B1.out.keep hsA B1.out.lt); replace RB1 := Lib.hid (RB1.out.keep hsA); have B2 := Lib.hid (Blk.new w7 24 (tcs c Aw7 n kw7 true)); have RB2 := Lib.hid (hr.keep (Stp.alloc (Stp.refl w7) (.cells (tcs c Aw7 n kw7 true) 24))); clear q0 q1 q2; obtain ⟨⟨q0, q1, q2⟩, -, -, -⟩ := tt_all B0.out; clear r0 r1 r2; obtain ⟨⟨r0, r1, r2⟩, -, -, -⟩ := tt_all B1.out; obtain ⟨⟨u0, u1, u2⟩, -, -, -⟩ := tt_all B2.out; clear hr hs hsA)
        | (go_at_call 17; (with_reducible refine (HI.out.cut c ls true n HTm.out Hn.out i hi0 hi1 c ls true n 9 HC.out Hn.out 9 rfl _ _ _ RB1.out).mono ?_); rintro e w8 ⟨Aw8, kw8, rfl, hr, hs, -⟩; have hsA := Stp.alloc hs (.cells (tcs c Aw8 n kw8 true) 24); replace H := Lib.hid (Stp.trans H.out hsA); replace B0 := Lib.hid (B0.out.keep hsA B0.out.lt); replace B1 := Lib.hid (B1.out.keep hsA B1.out.lt); replace B2 := Lib.hid (B2.out.keep hsA B2.out.lt); replace RB1 := Lib.hid (RB1.out.keep hsA); replace RB2 := Lib.hid (RB2.out.keep hsA); have B3 := Lib.hid (Blk.new w8 24 (tcs c Aw8 n kw8 true)); have RB3 := Lib.hid (hr.keep (Stp.alloc (Stp.refl w8) (.cells (tcs c Aw8 n kw8 true) 24))); clear q0 q1 q2; obtain ⟨⟨q0, q1, q2⟩, -, -, -⟩ := tt_all B0.out; clear r0 r1 r2; obtain ⟨⟨r0, r1, r2⟩, -, -, -⟩ := tt_all B1.out; clear u0 u1 u2; obtain ⟨⟨u0, u1, u2⟩, -, -, -⟩ := tt_all B2.out; obtain ⟨⟨v0, v1, v2⟩, -, -, -⟩ := tt_all B3.out; clear hr hs hsA))
      obtain ⟨W, hW⟩ : ∃ z, w8.alloc (.cells (tcs c Aw8 n kw8 true) 24) = z := ⟨_, rfl⟩
      rw [hW] at H B0 B1 B2 B3 RB1 RB2 RB3 ⊢
      clear hW q0 q1 q2 r0 r1 r2 u0 u1 u2 v0 v1 v2
      obtain ⟨PB2, hPB2⟩ : ∃ x, w8.heap.size = x := ⟨_, rfl⟩
      rw [hPB2] at B3 ⊢
      clear hPB2
      go_cut [15, 16] from 83 (fun sp se wx => (∃ p4, sp = .pointer (some ⟨p4, 0, none⟩)) ∧ se = .int .i64 8 ∧ Hid (Stp W wx))
      case first =>
        obtain ⟨⟨q0, q1, q2⟩, -, -, -⟩ := tt_all (Blk.drew B3.out)
        have hne : W.heap.size ≠ PB2 := Ne.symm (Nat.ne_of_lt B3.out.lt)
        have X1 := Lib.hid (show Stp W (W.alloc (.cells zs 5)).drew from Stp.drewN (Stp.alloc (Stp.refl W) _) 1)
        have X2 := Lib.hid (show Stp W ((W.alloc (.cells zs 5)).alloc (.cells (tcs 0 none 0 0 false) 24)).drew from Stp.drewN (Stp.alloc (Stp.alloc (Stp.refl W) _) _) 1)
        have X3 := Lib.hid (show Stp W ((W.alloc (.cells (tcs 0 none 0 0 false) 24)).alloc (.cells zs 5)).drew from Stp.drewN (Stp.alloc (Stp.alloc (Stp.refl W) _) _) 1)
        obtain ⟨⟨a3, a4, a5⟩, -, -, -⟩ := tt_all (B3.out.alloc (.cells (tcs 0 none 0 0 false) 24))
        obtain ⟨⟨b3, b4, b5⟩, -, -, -⟩ := tt_all (B3.out.alloc (.cells zs 5))
        obtain ⟨⟨c3, c4, c5⟩, -, -, -⟩ := tt_all ((B3.out.alloc (.cells zs 5)).alloc (.cells (tcs 0 none 0 0 false) 24))
        obtain ⟨⟨d3, d4, d5⟩, -, -, -⟩ := tt_all ((B3.out.alloc (.cells (tcs 0 none 0 0 false) 24)).alloc (.cells zs 5))
        have M1 := Lib.hid ((mk_at Hzs.out Hz.out W).keep (show Stp _ (W.alloc (.cells zs 5)).drew from Stp.drewN (Stp.refl _) 1))
        have M2 := Lib.hid ((mk_at Hzs.out Hz.out W).keep (show Stp _ ((W.alloc (.cells zs 5)).alloc (.cells (tcs 0 none 0 0 false) 24)).drew from Stp.drewN (Stp.alloc (Stp.refl _) _) 1))
        have m3 := (mk_at Hzs.out Hz.out (W.alloc (.cells (tcs 0 none 0 0 false) 24))).keep (show Stp _ ((W.alloc (.cells (tcs 0 none 0 0 false) 24)).alloc (.cells zs 5)).drew from Stp.drewN (Stp.refl _) 1)
        have n2 := (Blk.new (W.alloc (.cells zs 5)) 24 (tcs 0 none 0 0 false)).drew
        rw [World.size_alloc] at n2 m3
        have M3 := Lib.hid m3
        have N2 : Hid (Blk _ (W.heap.size + 1) 24 (tcs 0 none 0 0 false)) := Lib.hid n2
        have N3 : Hid (Blk _ W.heap.size 24 (tcs 0 none 0 0 false)) := Lib.hid (((Blk.new W 24 (tcs 0 none 0 0 false)).alloc (.cells zs 5)).drew)
        clear n2 m3
        have C1 := Lib.hid (HI.out.write c ls true n HTm.out Hn.out z 512 F0.out (by omega) c ls true n 8 HW1.out Hn.out 8 rfl _ _ _ _ _ (RB3.out.keep X1.out) M1.out)
        have C2 := Lib.hid (HI.out.write c ls true n HTm.out Hn.out z 512 F0.out (by omega) c ls true n 8 HW1.out Hn.out 8 rfl _ _ _ _ _ (RB3.out.keep X2.out) M2.out)
        have C3 := Lib.hid (HI.out.write c ls true n HTm.out Hn.out z 512 F0.out (by omega) c ls true n 8 HW1.out Hn.out 8 rfl _ _ _ _ _ (RB3.out.keep X3.out) M3.out)
        go_region_law (first
          | (go_simp; go_at_call 12; (with_reducible refine (C1.out).mono ?_); rintro e w9 ⟨A9, k9, rfl, hr, hs, -⟩; have K := Lib.hid (Stp.trans X1.out hs); clear hr hs)
          | (go_simp; go_at_call 12; (with_reducible refine (C2.out).mono ?_); rintro e w9 ⟨A9, k9, rfl, hr, hs, -⟩; have K := Lib.hid (Stp.trans X2.out hs); have N := Lib.hid (N2.out.keep hs N2.out.lt); clear hr hs; obtain ⟨⟨n0, n1', n2⟩, m0, m1', m2⟩ := tt_all N.out)
          | (go_simp; go_at_call 12; (with_reducible refine (C3.out).mono ?_); rintro e w9 ⟨A9, k9, rfl, hr, hs, -⟩; have K := Lib.hid (Stp.trans X3.out hs); have N := Lib.hid (N3.out.keep hs N3.out.lt); clear hr hs; obtain ⟨⟨n0, n1', n2⟩, m0, m1', m2⟩ := tt_all N.out))
        all_goals first
          | (have R := Stp.alloc K.out (.cells (tcs c A9 n k9 true) 24)
             go_wp2_with fail
             go_meet
             with_reducible exact ⟨⟨_, rfl⟩, rfl, Lib.hid R⟩)
          | (have R := fillt_stp c A9 n k9 true K.out (g := W.heap.size + 1) (Nat.le_add_right _ 1)
             go_wp2_with fail
             go_meet
             with_reducible exact ⟨⟨_, rfl⟩, rfl, Lib.hid R⟩)
          | (have R := fillt_stp c A9 n k9 true K.out (g := W.heap.size) (Nat.le_refl _)
             go_wp2_with fail
             go_meet
             with_reducible exact ⟨⟨_, rfl⟩, rfl, Lib.hid R⟩)
      case rest =>
        obtain ⟨⟨pW8, rfl⟩, rfl, HK⟩ := hcut
        obtain ⟨W8, hW9⟩ : ∃ z, z = wc := ⟨_, rfl⟩
        subst hW9
        replace B0 := Lib.hid (B0.out.keep HK.out B0.out.lt)
        replace B1 := Lib.hid (B1.out.keep HK.out B1.out.lt)
        replace B2 := Lib.hid (B2.out.keep HK.out B2.out.lt)
        replace B3 := Lib.hid (B3.out.keep HK.out B3.out.lt)
        replace RB1 := Lib.hid (RB1.out.keep HK.out)
        replace RB2 := Lib.hid (RB2.out.keep HK.out)
        replace RB3 := Lib.hid (RB3.out.keep HK.out)
        replace H := Lib.hid (Stp.trans H.out HK.out)
        clear HK
        obtain ⟨⟨q0, q1, q2⟩, -, -, -⟩ := tt_all B0.out
        obtain ⟨⟨r0, r1, r2⟩, -, -, -⟩ := tt_all B1.out
        obtain ⟨⟨u0, u1, u2⟩, -, -, -⟩ := tt_all B2.out
        obtain ⟨⟨v0, v1, v2⟩, -, -, -⟩ := tt_all B3.out
        go_wp2_with fail
        go_ret
        exact ⟨rfl, H.out⟩
  · have g1 : decide (0 ≤ i) = true := decide_eq_true (by omega)
    have g2 : decide (i ≤ (n : Int)) = false := decide_eq_false (by omega)
    clear hs hn ha hF hM hcl hw hcc hcut hcut2 hz f0 hrz hzs h
    go_enter Try.func5, Try.ntmps5
    go_upto_region 6 with (first
      | (go_at_call 9; refine (awake_s HI.out _).mono ?_; rintro e wn ⟨rfl, hs⟩; replace H := Lib.hid (Stp.trans H.out hs); replace B0 := Lib.hid (B0.out.keep hs B0.out.lt); clear q0 q1 q2; obtain ⟨⟨q0, q1, q2⟩, -, -, -⟩ := tt_all B0.out; clear hs)
      | (go_at_call 10; (with_reducible refine (Rec.fewr_n ls n Hn.out _ _ _ (Ha.out.keep H.out) HN.out HL.out).mono ?_); rintro e wn ⟨rfl, hs⟩; rw [HF.out]; replace H := Lib.hid (Stp.trans H.out hs); replace B0 := Lib.hid (B0.out.keep hs B0.out.lt); clear q0 q1 q2; obtain ⟨⟨q0, q1, q2⟩, -, -, -⟩ := tt_all B0.out; clear hs)
      | (go_at_call 11; (with_reducible refine (HI.out.may c ls false n HT.out Hn.out _ HM.out _ _ _ (Ha.out.keep H.out)).mono ?_); rintro e wn ⟨rfl, hs⟩; replace H := Lib.hid (Stp.trans H.out hs); replace B0 := Lib.hid (B0.out.keep hs B0.out.lt); clear q0 q1 q2; obtain ⟨⟨q0, q1, q2⟩, -, -, -⟩ := tt_all B0.out; clear hs)
      | (go_at_call 18; (with_reducible refine (HI.out.close c ls false n HT.out Hn.out c ls true n 0 HCL.out Hn.out 0 rfl _ _ _ (Ha.out.keep H.out)).mono ?_); rintro e w5 ⟨Aw5, kw5, rfl, hr, hs, -⟩; have hsA := Stp.alloc hs (.cells (tcs c Aw5 n kw5 true) 24); replace H := Lib.hid (Stp.trans H.out hsA); replace B0 := Lib.hid (B0.out.keep hsA B0.out.lt); have B1 := Lib.hid (Blk.new w5 24 (tcs c Aw5 n kw5 true)); have RB1 := Lib.hid (hr.keep (Stp.alloc (Stp.refl w5) (.cells (tcs c Aw5 n kw5 true) 24))); clear q0 q1 q2; obtain ⟨⟨q0, q1, q2⟩, -, -, -⟩ := tt_all B0.out; obtain ⟨⟨r0, r1, r2⟩, -, -, -⟩ := tt_all B1.out; clear hr hs hsA))
    obtain ⟨W, hW⟩ : ∃ z, w5.alloc (.cells (tcs c Aw5 n kw5 true) 24) = z := ⟨_, rfl⟩
    rw [hW] at H B0 B1 RB1 ⊢
    clear hW q0 q1 q2 r0 r1 r2
    obtain ⟨PB, hPB⟩ : ∃ x, w5.heap.size = x := ⟨_, rfl⟩
    rw [hPB] at B1 ⊢
    clear hPB
    go_cut [9, 10] from 42 (fun sp se wx => (∃ p4, sp = .pointer (some ⟨p4, 0, none⟩)) ∧ se = .int .i64 8 ∧ Hid (Stp W wx))
    case first =>
      obtain ⟨⟨q0, q1, q2⟩, -, -, -⟩ := tt_all (Blk.drew B1.out)
      have hne : W.heap.size ≠ PB := Ne.symm (Nat.ne_of_lt B1.out.lt)
      have X1 := Lib.hid (show Stp W (W.alloc (.cells zs 5)).drew from Stp.drewN (Stp.alloc (Stp.refl W) _) 1)
      have X2 := Lib.hid (show Stp W ((W.alloc (.cells zs 5)).alloc (.cells (tcs 0 none 0 0 false) 24)).drew from Stp.drewN (Stp.alloc (Stp.alloc (Stp.refl W) _) _) 1)
      have X3 := Lib.hid (show Stp W ((W.alloc (.cells (tcs 0 none 0 0 false) 24)).alloc (.cells zs 5)).drew from Stp.drewN (Stp.alloc (Stp.alloc (Stp.refl W) _) _) 1)
      obtain ⟨⟨a3, a4, a5⟩, -, -, -⟩ := tt_all (B1.out.alloc (.cells (tcs 0 none 0 0 false) 24))
      obtain ⟨⟨b3, b4, b5⟩, -, -, -⟩ := tt_all (B1.out.alloc (.cells zs 5))
      obtain ⟨⟨c3, c4, c5⟩, -, -, -⟩ := tt_all ((B1.out.alloc (.cells zs 5)).alloc (.cells (tcs 0 none 0 0 false) 24))
      obtain ⟨⟨d3, d4, d5⟩, -, -, -⟩ := tt_all ((B1.out.alloc (.cells (tcs 0 none 0 0 false) 24)).alloc (.cells zs 5))
      have M1 := Lib.hid ((mk_at Hzs.out Hz.out W).keep (show Stp _ (W.alloc (.cells zs 5)).drew from Stp.drewN (Stp.refl _) 1))
      have M2 := Lib.hid ((mk_at Hzs.out Hz.out W).keep (show Stp _ ((W.alloc (.cells zs 5)).alloc (.cells (tcs 0 none 0 0 false) 24)).drew from Stp.drewN (Stp.alloc (Stp.refl _) _) 1))
      have m3 := (mk_at Hzs.out Hz.out (W.alloc (.cells (tcs 0 none 0 0 false) 24))).keep (show Stp _ ((W.alloc (.cells (tcs 0 none 0 0 false) 24)).alloc (.cells zs 5)).drew from Stp.drewN (Stp.refl _) 1)
      have n2 := (Blk.new (W.alloc (.cells zs 5)) 24 (tcs 0 none 0 0 false)).drew
      rw [World.size_alloc] at n2 m3
      have M3 := Lib.hid m3
      have N2 : Hid (Blk _ (W.heap.size + 1) 24 (tcs 0 none 0 0 false)) := Lib.hid n2
      have N3 : Hid (Blk _ W.heap.size 24 (tcs 0 none 0 0 false)) := Lib.hid (((Blk.new W 24 (tcs 0 none 0 0 false)).alloc (.cells zs 5)).drew)
      clear n2 m3
      have C1 := Lib.hid (HI.out.write c ls true n HTm.out Hn.out z 512 F0.out (by omega) c ls true n 8 HW1.out Hn.out 8 rfl _ _ _ _ _ (RB1.out.keep X1.out) M1.out)
      have C2 := Lib.hid (HI.out.write c ls true n HTm.out Hn.out z 512 F0.out (by omega) c ls true n 8 HW1.out Hn.out 8 rfl _ _ _ _ _ (RB1.out.keep X2.out) M2.out)
      have C3 := Lib.hid (HI.out.write c ls true n HTm.out Hn.out z 512 F0.out (by omega) c ls true n 8 HW1.out Hn.out 8 rfl _ _ _ _ _ (RB1.out.keep X3.out) M3.out)
      go_region_law (first
        | (go_simp; go_at_call 12; (with_reducible refine (C1.out).mono ?_); rintro e w9 ⟨A9, k9, rfl, hr, hs, -⟩; have K := Lib.hid (Stp.trans X1.out hs); clear hr hs)
        | (go_simp; go_at_call 12; (with_reducible refine (C2.out).mono ?_); rintro e w9 ⟨A9, k9, rfl, hr, hs, -⟩; have K := Lib.hid (Stp.trans X2.out hs); have N := Lib.hid (N2.out.keep hs N2.out.lt); clear hr hs; obtain ⟨⟨n0, n1', n2⟩, m0, m1', m2⟩ := tt_all N.out)
        | (go_simp; go_at_call 12; (with_reducible refine (C3.out).mono ?_); rintro e w9 ⟨A9, k9, rfl, hr, hs, -⟩; have K := Lib.hid (Stp.trans X3.out hs); have N := Lib.hid (N3.out.keep hs N3.out.lt); clear hr hs; obtain ⟨⟨n0, n1', n2⟩, m0, m1', m2⟩ := tt_all N.out))
      all_goals first
        | (have R := Stp.alloc K.out (.cells (tcs c A9 n k9 true) 24)
           go_wp2_with fail
           go_meet
           with_reducible exact ⟨⟨_, rfl⟩, rfl, Lib.hid R⟩)
        | (have R := fillt_stp c A9 n k9 true K.out (g := W.heap.size + 1) (Nat.le_add_right _ 1)
           go_wp2_with fail
           go_meet
           with_reducible exact ⟨⟨_, rfl⟩, rfl, Lib.hid R⟩)
        | (have R := fillt_stp c A9 n k9 true K.out (g := W.heap.size) (Nat.le_refl _)
           go_wp2_with fail
           go_meet
           with_reducible exact ⟨⟨_, rfl⟩, rfl, Lib.hid R⟩)
    case rest =>
      obtain ⟨⟨pW7, rfl⟩, rfl, HK⟩ := hcut
      obtain ⟨W7, hW9⟩ : ∃ z, z = wc := ⟨_, rfl⟩
      subst hW9
      replace B0 := Lib.hid (B0.out.keep HK.out B0.out.lt)
      replace B1 := Lib.hid (B1.out.keep HK.out B1.out.lt)
      replace RB1 := Lib.hid (RB1.out.keep HK.out)
      replace H := Lib.hid (Stp.trans H.out HK.out)
      clear HK
      obtain ⟨⟨q0, q1, q2⟩, -, -, -⟩ := tt_all B0.out
      obtain ⟨⟨r0, r1, r2⟩, -, -, -⟩ := tt_all B1.out
      go_upto_region 11 with (first
        | (go_at_call 18; (with_reducible refine (HI.out.close c ls true n HTm.out Hn.out c ls true n 8 HC2.out Hn.out 8 rfl _ _ _ RB1.out).mono ?_); rintro e w7 ⟨Aw7, kw7, rfl, hr, hs, -⟩; have hsA := Stp.alloc hs (.cells (tcs c Aw7 n kw7 true) 24); replace H := Lib.hid (Stp.trans H.out hsA); replace B0 := Lib.hid (B0.out.keep hsA B0.out.lt); replace B1 := Lib.hid (B1.out.keep hsA B1.out.lt); replace RB1 := Lib.hid (RB1.out.keep hsA); have B2 := Lib.hid (Blk.new w7 24 (tcs c Aw7 n kw7 true)); have RB2 := Lib.hid (hr.keep (Stp.alloc (Stp.refl w7) (.cells (tcs c Aw7 n kw7 true) 24))); clear q0 q1 q2; obtain ⟨⟨q0, q1, q2⟩, -, -, -⟩ := tt_all B0.out; clear r0 r1 r2; obtain ⟨⟨r0, r1, r2⟩, -, -, -⟩ := tt_all B1.out; obtain ⟨⟨u0, u1, u2⟩, -, -, -⟩ := tt_all B2.out; clear hr hs hsA)
        | (go_at_call 17; (with_reducible refine (HI.out.cut c ls true n HTm.out Hn.out i hi0 hi1 c ls true n 9 HC.out Hn.out 9 rfl _ _ _ RB1.out).mono ?_); rintro e w8 ⟨Aw8, kw8, rfl, hr, hs, -⟩; have hsA := Stp.alloc hs (.cells (tcs c Aw8 n kw8 true) 24); replace H := Lib.hid (Stp.trans H.out hsA); replace B0 := Lib.hid (B0.out.keep hsA B0.out.lt); replace B1 := Lib.hid (B1.out.keep hsA B1.out.lt); replace B2 := Lib.hid (B2.out.keep hsA B2.out.lt); replace RB1 := Lib.hid (RB1.out.keep hsA); replace RB2 := Lib.hid (RB2.out.keep hsA); have B3 := Lib.hid (Blk.new w8 24 (tcs c Aw8 n kw8 true)); have RB3 := Lib.hid (hr.keep (Stp.alloc (Stp.refl w8) (.cells (tcs c Aw8 n kw8 true) 24))); clear q0 q1 q2; obtain ⟨⟨q0, q1, q2⟩, -, -, -⟩ := tt_all B0.out; clear r0 r1 r2; obtain ⟨⟨r0, r1, r2⟩, -, -, -⟩ := tt_all B1.out; clear u0 u1 u2; obtain ⟨⟨u0, u1, u2⟩, -, -, -⟩ := tt_all B2.out; obtain ⟨⟨v0, v1, v2⟩, -, -, -⟩ := tt_all B3.out; clear hr hs hsA))
      obtain ⟨W, hW⟩ : ∃ z, w8.alloc (.cells (tcs c Aw8 n kw8 true) 24) = z := ⟨_, rfl⟩
      rw [hW] at H B0 B1 B2 B3 RB1 RB2 RB3 ⊢
      clear hW q0 q1 q2 r0 r1 r2 u0 u1 u2 v0 v1 v2
      obtain ⟨PB2, hPB2⟩ : ∃ x, w8.heap.size = x := ⟨_, rfl⟩
      rw [hPB2] at B3 ⊢
      clear hPB2
      go_cut [15, 16] from 83 (fun sp se wx => (∃ p4, sp = .pointer (some ⟨p4, 0, none⟩)) ∧ se = .int .i64 8 ∧ Hid (Stp W wx))
      case first =>
        obtain ⟨⟨q0, q1, q2⟩, -, -, -⟩ := tt_all (Blk.drew B3.out)
        have hne : W.heap.size ≠ PB2 := Ne.symm (Nat.ne_of_lt B3.out.lt)
        have X1 := Lib.hid (show Stp W (W.alloc (.cells zs 5)).drew from Stp.drewN (Stp.alloc (Stp.refl W) _) 1)
        have X2 := Lib.hid (show Stp W ((W.alloc (.cells zs 5)).alloc (.cells (tcs 0 none 0 0 false) 24)).drew from Stp.drewN (Stp.alloc (Stp.alloc (Stp.refl W) _) _) 1)
        have X3 := Lib.hid (show Stp W ((W.alloc (.cells (tcs 0 none 0 0 false) 24)).alloc (.cells zs 5)).drew from Stp.drewN (Stp.alloc (Stp.alloc (Stp.refl W) _) _) 1)
        obtain ⟨⟨a3, a4, a5⟩, -, -, -⟩ := tt_all (B3.out.alloc (.cells (tcs 0 none 0 0 false) 24))
        obtain ⟨⟨b3, b4, b5⟩, -, -, -⟩ := tt_all (B3.out.alloc (.cells zs 5))
        obtain ⟨⟨c3, c4, c5⟩, -, -, -⟩ := tt_all ((B3.out.alloc (.cells zs 5)).alloc (.cells (tcs 0 none 0 0 false) 24))
        obtain ⟨⟨d3, d4, d5⟩, -, -, -⟩ := tt_all ((B3.out.alloc (.cells (tcs 0 none 0 0 false) 24)).alloc (.cells zs 5))
        have M1 := Lib.hid ((mk_at Hzs.out Hz.out W).keep (show Stp _ (W.alloc (.cells zs 5)).drew from Stp.drewN (Stp.refl _) 1))
        have M2 := Lib.hid ((mk_at Hzs.out Hz.out W).keep (show Stp _ ((W.alloc (.cells zs 5)).alloc (.cells (tcs 0 none 0 0 false) 24)).drew from Stp.drewN (Stp.alloc (Stp.refl _) _) 1))
        have m3 := (mk_at Hzs.out Hz.out (W.alloc (.cells (tcs 0 none 0 0 false) 24))).keep (show Stp _ ((W.alloc (.cells (tcs 0 none 0 0 false) 24)).alloc (.cells zs 5)).drew from Stp.drewN (Stp.refl _) 1)
        have n2 := (Blk.new (W.alloc (.cells zs 5)) 24 (tcs 0 none 0 0 false)).drew
        rw [World.size_alloc] at n2 m3
        have M3 := Lib.hid m3
        have N2 : Hid (Blk _ (W.heap.size + 1) 24 (tcs 0 none 0 0 false)) := Lib.hid n2
        have N3 : Hid (Blk _ W.heap.size 24 (tcs 0 none 0 0 false)) := Lib.hid (((Blk.new W 24 (tcs 0 none 0 0 false)).alloc (.cells zs 5)).drew)
        clear n2 m3
        have C1 := Lib.hid (HI.out.write c ls true n HTm.out Hn.out z 512 F0.out (by omega) c ls true n 8 HW1.out Hn.out 8 rfl _ _ _ _ _ (RB3.out.keep X1.out) M1.out)
        have C2 := Lib.hid (HI.out.write c ls true n HTm.out Hn.out z 512 F0.out (by omega) c ls true n 8 HW1.out Hn.out 8 rfl _ _ _ _ _ (RB3.out.keep X2.out) M2.out)
        have C3 := Lib.hid (HI.out.write c ls true n HTm.out Hn.out z 512 F0.out (by omega) c ls true n 8 HW1.out Hn.out 8 rfl _ _ _ _ _ (RB3.out.keep X3.out) M3.out)
        go_region_law (first
          | (go_simp; go_at_call 12; (with_reducible refine (C1.out).mono ?_); rintro e w9 ⟨A9, k9, rfl, hr, hs, -⟩; have K := Lib.hid (Stp.trans X1.out hs); clear hr hs)
          | (go_simp; go_at_call 12; (with_reducible refine (C2.out).mono ?_); rintro e w9 ⟨A9, k9, rfl, hr, hs, -⟩; have K := Lib.hid (Stp.trans X2.out hs); have N := Lib.hid (N2.out.keep hs N2.out.lt); clear hr hs; obtain ⟨⟨n0, n1', n2⟩, m0, m1', m2⟩ := tt_all N.out)
          | (go_simp; go_at_call 12; (with_reducible refine (C3.out).mono ?_); rintro e w9 ⟨A9, k9, rfl, hr, hs, -⟩; have K := Lib.hid (Stp.trans X3.out hs); have N := Lib.hid (N3.out.keep hs N3.out.lt); clear hr hs; obtain ⟨⟨n0, n1', n2⟩, m0, m1', m2⟩ := tt_all N.out))
        all_goals first
          | (have R := Stp.alloc K.out (.cells (tcs c A9 n k9 true) 24)
             go_wp2_with fail
             go_meet
             with_reducible exact ⟨⟨_, rfl⟩, rfl, Lib.hid R⟩)
          | (have R := fillt_stp c A9 n k9 true K.out (g := W.heap.size + 1) (Nat.le_add_right _ 1)
             go_wp2_with fail
             go_meet
             with_reducible exact ⟨⟨_, rfl⟩, rfl, Lib.hid R⟩)
          | (have R := fillt_stp c A9 n k9 true K.out (g := W.heap.size) (Nat.le_refl _)
             go_wp2_with fail
             go_meet
             with_reducible exact ⟨⟨_, rfl⟩, rfl, Lib.hid R⟩)
      case rest =>
        obtain ⟨⟨pW8, rfl⟩, rfl, HK⟩ := hcut
        obtain ⟨W8, hW9⟩ : ∃ z, z = wc := ⟨_, rfl⟩
        subst hW9
        replace B0 := Lib.hid (B0.out.keep HK.out B0.out.lt)
        replace B1 := Lib.hid (B1.out.keep HK.out B1.out.lt)
        replace B2 := Lib.hid (B2.out.keep HK.out B2.out.lt)
        replace B3 := Lib.hid (B3.out.keep HK.out B3.out.lt)
        replace RB1 := Lib.hid (RB1.out.keep HK.out)
        replace RB2 := Lib.hid (RB2.out.keep HK.out)
        replace RB3 := Lib.hid (RB3.out.keep HK.out)
        replace H := Lib.hid (Stp.trans H.out HK.out)
        clear HK
        obtain ⟨⟨q0, q1, q2⟩, -, -, -⟩ := tt_all B0.out
        obtain ⟨⟨r0, r1, r2⟩, -, -, -⟩ := tt_all B1.out
        obtain ⟨⟨u0, u1, u2⟩, -, -, -⟩ := tt_all B2.out
        obtain ⟨⟨v0, v1, v2⟩, -, -, -⟩ := tt_all B3.out
        go_wp2_with fail
        go_ret
        exact ⟨rfl, H.out⟩
set_option maxRecDepth 100000 in
set_option maxHeartbeats 8000000 in
theorem marks_in (I : TapeI) (c : Int) (ls : List L) (m : Bool) (n : Nat) (hs : SmallT ⟨c, ls, m⟩) (hn : ls.length = n) (A : Option Addr) (k : Nat) (w : World) (ha : RdL w A k ls) (i : Int) (hi0 : -9223372036854775808 ≤ i) (hi1 : i < 9223372036854775808) (hF : Rec.fewR ls = true) (hM : mayT ⟨c, ls, m⟩ = true) (hm : m = false) (p : Nat) (hp : i = (p : Int)) (hpn : p ≤ n) (hc : i < c) :
    Calls Try.prog 5 #[tc c A n k m, .int .i64 i] w fun e w' => e = .returned (.bool true) ∧ Stp w w' := by
  have HI := Lib.hid I
  have HS := Lib.hid hs
  have Ha := Lib.hid ha
  have Hn := Lib.hid hn
  have HL := Lib.hid hs.each
  have HN : Hid (n < 9223372036854775808) := Lib.hid (by rw [← hn]; exact hs.few)
  have H := Lib.hid (Stp.alloc (Stp.refl w) (.cells (tcs c A n k m) 24))
  have B0 := Lib.hid (Blk.new w 24 (tcs c A n k m))
  obtain ⟨⟨q0, q1, q2⟩, -, -, -⟩ := tt_all B0.out
  have b1 := hs.low
  have b2 := hs.high
  dsimp only at b1 b2
  have HF := Lib.hid hF
  have HM := Lib.hid hM
  have HT := Lib.hid (few_of hs hF)
  subst hm
  obtain ⟨hcl, hw, hcc, hcut, hcut2⟩ := marks hM rfl
  obtain ⟨z, hz⟩ : ∃ z, noughts 512 = z := ⟨_, rfl⟩
  have f0 : z.length = 512 := (ex_facts z hz).1
  have hrz : mayR z = true := mayR_iff.2 ⟨by omega, by omega, by omega⟩
  have Hz := Lib.hid hz
  have F0 := Lib.hid f0
  obtain ⟨zs, hzs⟩ : ∃ zs : Array Value, Array.replicate 512 (Value.int .u8 0) = zs := ⟨_, rfl⟩
  have hmk := mk_zs hzs
  have Hzs := Lib.hid hzs
  have HTm := Lib.hid (HT.out.mark true)
  have HCL := Lib.hid hcl
  have HW1 := Lib.hid (hw z hrz)
  have HC2 := Lib.hid hcc
  obtain ⟨hc1, hc2⟩ := hcut i (by omega) (by dsimp only; rw [hn]; omega)
  rw [hp, Int.toNat_natCast] at hc1
  rw [← hp] at hc1
  have hc3 := hc2 z hrz
  rw [hp, Int.toNat_natCast] at hc3
  rw [← hp] at hc3
  have HC := Lib.hid hc1
  have Hp : Hid ((ls.take p).length = p) := Lib.hid (by rw [List.length_take]; omega)
  have HTp := Lib.hid (HTm.out.cut p false)
  have g1 : decide (0 ≤ i) = true := decide_eq_true (by omega)
  have g2 : decide (i ≤ (n : Int)) = true := decide_eq_true (by omega)
  have g3 : ((p : Int) == i) = true := by rw [hp]; simp
  have g4 : decide (i < c) = true := decide_eq_true hc
  obtain ⟨p1, hp1⟩ : ∃ x, p + 1 = x := ⟨_, rfl⟩
  have Hp1 : Hid ((ls.take p ++ [z]).length = p1) := Lib.hid (by rw [List.length_append, Hp.out]; exact hp1)
  obtain ⟨t1, t2, t3, t4⟩ := writeV_ok.1 (hc3.2 hc)
  have HW2 := Lib.hid (writeV_yes t1 t2 t3 t4)
  clear t1 t2 t3 t4 hp1
  clear hs hn ha hF hM hcl hw hcc hcut hcut2 hz f0 hrz hzs hc hc1 hc2 hc3 hp hpn
  go_enter Try.func5, Try.ntmps5
  go_upto_region 6 with (first
    | (go_at_call 9; refine (awake_s HI.out _).mono ?_; rintro e wn ⟨rfl, hs⟩; replace H := Lib.hid (Stp.trans H.out hs); replace B0 := Lib.hid (B0.out.keep hs B0.out.lt); clear q0 q1 q2; obtain ⟨⟨q0, q1, q2⟩, -, -, -⟩ := tt_all B0.out; clear hs)
    | (go_at_call 10; (with_reducible refine (Rec.fewr_n ls n Hn.out _ _ _ (Ha.out.keep H.out) HN.out HL.out).mono ?_); rintro e wn ⟨rfl, hs⟩; rw [HF.out]; replace H := Lib.hid (Stp.trans H.out hs); replace B0 := Lib.hid (B0.out.keep hs B0.out.lt); clear q0 q1 q2; obtain ⟨⟨q0, q1, q2⟩, -, -, -⟩ := tt_all B0.out; clear hs)
    | (go_at_call 11; (with_reducible refine (HI.out.may c ls false n HT.out Hn.out _ HM.out _ _ _ (Ha.out.keep H.out)).mono ?_); rintro e wn ⟨rfl, hs⟩; replace H := Lib.hid (Stp.trans H.out hs); replace B0 := Lib.hid (B0.out.keep hs B0.out.lt); clear q0 q1 q2; obtain ⟨⟨q0, q1, q2⟩, -, -, -⟩ := tt_all B0.out; clear hs)
    | (go_at_call 18; (with_reducible refine (HI.out.close c ls false n HT.out Hn.out c ls true n 0 HCL.out Hn.out 0 rfl _ _ _ (Ha.out.keep H.out)).mono ?_); rintro e w5 ⟨Aw5, kw5, rfl, hr, hs, -⟩; have hsA := Stp.alloc hs (.cells (tcs c Aw5 n kw5 true) 24); replace H := Lib.hid (Stp.trans H.out hsA); replace B0 := Lib.hid (B0.out.keep hsA B0.out.lt); have B1 := Lib.hid (Blk.new w5 24 (tcs c Aw5 n kw5 true)); have RB1 := Lib.hid (hr.keep (Stp.alloc (Stp.refl w5) (.cells (tcs c Aw5 n kw5 true) 24))); clear q0 q1 q2; obtain ⟨⟨q0, q1, q2⟩, -, -, -⟩ := tt_all B0.out; obtain ⟨⟨r0, r1, r2⟩, -, -, -⟩ := tt_all B1.out; clear hr hs hsA))
  obtain ⟨W, hW⟩ : ∃ z, w5.alloc (.cells (tcs c Aw5 n kw5 true) 24) = z := ⟨_, rfl⟩
  rw [hW] at H B0 B1 RB1 ⊢
  clear hW q0 q1 q2 r0 r1 r2
  obtain ⟨PB, hPB⟩ : ∃ x, w5.heap.size = x := ⟨_, rfl⟩
  rw [hPB] at B1 ⊢
  clear hPB
  go_cut [9, 10] from 42 (fun sp se wx => (∃ p4, sp = .pointer (some ⟨p4, 0, none⟩)) ∧ se = .int .i64 8 ∧ Hid (Stp W wx))
  case first =>
    obtain ⟨⟨q0, q1, q2⟩, -, -, -⟩ := tt_all (Blk.drew B1.out)
    have hne : W.heap.size ≠ PB := Ne.symm (Nat.ne_of_lt B1.out.lt)
    have X1 := Lib.hid (show Stp W (W.alloc (.cells zs 5)).drew from Stp.drewN (Stp.alloc (Stp.refl W) _) 1)
    have X2 := Lib.hid (show Stp W ((W.alloc (.cells zs 5)).alloc (.cells (tcs 0 none 0 0 false) 24)).drew from Stp.drewN (Stp.alloc (Stp.alloc (Stp.refl W) _) _) 1)
    have X3 := Lib.hid (show Stp W ((W.alloc (.cells (tcs 0 none 0 0 false) 24)).alloc (.cells zs 5)).drew from Stp.drewN (Stp.alloc (Stp.alloc (Stp.refl W) _) _) 1)
    obtain ⟨⟨a3, a4, a5⟩, -, -, -⟩ := tt_all (B1.out.alloc (.cells (tcs 0 none 0 0 false) 24))
    obtain ⟨⟨b3, b4, b5⟩, -, -, -⟩ := tt_all (B1.out.alloc (.cells zs 5))
    obtain ⟨⟨c3, c4, c5⟩, -, -, -⟩ := tt_all ((B1.out.alloc (.cells zs 5)).alloc (.cells (tcs 0 none 0 0 false) 24))
    obtain ⟨⟨d3, d4, d5⟩, -, -, -⟩ := tt_all ((B1.out.alloc (.cells (tcs 0 none 0 0 false) 24)).alloc (.cells zs 5))
    have M1 := Lib.hid ((mk_at Hzs.out Hz.out W).keep (show Stp _ (W.alloc (.cells zs 5)).drew from Stp.drewN (Stp.refl _) 1))
    have M2 := Lib.hid ((mk_at Hzs.out Hz.out W).keep (show Stp _ ((W.alloc (.cells zs 5)).alloc (.cells (tcs 0 none 0 0 false) 24)).drew from Stp.drewN (Stp.alloc (Stp.refl _) _) 1))
    have m3 := (mk_at Hzs.out Hz.out (W.alloc (.cells (tcs 0 none 0 0 false) 24))).keep (show Stp _ ((W.alloc (.cells (tcs 0 none 0 0 false) 24)).alloc (.cells zs 5)).drew from Stp.drewN (Stp.refl _) 1)
    have n2 := (Blk.new (W.alloc (.cells zs 5)) 24 (tcs 0 none 0 0 false)).drew
    rw [World.size_alloc] at n2 m3
    have M3 := Lib.hid m3
    have N2 : Hid (Blk _ (W.heap.size + 1) 24 (tcs 0 none 0 0 false)) := Lib.hid n2
    have N3 : Hid (Blk _ W.heap.size 24 (tcs 0 none 0 0 false)) := Lib.hid (((Blk.new W 24 (tcs 0 none 0 0 false)).alloc (.cells zs 5)).drew)
    clear n2 m3
    have C1 := Lib.hid (HI.out.write c ls true n HTm.out Hn.out z 512 F0.out (by omega) c ls true n 8 HW1.out Hn.out 8 rfl _ _ _ _ _ (RB1.out.keep X1.out) M1.out)
    have C2 := Lib.hid (HI.out.write c ls true n HTm.out Hn.out z 512 F0.out (by omega) c ls true n 8 HW1.out Hn.out 8 rfl _ _ _ _ _ (RB1.out.keep X2.out) M2.out)
    have C3 := Lib.hid (HI.out.write c ls true n HTm.out Hn.out z 512 F0.out (by omega) c ls true n 8 HW1.out Hn.out 8 rfl _ _ _ _ _ (RB1.out.keep X3.out) M3.out)
    go_region_law (first
      | (go_simp; go_at_call 12; (with_reducible refine (C1.out).mono ?_); rintro e w9 ⟨A9, k9, rfl, hr, hs, -⟩; have K := Lib.hid (Stp.trans X1.out hs); clear hr hs)
      | (go_simp; go_at_call 12; (with_reducible refine (C2.out).mono ?_); rintro e w9 ⟨A9, k9, rfl, hr, hs, -⟩; have K := Lib.hid (Stp.trans X2.out hs); have N := Lib.hid (N2.out.keep hs N2.out.lt); clear hr hs; obtain ⟨⟨n0, n1', n2⟩, m0, m1', m2⟩ := tt_all N.out)
      | (go_simp; go_at_call 12; (with_reducible refine (C3.out).mono ?_); rintro e w9 ⟨A9, k9, rfl, hr, hs, -⟩; have K := Lib.hid (Stp.trans X3.out hs); have N := Lib.hid (N3.out.keep hs N3.out.lt); clear hr hs; obtain ⟨⟨n0, n1', n2⟩, m0, m1', m2⟩ := tt_all N.out))
    all_goals first
      | (have R := Stp.alloc K.out (.cells (tcs c A9 n k9 true) 24)
         go_wp2_with fail
         go_meet
         with_reducible exact ⟨⟨_, rfl⟩, rfl, Lib.hid R⟩)
      | (have R := fillt_stp c A9 n k9 true K.out (g := W.heap.size + 1) (Nat.le_add_right _ 1)
         go_wp2_with fail
         go_meet
         with_reducible exact ⟨⟨_, rfl⟩, rfl, Lib.hid R⟩)
      | (have R := fillt_stp c A9 n k9 true K.out (g := W.heap.size) (Nat.le_refl _)
         go_wp2_with fail
         go_meet
         with_reducible exact ⟨⟨_, rfl⟩, rfl, Lib.hid R⟩)
  case rest =>
    obtain ⟨⟨pW7, rfl⟩, rfl, HK⟩ := hcut
    obtain ⟨W7, hW9⟩ : ∃ z, z = wc := ⟨_, rfl⟩
    subst hW9
    replace B0 := Lib.hid (B0.out.keep HK.out B0.out.lt)
    replace B1 := Lib.hid (B1.out.keep HK.out B1.out.lt)
    replace RB1 := Lib.hid (RB1.out.keep HK.out)
    replace H := Lib.hid (Stp.trans H.out HK.out)
    clear HK
    obtain ⟨⟨q0, q1, q2⟩, -, -, -⟩ := tt_all B0.out
    obtain ⟨⟨r0, r1, r2⟩, -, -, -⟩ := tt_all B1.out
    go_upto_region 11 with (first
      | (go_at_call 18; (with_reducible refine (HI.out.close c ls true n HTm.out Hn.out c ls true n 8 HC2.out Hn.out 8 rfl _ _ _ RB1.out).mono ?_); rintro e w7 ⟨Aw7, kw7, rfl, hr, hs, -⟩; have hsA := Stp.alloc hs (.cells (tcs c Aw7 n kw7 true) 24); replace H := Lib.hid (Stp.trans H.out hsA); replace B0 := Lib.hid (B0.out.keep hsA B0.out.lt); replace B1 := Lib.hid (B1.out.keep hsA B1.out.lt); replace RB1 := Lib.hid (RB1.out.keep hsA); have B2 := Lib.hid (Blk.new w7 24 (tcs c Aw7 n kw7 true)); have RB2 := Lib.hid (hr.keep (Stp.alloc (Stp.refl w7) (.cells (tcs c Aw7 n kw7 true) 24))); clear q0 q1 q2; obtain ⟨⟨q0, q1, q2⟩, -, -, -⟩ := tt_all B0.out; clear r0 r1 r2; obtain ⟨⟨r0, r1, r2⟩, -, -, -⟩ := tt_all B1.out; obtain ⟨⟨u0, u1, u2⟩, -, -, -⟩ := tt_all B2.out; clear hr hs hsA)
      | (go_at_call 17; (with_reducible refine (HI.out.cut c ls true n HTm.out Hn.out i hi0 hi1 c (ls.take p) false p 0 HC.out Hp.out 0 rfl _ _ _ RB1.out).mono ?_); rintro e w8 ⟨Aw8, kw8, rfl, hr, hs, -⟩; have hsA := Stp.alloc hs (.cells (tcs c Aw8 p kw8 false) 24); replace H := Lib.hid (Stp.trans H.out hsA); replace B0 := Lib.hid (B0.out.keep hsA B0.out.lt); replace B1 := Lib.hid (B1.out.keep hsA B1.out.lt); replace B2 := Lib.hid (B2.out.keep hsA B2.out.lt); replace RB1 := Lib.hid (RB1.out.keep hsA); replace RB2 := Lib.hid (RB2.out.keep hsA); have B3 := Lib.hid (Blk.new w8 24 (tcs c Aw8 p kw8 false)); have RB3 := Lib.hid (hr.keep (Stp.alloc (Stp.refl w8) (.cells (tcs c Aw8 p kw8 false) 24))); clear q0 q1 q2; obtain ⟨⟨q0, q1, q2⟩, -, -, -⟩ := tt_all B0.out; clear r0 r1 r2; obtain ⟨⟨r0, r1, r2⟩, -, -, -⟩ := tt_all B1.out; clear u0 u1 u2; obtain ⟨⟨u0, u1, u2⟩, -, -, -⟩ := tt_all B2.out; obtain ⟨⟨v0, v1, v2⟩, -, -, -⟩ := tt_all B3.out; clear hr hs hsA))
    obtain ⟨W, hW⟩ : ∃ z, w8.alloc (.cells (tcs c Aw8 p kw8 false) 24) = z := ⟨_, rfl⟩
    rw [hW] at H B0 B1 B2 B3 RB1 RB2 RB3 ⊢
    clear hW q0 q1 q2 r0 r1 r2 u0 u1 u2 v0 v1 v2
    obtain ⟨PB2, hPB2⟩ : ∃ x, w8.heap.size = x := ⟨_, rfl⟩
    rw [hPB2] at B3 ⊢
    clear hPB2
    go_cut [15, 16] from 83 (fun sp se wx => (∃ p4, sp = .pointer (some ⟨p4, 0, none⟩)) ∧ se = .int .i64 0 ∧ Hid (Stp W wx))
    case first =>
      obtain ⟨⟨q0, q1, q2⟩, -, -, -⟩ := tt_all (Blk.drew B3.out)
      have hne : W.heap.size ≠ PB2 := Ne.symm (Nat.ne_of_lt B3.out.lt)
      have X1 := Lib.hid (show Stp W (W.alloc (.cells zs 5)).drew from Stp.drewN (Stp.alloc (Stp.refl W) _) 1)
      have X2 := Lib.hid (show Stp W ((W.alloc (.cells zs 5)).alloc (.cells (tcs 0 none 0 0 false) 24)).drew from Stp.drewN (Stp.alloc (Stp.alloc (Stp.refl W) _) _) 1)
      have X3 := Lib.hid (show Stp W ((W.alloc (.cells (tcs 0 none 0 0 false) 24)).alloc (.cells zs 5)).drew from Stp.drewN (Stp.alloc (Stp.alloc (Stp.refl W) _) _) 1)
      obtain ⟨⟨a3, a4, a5⟩, -, -, -⟩ := tt_all (B3.out.alloc (.cells (tcs 0 none 0 0 false) 24))
      obtain ⟨⟨b3, b4, b5⟩, -, -, -⟩ := tt_all (B3.out.alloc (.cells zs 5))
      obtain ⟨⟨c3, c4, c5⟩, -, -, -⟩ := tt_all ((B3.out.alloc (.cells zs 5)).alloc (.cells (tcs 0 none 0 0 false) 24))
      obtain ⟨⟨d3, d4, d5⟩, -, -, -⟩ := tt_all ((B3.out.alloc (.cells (tcs 0 none 0 0 false) 24)).alloc (.cells zs 5))
      have M1 := Lib.hid ((mk_at Hzs.out Hz.out W).keep (show Stp _ (W.alloc (.cells zs 5)).drew from Stp.drewN (Stp.refl _) 1))
      have M2 := Lib.hid ((mk_at Hzs.out Hz.out W).keep (show Stp _ ((W.alloc (.cells zs 5)).alloc (.cells (tcs 0 none 0 0 false) 24)).drew from Stp.drewN (Stp.alloc (Stp.refl _) _) 1))
      have m3 := (mk_at Hzs.out Hz.out (W.alloc (.cells (tcs 0 none 0 0 false) 24))).keep (show Stp _ ((W.alloc (.cells (tcs 0 none 0 0 false) 24)).alloc (.cells zs 5)).drew from Stp.drewN (Stp.refl _) 1)
      have n2 := (Blk.new (W.alloc (.cells zs 5)) 24 (tcs 0 none 0 0 false)).drew
      rw [World.size_alloc] at n2 m3
      have M3 := Lib.hid m3
      have N2 : Hid (Blk _ (W.heap.size + 1) 24 (tcs 0 none 0 0 false)) := Lib.hid n2
      have N3 : Hid (Blk _ W.heap.size 24 (tcs 0 none 0 0 false)) := Lib.hid (((Blk.new W 24 (tcs 0 none 0 0 false)).alloc (.cells zs 5)).drew)
      clear n2 m3
      have C1 := Lib.hid (HI.out.write c (ls.take p) false p HTp.out Hp.out z 512 F0.out (by omega) c (ls.take p ++ [z]) false p1 0 HW2.out Hp1.out 0 rfl _ _ _ _ _ (RB3.out.keep X1.out) M1.out)
      have C2 := Lib.hid (HI.out.write c (ls.take p) false p HTp.out Hp.out z 512 F0.out (by omega) c (ls.take p ++ [z]) false p1 0 HW2.out Hp1.out 0 rfl _ _ _ _ _ (RB3.out.keep X2.out) M2.out)
      have C3 := Lib.hid (HI.out.write c (ls.take p) false p HTp.out Hp.out z 512 F0.out (by omega) c (ls.take p ++ [z]) false p1 0 HW2.out Hp1.out 0 rfl _ _ _ _ _ (RB3.out.keep X3.out) M3.out)
      go_region_law (first
        | (go_simp; go_at_call 12; (with_reducible refine (C1.out).mono ?_); rintro e w9 ⟨A9, k9, rfl, hr, hs, -⟩; have K := Lib.hid (Stp.trans X1.out hs); clear hr hs)
        | (go_simp; go_at_call 12; (with_reducible refine (C2.out).mono ?_); rintro e w9 ⟨A9, k9, rfl, hr, hs, -⟩; have K := Lib.hid (Stp.trans X2.out hs); have N := Lib.hid (N2.out.keep hs N2.out.lt); clear hr hs; obtain ⟨⟨n0, n1', n2⟩, m0, m1', m2⟩ := tt_all N.out)
        | (go_simp; go_at_call 12; (with_reducible refine (C3.out).mono ?_); rintro e w9 ⟨A9, k9, rfl, hr, hs, -⟩; have K := Lib.hid (Stp.trans X3.out hs); have N := Lib.hid (N3.out.keep hs N3.out.lt); clear hr hs; obtain ⟨⟨n0, n1', n2⟩, m0, m1', m2⟩ := tt_all N.out))
      all_goals first
        | (have R := Stp.alloc K.out (.cells (tcs c A9 p1 k9 false) 24)
           go_wp2_with fail
           go_meet
           with_reducible exact ⟨⟨_, rfl⟩, rfl, Lib.hid R⟩)
        | (have R := fillt_stp c A9 p1 k9 false K.out (g := W.heap.size + 1) (Nat.le_add_right _ 1)
           go_wp2_with fail
           go_meet
           with_reducible exact ⟨⟨_, rfl⟩, rfl, Lib.hid R⟩)
        | (have R := fillt_stp c A9 p1 k9 false K.out (g := W.heap.size) (Nat.le_refl _)
           go_wp2_with fail
           go_meet
           with_reducible exact ⟨⟨_, rfl⟩, rfl, Lib.hid R⟩)
    case rest =>
      obtain ⟨⟨pW8, rfl⟩, rfl, HK⟩ := hcut
      obtain ⟨W8, hW9⟩ : ∃ z, z = wc := ⟨_, rfl⟩
      subst hW9
      replace B0 := Lib.hid (B0.out.keep HK.out B0.out.lt)
      replace B1 := Lib.hid (B1.out.keep HK.out B1.out.lt)
      replace B2 := Lib.hid (B2.out.keep HK.out B2.out.lt)
      replace B3 := Lib.hid (B3.out.keep HK.out B3.out.lt)
      replace RB1 := Lib.hid (RB1.out.keep HK.out)
      replace RB2 := Lib.hid (RB2.out.keep HK.out)
      replace RB3 := Lib.hid (RB3.out.keep HK.out)
      replace H := Lib.hid (Stp.trans H.out HK.out)
      clear HK
      obtain ⟨⟨q0, q1, q2⟩, -, -, -⟩ := tt_all B0.out
      obtain ⟨⟨r0, r1, r2⟩, -, -, -⟩ := tt_all B1.out
      obtain ⟨⟨u0, u1, u2⟩, -, -, -⟩ := tt_all B2.out
      obtain ⟨⟨v0, v1, v2⟩, -, -, -⟩ := tt_all B3.out
      go_wp2_with fail
      go_ret
      exact ⟨rfl, H.out⟩
set_option maxRecDepth 100000 in
set_option maxHeartbeats 8000000 in
theorem marks_full (I : TapeI) (c : Int) (ls : List L) (m : Bool) (n : Nat) (hs : SmallT ⟨c, ls, m⟩) (hn : ls.length = n) (A : Option Addr) (k : Nat) (w : World) (ha : RdL w A k ls) (i : Int) (hi0 : -9223372036854775808 ≤ i) (hi1 : i < 9223372036854775808) (hF : Rec.fewR ls = true) (hM : mayT ⟨c, ls, m⟩ = true) (hm : m = false) (p : Nat) (hp : i = (p : Int)) (hpn : p ≤ n) (hc : ¬ i < c) :
    Calls Try.prog 5 #[tc c A n k m, .int .i64 i] w fun e w' => e = .returned (.bool true) ∧ Stp w w' := by
  have HI := Lib.hid I
  have HS := Lib.hid hs
  have Ha := Lib.hid ha
  have Hn := Lib.hid hn
  have HL := Lib.hid hs.each
  have HN : Hid (n < 9223372036854775808) := Lib.hid (by rw [← hn]; exact hs.few)
  have H := Lib.hid (Stp.alloc (Stp.refl w) (.cells (tcs c A n k m) 24))
  have B0 := Lib.hid (Blk.new w 24 (tcs c A n k m))
  obtain ⟨⟨q0, q1, q2⟩, -, -, -⟩ := tt_all B0.out
  have b1 := hs.low
  have b2 := hs.high
  dsimp only at b1 b2
  have HF := Lib.hid hF
  have HM := Lib.hid hM
  have HT := Lib.hid (few_of hs hF)
  subst hm
  obtain ⟨hcl, hw, hcc, hcut, hcut2⟩ := marks hM rfl
  obtain ⟨z, hz⟩ : ∃ z, noughts 512 = z := ⟨_, rfl⟩
  have f0 : z.length = 512 := (ex_facts z hz).1
  have hrz : mayR z = true := mayR_iff.2 ⟨by omega, by omega, by omega⟩
  have Hz := Lib.hid hz
  have F0 := Lib.hid f0
  obtain ⟨zs, hzs⟩ : ∃ zs : Array Value, Array.replicate 512 (Value.int .u8 0) = zs := ⟨_, rfl⟩
  have hmk := mk_zs hzs
  have Hzs := Lib.hid hzs
  have HTm := Lib.hid (HT.out.mark true)
  have HCL := Lib.hid hcl
  have HW1 := Lib.hid (hw z hrz)
  have HC2 := Lib.hid hcc
  obtain ⟨hc1, hc2⟩ := hcut i (by omega) (by dsimp only; rw [hn]; omega)
  rw [hp, Int.toNat_natCast] at hc1
  rw [← hp] at hc1
  have hc3 := hc2 z hrz
  rw [hp, Int.toNat_natCast] at hc3
  rw [← hp] at hc3
  have HC := Lib.hid hc1
  have Hp : Hid ((ls.take p).length = p) := Lib.hid (by rw [List.length_take]; omega)
  have HTp := Lib.hid (HTm.out.cut p false)
  have g1 : decide (0 ≤ i) = true := decide_eq_true (by omega)
  have g2 : decide (i ≤ (n : Int)) = true := decide_eq_true (by omega)
  have g3 : ((p : Int) == i) = true := by rw [hp]; simp
  have g4 : decide (i < c) = false := decide_eq_false hc
  have HW2 : Hid (writeV ⟨c, ls.take p, false⟩ z = (⟨c, ls.take p, false⟩, 8)) := Lib.hid (by
    rw [writeV, mayT_take hM p false, hrz, if_neg (by simp), if_pos]
    refine .inr ?_
    dsimp only
    rw [Hp.out]
    omega)
  clear hs hn ha hF hM hcl hw hcc hcut hcut2 hz f0 hrz hzs hc hc1 hc2 hc3 hp hpn
  go_enter Try.func5, Try.ntmps5
  go_upto_region 6 with (first
    | (go_at_call 9; refine (awake_s HI.out _).mono ?_; rintro e wn ⟨rfl, hs⟩; replace H := Lib.hid (Stp.trans H.out hs); replace B0 := Lib.hid (B0.out.keep hs B0.out.lt); clear q0 q1 q2; obtain ⟨⟨q0, q1, q2⟩, -, -, -⟩ := tt_all B0.out; clear hs)
    | (go_at_call 10; (with_reducible refine (Rec.fewr_n ls n Hn.out _ _ _ (Ha.out.keep H.out) HN.out HL.out).mono ?_); rintro e wn ⟨rfl, hs⟩; rw [HF.out]; replace H := Lib.hid (Stp.trans H.out hs); replace B0 := Lib.hid (B0.out.keep hs B0.out.lt); clear q0 q1 q2; obtain ⟨⟨q0, q1, q2⟩, -, -, -⟩ := tt_all B0.out; clear hs)
    | (go_at_call 11; (with_reducible refine (HI.out.may c ls false n HT.out Hn.out _ HM.out _ _ _ (Ha.out.keep H.out)).mono ?_); rintro e wn ⟨rfl, hs⟩; replace H := Lib.hid (Stp.trans H.out hs); replace B0 := Lib.hid (B0.out.keep hs B0.out.lt); clear q0 q1 q2; obtain ⟨⟨q0, q1, q2⟩, -, -, -⟩ := tt_all B0.out; clear hs)
    | (go_at_call 18; (with_reducible refine (HI.out.close c ls false n HT.out Hn.out c ls true n 0 HCL.out Hn.out 0 rfl _ _ _ (Ha.out.keep H.out)).mono ?_); rintro e w5 ⟨Aw5, kw5, rfl, hr, hs, -⟩; have hsA := Stp.alloc hs (.cells (tcs c Aw5 n kw5 true) 24); replace H := Lib.hid (Stp.trans H.out hsA); replace B0 := Lib.hid (B0.out.keep hsA B0.out.lt); have B1 := Lib.hid (Blk.new w5 24 (tcs c Aw5 n kw5 true)); have RB1 := Lib.hid (hr.keep (Stp.alloc (Stp.refl w5) (.cells (tcs c Aw5 n kw5 true) 24))); clear q0 q1 q2; obtain ⟨⟨q0, q1, q2⟩, -, -, -⟩ := tt_all B0.out; obtain ⟨⟨r0, r1, r2⟩, -, -, -⟩ := tt_all B1.out; clear hr hs hsA))
  obtain ⟨W, hW⟩ : ∃ z, w5.alloc (.cells (tcs c Aw5 n kw5 true) 24) = z := ⟨_, rfl⟩
  rw [hW] at H B0 B1 RB1 ⊢
  clear hW q0 q1 q2 r0 r1 r2
  obtain ⟨PB, hPB⟩ : ∃ x, w5.heap.size = x := ⟨_, rfl⟩
  rw [hPB] at B1 ⊢
  clear hPB
  go_cut [9, 10] from 42 (fun sp se wx => (∃ p4, sp = .pointer (some ⟨p4, 0, none⟩)) ∧ se = .int .i64 8 ∧ Hid (Stp W wx))
  case first =>
    obtain ⟨⟨q0, q1, q2⟩, -, -, -⟩ := tt_all (Blk.drew B1.out)
    have hne : W.heap.size ≠ PB := Ne.symm (Nat.ne_of_lt B1.out.lt)
    have X1 := Lib.hid (show Stp W (W.alloc (.cells zs 5)).drew from Stp.drewN (Stp.alloc (Stp.refl W) _) 1)
    have X2 := Lib.hid (show Stp W ((W.alloc (.cells zs 5)).alloc (.cells (tcs 0 none 0 0 false) 24)).drew from Stp.drewN (Stp.alloc (Stp.alloc (Stp.refl W) _) _) 1)
    have X3 := Lib.hid (show Stp W ((W.alloc (.cells (tcs 0 none 0 0 false) 24)).alloc (.cells zs 5)).drew from Stp.drewN (Stp.alloc (Stp.alloc (Stp.refl W) _) _) 1)
    obtain ⟨⟨a3, a4, a5⟩, -, -, -⟩ := tt_all (B1.out.alloc (.cells (tcs 0 none 0 0 false) 24))
    obtain ⟨⟨b3, b4, b5⟩, -, -, -⟩ := tt_all (B1.out.alloc (.cells zs 5))
    obtain ⟨⟨c3, c4, c5⟩, -, -, -⟩ := tt_all ((B1.out.alloc (.cells zs 5)).alloc (.cells (tcs 0 none 0 0 false) 24))
    obtain ⟨⟨d3, d4, d5⟩, -, -, -⟩ := tt_all ((B1.out.alloc (.cells (tcs 0 none 0 0 false) 24)).alloc (.cells zs 5))
    have M1 := Lib.hid ((mk_at Hzs.out Hz.out W).keep (show Stp _ (W.alloc (.cells zs 5)).drew from Stp.drewN (Stp.refl _) 1))
    have M2 := Lib.hid ((mk_at Hzs.out Hz.out W).keep (show Stp _ ((W.alloc (.cells zs 5)).alloc (.cells (tcs 0 none 0 0 false) 24)).drew from Stp.drewN (Stp.alloc (Stp.refl _) _) 1))
    have m3 := (mk_at Hzs.out Hz.out (W.alloc (.cells (tcs 0 none 0 0 false) 24))).keep (show Stp _ ((W.alloc (.cells (tcs 0 none 0 0 false) 24)).alloc (.cells zs 5)).drew from Stp.drewN (Stp.refl _) 1)
    have n2 := (Blk.new (W.alloc (.cells zs 5)) 24 (tcs 0 none 0 0 false)).drew
    rw [World.size_alloc] at n2 m3
    have M3 := Lib.hid m3
    have N2 : Hid (Blk _ (W.heap.size + 1) 24 (tcs 0 none 0 0 false)) := Lib.hid n2
    have N3 : Hid (Blk _ W.heap.size 24 (tcs 0 none 0 0 false)) := Lib.hid (((Blk.new W 24 (tcs 0 none 0 0 false)).alloc (.cells zs 5)).drew)
    clear n2 m3
    have C1 := Lib.hid (HI.out.write c ls true n HTm.out Hn.out z 512 F0.out (by omega) c ls true n 8 HW1.out Hn.out 8 rfl _ _ _ _ _ (RB1.out.keep X1.out) M1.out)
    have C2 := Lib.hid (HI.out.write c ls true n HTm.out Hn.out z 512 F0.out (by omega) c ls true n 8 HW1.out Hn.out 8 rfl _ _ _ _ _ (RB1.out.keep X2.out) M2.out)
    have C3 := Lib.hid (HI.out.write c ls true n HTm.out Hn.out z 512 F0.out (by omega) c ls true n 8 HW1.out Hn.out 8 rfl _ _ _ _ _ (RB1.out.keep X3.out) M3.out)
    go_region_law (first
      | (go_simp; go_at_call 12; (with_reducible refine (C1.out).mono ?_); rintro e w9 ⟨A9, k9, rfl, hr, hs, -⟩; have K := Lib.hid (Stp.trans X1.out hs); clear hr hs)
      | (go_simp; go_at_call 12; (with_reducible refine (C2.out).mono ?_); rintro e w9 ⟨A9, k9, rfl, hr, hs, -⟩; have K := Lib.hid (Stp.trans X2.out hs); have N := Lib.hid (N2.out.keep hs N2.out.lt); clear hr hs; obtain ⟨⟨n0, n1', n2⟩, m0, m1', m2⟩ := tt_all N.out)
      | (go_simp; go_at_call 12; (with_reducible refine (C3.out).mono ?_); rintro e w9 ⟨A9, k9, rfl, hr, hs, -⟩; have K := Lib.hid (Stp.trans X3.out hs); have N := Lib.hid (N3.out.keep hs N3.out.lt); clear hr hs; obtain ⟨⟨n0, n1', n2⟩, m0, m1', m2⟩ := tt_all N.out))
    all_goals first
      | (have R := Stp.alloc K.out (.cells (tcs c A9 n k9 true) 24)
         go_wp2_with fail
         go_meet
         with_reducible exact ⟨⟨_, rfl⟩, rfl, Lib.hid R⟩)
      | (have R := fillt_stp c A9 n k9 true K.out (g := W.heap.size + 1) (Nat.le_add_right _ 1)
         go_wp2_with fail
         go_meet
         with_reducible exact ⟨⟨_, rfl⟩, rfl, Lib.hid R⟩)
      | (have R := fillt_stp c A9 n k9 true K.out (g := W.heap.size) (Nat.le_refl _)
         go_wp2_with fail
         go_meet
         with_reducible exact ⟨⟨_, rfl⟩, rfl, Lib.hid R⟩)
  case rest =>
    obtain ⟨⟨pW7, rfl⟩, rfl, HK⟩ := hcut
    obtain ⟨W7, hW9⟩ : ∃ z, z = wc := ⟨_, rfl⟩
    subst hW9
    replace B0 := Lib.hid (B0.out.keep HK.out B0.out.lt)
    replace B1 := Lib.hid (B1.out.keep HK.out B1.out.lt)
    replace RB1 := Lib.hid (RB1.out.keep HK.out)
    replace H := Lib.hid (Stp.trans H.out HK.out)
    clear HK
    obtain ⟨⟨q0, q1, q2⟩, -, -, -⟩ := tt_all B0.out
    obtain ⟨⟨r0, r1, r2⟩, -, -, -⟩ := tt_all B1.out
    go_upto_region 11 with (first
      | (go_at_call 18; (with_reducible refine (HI.out.close c ls true n HTm.out Hn.out c ls true n 8 HC2.out Hn.out 8 rfl _ _ _ RB1.out).mono ?_); rintro e w7 ⟨Aw7, kw7, rfl, hr, hs, -⟩; have hsA := Stp.alloc hs (.cells (tcs c Aw7 n kw7 true) 24); replace H := Lib.hid (Stp.trans H.out hsA); replace B0 := Lib.hid (B0.out.keep hsA B0.out.lt); replace B1 := Lib.hid (B1.out.keep hsA B1.out.lt); replace RB1 := Lib.hid (RB1.out.keep hsA); have B2 := Lib.hid (Blk.new w7 24 (tcs c Aw7 n kw7 true)); have RB2 := Lib.hid (hr.keep (Stp.alloc (Stp.refl w7) (.cells (tcs c Aw7 n kw7 true) 24))); clear q0 q1 q2; obtain ⟨⟨q0, q1, q2⟩, -, -, -⟩ := tt_all B0.out; clear r0 r1 r2; obtain ⟨⟨r0, r1, r2⟩, -, -, -⟩ := tt_all B1.out; obtain ⟨⟨u0, u1, u2⟩, -, -, -⟩ := tt_all B2.out; clear hr hs hsA)
      | (go_at_call 17; (with_reducible refine (HI.out.cut c ls true n HTm.out Hn.out i hi0 hi1 c (ls.take p) false p 0 HC.out Hp.out 0 rfl _ _ _ RB1.out).mono ?_); rintro e w8 ⟨Aw8, kw8, rfl, hr, hs, -⟩; have hsA := Stp.alloc hs (.cells (tcs c Aw8 p kw8 false) 24); replace H := Lib.hid (Stp.trans H.out hsA); replace B0 := Lib.hid (B0.out.keep hsA B0.out.lt); replace B1 := Lib.hid (B1.out.keep hsA B1.out.lt); replace B2 := Lib.hid (B2.out.keep hsA B2.out.lt); replace RB1 := Lib.hid (RB1.out.keep hsA); replace RB2 := Lib.hid (RB2.out.keep hsA); have B3 := Lib.hid (Blk.new w8 24 (tcs c Aw8 p kw8 false)); have RB3 := Lib.hid (hr.keep (Stp.alloc (Stp.refl w8) (.cells (tcs c Aw8 p kw8 false) 24))); clear q0 q1 q2; obtain ⟨⟨q0, q1, q2⟩, -, -, -⟩ := tt_all B0.out; clear r0 r1 r2; obtain ⟨⟨r0, r1, r2⟩, -, -, -⟩ := tt_all B1.out; clear u0 u1 u2; obtain ⟨⟨u0, u1, u2⟩, -, -, -⟩ := tt_all B2.out; obtain ⟨⟨v0, v1, v2⟩, -, -, -⟩ := tt_all B3.out; clear hr hs hsA))
    obtain ⟨W, hW⟩ : ∃ z, w8.alloc (.cells (tcs c Aw8 p kw8 false) 24) = z := ⟨_, rfl⟩
    rw [hW] at H B0 B1 B2 B3 RB1 RB2 RB3 ⊢
    clear hW q0 q1 q2 r0 r1 r2 u0 u1 u2 v0 v1 v2
    obtain ⟨PB2, hPB2⟩ : ∃ x, w8.heap.size = x := ⟨_, rfl⟩
    rw [hPB2] at B3 ⊢
    clear hPB2
    go_cut [15, 16] from 83 (fun sp se wx => (∃ p4, sp = .pointer (some ⟨p4, 0, none⟩)) ∧ se = .int .i64 8 ∧ Hid (Stp W wx))
    case first =>
      obtain ⟨⟨q0, q1, q2⟩, -, -, -⟩ := tt_all (Blk.drew B3.out)
      have hne : W.heap.size ≠ PB2 := Ne.symm (Nat.ne_of_lt B3.out.lt)
      have X1 := Lib.hid (show Stp W (W.alloc (.cells zs 5)).drew from Stp.drewN (Stp.alloc (Stp.refl W) _) 1)
      have X2 := Lib.hid (show Stp W ((W.alloc (.cells zs 5)).alloc (.cells (tcs 0 none 0 0 false) 24)).drew from Stp.drewN (Stp.alloc (Stp.alloc (Stp.refl W) _) _) 1)
      have X3 := Lib.hid (show Stp W ((W.alloc (.cells (tcs 0 none 0 0 false) 24)).alloc (.cells zs 5)).drew from Stp.drewN (Stp.alloc (Stp.alloc (Stp.refl W) _) _) 1)
      obtain ⟨⟨a3, a4, a5⟩, -, -, -⟩ := tt_all (B3.out.alloc (.cells (tcs 0 none 0 0 false) 24))
      obtain ⟨⟨b3, b4, b5⟩, -, -, -⟩ := tt_all (B3.out.alloc (.cells zs 5))
      obtain ⟨⟨c3, c4, c5⟩, -, -, -⟩ := tt_all ((B3.out.alloc (.cells zs 5)).alloc (.cells (tcs 0 none 0 0 false) 24))
      obtain ⟨⟨d3, d4, d5⟩, -, -, -⟩ := tt_all ((B3.out.alloc (.cells (tcs 0 none 0 0 false) 24)).alloc (.cells zs 5))
      have M1 := Lib.hid ((mk_at Hzs.out Hz.out W).keep (show Stp _ (W.alloc (.cells zs 5)).drew from Stp.drewN (Stp.refl _) 1))
      have M2 := Lib.hid ((mk_at Hzs.out Hz.out W).keep (show Stp _ ((W.alloc (.cells zs 5)).alloc (.cells (tcs 0 none 0 0 false) 24)).drew from Stp.drewN (Stp.alloc (Stp.refl _) _) 1))
      have m3 := (mk_at Hzs.out Hz.out (W.alloc (.cells (tcs 0 none 0 0 false) 24))).keep (show Stp _ ((W.alloc (.cells (tcs 0 none 0 0 false) 24)).alloc (.cells zs 5)).drew from Stp.drewN (Stp.refl _) 1)
      have n2 := (Blk.new (W.alloc (.cells zs 5)) 24 (tcs 0 none 0 0 false)).drew
      rw [World.size_alloc] at n2 m3
      have M3 := Lib.hid m3
      have N2 : Hid (Blk _ (W.heap.size + 1) 24 (tcs 0 none 0 0 false)) := Lib.hid n2
      have N3 : Hid (Blk _ W.heap.size 24 (tcs 0 none 0 0 false)) := Lib.hid (((Blk.new W 24 (tcs 0 none 0 0 false)).alloc (.cells zs 5)).drew)
      clear n2 m3
      have C1 := Lib.hid (HI.out.write c (ls.take p) false p HTp.out Hp.out z 512 F0.out (by omega) c (ls.take p) false p 8 HW2.out Hp.out 8 rfl _ _ _ _ _ (RB3.out.keep X1.out) M1.out)
      have C2 := Lib.hid (HI.out.write c (ls.take p) false p HTp.out Hp.out z 512 F0.out (by omega) c (ls.take p) false p 8 HW2.out Hp.out 8 rfl _ _ _ _ _ (RB3.out.keep X2.out) M2.out)
      have C3 := Lib.hid (HI.out.write c (ls.take p) false p HTp.out Hp.out z 512 F0.out (by omega) c (ls.take p) false p 8 HW2.out Hp.out 8 rfl _ _ _ _ _ (RB3.out.keep X3.out) M3.out)
      go_region_law (first
        | (go_simp; go_at_call 12; (with_reducible refine (C1.out).mono ?_); rintro e w9 ⟨A9, k9, rfl, hr, hs, -⟩; have K := Lib.hid (Stp.trans X1.out hs); clear hr hs)
        | (go_simp; go_at_call 12; (with_reducible refine (C2.out).mono ?_); rintro e w9 ⟨A9, k9, rfl, hr, hs, -⟩; have K := Lib.hid (Stp.trans X2.out hs); have N := Lib.hid (N2.out.keep hs N2.out.lt); clear hr hs; obtain ⟨⟨n0, n1', n2⟩, m0, m1', m2⟩ := tt_all N.out)
        | (go_simp; go_at_call 12; (with_reducible refine (C3.out).mono ?_); rintro e w9 ⟨A9, k9, rfl, hr, hs, -⟩; have K := Lib.hid (Stp.trans X3.out hs); have N := Lib.hid (N3.out.keep hs N3.out.lt); clear hr hs; obtain ⟨⟨n0, n1', n2⟩, m0, m1', m2⟩ := tt_all N.out))
      all_goals first
        | (have R := Stp.alloc K.out (.cells (tcs c A9 p k9 false) 24)
           go_wp2_with fail
           go_meet
           with_reducible exact ⟨⟨_, rfl⟩, rfl, Lib.hid R⟩)
        | (have R := fillt_stp c A9 p k9 false K.out (g := W.heap.size + 1) (Nat.le_add_right _ 1)
           go_wp2_with fail
           go_meet
           with_reducible exact ⟨⟨_, rfl⟩, rfl, Lib.hid R⟩)
        | (have R := fillt_stp c A9 p k9 false K.out (g := W.heap.size) (Nat.le_refl _)
           go_wp2_with fail
           go_meet
           with_reducible exact ⟨⟨_, rfl⟩, rfl, Lib.hid R⟩)
    case rest =>
      obtain ⟨⟨pW8, rfl⟩, rfl, HK⟩ := hcut
      obtain ⟨W8, hW9⟩ : ∃ z, z = wc := ⟨_, rfl⟩
      subst hW9
      replace B0 := Lib.hid (B0.out.keep HK.out B0.out.lt)
      replace B1 := Lib.hid (B1.out.keep HK.out B1.out.lt)
      replace B2 := Lib.hid (B2.out.keep HK.out B2.out.lt)
      replace B3 := Lib.hid (B3.out.keep HK.out B3.out.lt)
      replace RB1 := Lib.hid (RB1.out.keep HK.out)
      replace RB2 := Lib.hid (RB2.out.keep HK.out)
      replace RB3 := Lib.hid (RB3.out.keep HK.out)
      replace H := Lib.hid (Stp.trans H.out HK.out)
      clear HK
      obtain ⟨⟨q0, q1, q2⟩, -, -, -⟩ := tt_all B0.out
      obtain ⟨⟨r0, r1, r2⟩, -, -, -⟩ := tt_all B1.out
      obtain ⟨⟨u0, u1, u2⟩, -, -, -⟩ := tt_all B2.out
      obtain ⟨⟨v0, v1, v2⟩, -, -, -⟩ := tt_all B3.out
      go_wp2_with fail
      go_ret
      exact ⟨rfl, H.out⟩

theorem marks_walk (I : TapeI) (t : Tp) (A : Option Addr) (k : Nat) (w : World) (ha : RdL w A k t.rows) (hs : SmallT t) (i : Int) (hi0 : -9223372036854775808 ≤ i) (hi1 : i < 9223372036854775808) :
    Calls Try.prog 5 #[tv t A k, .int .i64 i] w fun e w' => e = .returned (.bool true) ∧ Stp w w' := by
  obtain ⟨c, ls, m⟩ := t
  cases hF : Rec.fewR ls
  · exact marks_no I c ls m _ hs rfl A k w ha i hi0 hi1 hF
  · cases hM : mayT ⟨c, ls, m⟩
    · exact marks_may I c ls m _ hs rfl A k w ha i hi0 hi1 hF hM
    · cases hm : m
      · subst hm
        by_cases h : i < 0 ∨ (ls.length : Int) < i
        · exact marks_out I c ls false _ hs rfl A k w ha i hi0 hi1 hF hM rfl h
        · by_cases hc : i < c
          · exact marks_in I c ls false _ hs rfl A k w ha i hi0 hi1 hF hM rfl i.toNat (by omega) (by omega) hc
          · exact marks_full I c ls false _ hs rfl A k w ha i hi0 hi1 hF hM rfl i.toNat (by omega) (by omega) hc
      · subst hm
        exact marks_mark I c ls true _ hs rfl A k w ha i hi0 hi1 hF hM rfl
end Go.Proofs.Ytphpeoalokaheaa.Tape
