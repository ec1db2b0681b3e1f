/-
  The statements' example, awake: no statement is proved here.
-/
import Derived.Test.YtphpeoalokaheaaTapeI
import Derived.Deep.RegionLaw
import Derived.Deep.Cut
namespace Go.Proofs.Ytphpeoalokaheaa.Tape
open Go.RowKit Go.Proofs.Ytphpeoalokaheaa.Str Go.Proofs.Ytphpeoalokaheaa.Base Go.Proofs.Ytphpeoalokaheaa.BlockM Go.Proofs.Ytphpeoalokaheaa.RecM Go.Proofs.Ytphpeoalokaheaa.TapeM

theorem mk_zs {zs : Array Value} (hzs : Array.replicate 512 (Value.int .u8 0) = zs) (W : World) :
    (Instr.makeSlice 25 (.int .i64 512) (.int .i64 512)).run Try.prog W = .ok (.slice (some ⟨W.heap.size, 0, none⟩) 512 512) (W.alloc (.cells zs 5)) := by
  rw [← hzs]
  exact run_make_blk (P := Try.prog) W 25 5 (.int .u8 0) 1 Try.underlying25 byte_info1 rfl .i64 .i64 512 (by omega) (by unfold maxLen; omega)
/-- What make lays. -/
theorem mk_at {zs : Array Value} {z : L} (hzs : Array.replicate 512 (Value.int .u8 0) = zs) (hz : noughts 512 = z) (W : World) : RdA (W.alloc (.cells zs 5)) (some ⟨W.heap.size, 0, none⟩) 512 (bs z) := by
  subst hzs
  exact blk_z hz (Blk.new W 5 (Array.replicate 512 (.int .u8 0)))

theorem far_fill {w W2 w9 : World} {g p : Nat} {c : Int} {A A2 : Option Addr} {n k k2 : Nat} {m : Bool} {ls : List L} (hb : Blk W2 g 24 (tcs c A n k m)) (hc : Clear g W2 A k ls) (h0 : Stp w W2) (hk : Stp W2 w9) (hp : W2.heap.size ≤ p) :
    Blk (fillT w9 p 1 A2 1 k2 false) g 24 (tcs c A n k m) ∧ Clear g (fillT w9 p 1 A2 1 k2 false) A k ls ∧ Stp w (fillT w9 p 1 A2 1 k2 false) := by
  have h := fillt_stp 1 A2 1 k2 false hk hp
  exact ⟨hb.keep h hb.lt, hc.keep h, Stp.trans h0 h⟩

set_option maxRecDepth 100000 in
set_option maxHeartbeats 2000000 in
theorem awake_s (I : TapeI) (w : World) : Calls Try.prog 9 #[] w fun e w' => e = .returned (.bool true) ∧ Stp w w' := by
  have h0 := Stp.refl w
  obtain ⟨z, hz⟩ : ∃ z, noughts 512 = z := ⟨_, rfl⟩
  obtain ⟨f0, f1, f2, f3, f4, f5, f6, f7⟩ := ex_facts z hz
  have Hz := Lib.hid hz
  have F0 := Lib.hid f0
  have F1 := Lib.hid f1
  have F2 := Lib.hid f2
  have F3 := Lib.hid f3
  have F4 := Lib.hid f4
  have F5 := Lib.hid f5
  have F6 := Lib.hid f6
  have F7 := Lib.hid f7
  have HI := Lib.hid I
  clear hz f0 f1 f2 f3 f4 f5 f6 f7 I
  obtain ⟨zs, hzs⟩ : ∃ zs : Array Value, Array.replicate 512 (Value.int .u8 0) = zs := ⟨_, rfl⟩
  have hmk := mk_zs hzs
  have Hzs := Lib.hid hzs
  clear hzs
  go_enter Try.func9, Try.ntmps9
  go_upto_region 2 with (go_at_call 19; refine (HI.out.new 1 (by omega) (by omega) 1 [] false true 0 F1.out rfl _).mono ?_; rintro e w1 ⟨A0, k0, rfl, ha, hs, -⟩; replace h0 := Stp.trans h0 hs; have Ha := Lib.hid ha; clear ha hs)
  have Hg := Lib.hid h0.size
  have Hb := Lib.hid (Blk.new w1 24 (tcs 1 A0 0 k0 false))
  have Ca := Lib.hid (Clear.new (g := w1.heap.size) Ha.out (Stp.alloc (Stp.refl _) (.cells (tcs 1 A0 0 k0 false) 24)) (Nat.le_refl _))
  replace h0 := Stp.alloc h0 (.cells (tcs 1 A0 0 k0 false) 24)
  obtain ⟨g, hg⟩ : ∃ g, w1.heap.size = g := ⟨_, rfl⟩
  obtain ⟨W, hW⟩ : ∃ W, w1.alloc (.cells (tcs 1 A0 0 k0 false) 24) = W := ⟨_, rfl⟩
  rw [hg, hW] at Hb Ca
  rw [hg] at Hg
  rw [hW] at h0
  simp only [hg]
  rw [hW]
  clear hg hW Ha
  go_cut [3] from 17 (fun s3 wx => s3 = .int .i64 0 ∧ ∃ A1 k1, Hid (Blk wx g 24 (tcs 1 A1 1 k1 false)) ∧ Hid (Clear g wx A1 k1 [z]) ∧ Hid (Stp w wx))
  case first =>
    obtain ⟨⟨q0, q1, q2⟩, p0, p1, p2⟩ := tt_all (Blk.drew Hb.out)
    have X1 := Lib.hid (show Stp W (W.alloc (.cells zs 5)).drew from Stp.drewN (Stp.alloc (Stp.refl W) _) 1)
    have Hb1 := Lib.hid (Hb.out.keep X1.out Hb.out.lt)
    obtain ⟨⟨t0, t1, t2⟩, -, -, -⟩ := tt_all Hb1.out
    obtain ⟨⟨u0, u1, u2⟩, -, -, -⟩ := tt_all (Hb.out.alloc (.cells zs 5))
    have M1 := Lib.hid ((mk_at Hzs.out Hz.out W).keep (show Stp _ (W.alloc (.cells zs 5)).drew from Stp.drewN (Stp.refl _) 1))
    have C1 := Lib.hid (HI.out.write 1 [] false 0 (small_ex0 false) rfl z 512 F0.out (by omega) 1 [z] false 1 0 F2.out rfl 0 rfl _ _ _ _ _ (Ca.out.rd.keep X1.out) M1.out)
    go_region_law (go_simp; go_at_call 12; (with_reducible refine (C1.out).mono ?_); rintro e w9 ⟨A1, k1, rfl, ha, hs, hc⟩; have Ca3 := Lib.hid (hc g Hb1.out.lt); have h3 := Stp.trans (Stp.trans h0 X1.out) hs; have Hb3 := Lib.hid (Hb1.out.keep hs Hb1.out.lt); clear ha hs hc q0 q1 q2 p0 p1 p2 t0 t1 t2 u0 u1 u2; obtain ⟨⟨q0, q1, q2⟩, p0, p1, p2⟩ := tt_all Hb3.out)
    all_goals
      have Hb := Lib.hid (fillt_blk 1 A1 1 k1 false Hb3.out)
      have h0 := fillt_stp 1 A1 1 k1 false h3 Hg.out
      have Ca := Lib.hid (Ca3.out.fill 1 A1 1 k1 false)
      go_wp2_with fail
      go_meet
      exact ⟨rfl, A1, k1, Hb, Ca, Lib.hid h0⟩
  case rest =>
    obtain ⟨rfl, A1, k1, HB, HC, H0⟩ := hcut
    obtain ⟨W2, hW2⟩ : ∃ z, z = wc := ⟨_, rfl⟩
    subst hW2
    clear Hb Ca h0
    have Hb := HB
    have Ca := HC
    clear HB HC
    go_upto_region 3 with fail
    go_cut [4, 5] from 23 (fun s4 s5 wx => (∃ p4, s4 = .pointer (some ⟨p4, 0, none⟩)) ∧ s5 = .int .i64 8 ∧ Hid (Blk wx g 24 (tcs 1 A1 1 k1 false)) ∧ Hid (Clear g wx A1 k1 [z]) ∧ Hid (Stp w wx))
    case first =>
      obtain ⟨⟨q0, q1, q2⟩, p0, p1, p2⟩ := tt_all (Blk.drew Hb.out)
      have hne : W2.heap.size ≠ g := Ne.symm (Nat.ne_of_lt Hb.out.lt)
      have X1 := Lib.hid (show Stp W2 (W2.alloc (.cells zs 5)).drew from Stp.drewN (Stp.alloc (Stp.refl W2) _) 1)
      have X2 := Lib.hid (show Stp W2 ((W2.alloc (.cells zs 5)).alloc (.cells zcells 24)).drew from Stp.drewN (Stp.alloc (Stp.alloc (Stp.refl W2) _) _) 1)
      have X3 := Lib.hid (show Stp W2 ((W2.alloc (.cells zcells 24)).alloc (.cells zs 5)).drew from Stp.drewN (Stp.alloc (Stp.alloc (Stp.refl W2) _) _) 1)
      obtain ⟨⟨a3, a4, a5⟩, -, -, -⟩ := tt_all (Hb.out.alloc (.cells zcells 24))
      obtain ⟨⟨b3, b4, b5⟩, -, -, -⟩ := tt_all (Hb.out.alloc (.cells zs 5))
      obtain ⟨⟨c3, c4, c5⟩, -, -, -⟩ := tt_all ((Hb.out.alloc (.cells zs 5)).alloc (.cells zcells 24))
      obtain ⟨⟨d3, d4, d5⟩, -, -, -⟩ := tt_all ((Hb.out.alloc (.cells zcells 24)).alloc (.cells zs 5))
      have M1 := Lib.hid ((mk_at Hzs.out Hz.out W2).keep (show Stp _ (W2.alloc (.cells zs 5)).drew from Stp.drewN (Stp.refl _) 1))
      have M2 := Lib.hid ((mk_at Hzs.out Hz.out W2).keep (show Stp _ ((W2.alloc (.cells zs 5)).alloc (.cells zcells 24)).drew from Stp.drewN (Stp.alloc (Stp.refl _) _) 1))
      have m3 := (mk_at Hzs.out Hz.out (W2.alloc (.cells zcells 24))).keep (show Stp _ ((W2.alloc (.cells zcells 24)).alloc (.cells zs 5)).drew from Stp.drewN (Stp.refl _) 1)
      have n2 := (Blk.new (W2.alloc (.cells zs 5)) 24 zcells).drew
      rw [World.size_alloc] at n2 m3
      have M3 := Lib.hid m3
      have N2 : Hid (Blk _ (W2.heap.size + 1) 24 (tcs 0 none 0 0 false)) := Lib.hid n2
      have N3 : Hid (Blk _ W2.heap.size 24 (tcs 0 none 0 0 false)) := Lib.hid (((Blk.new W2 24 zcells).alloc (.cells zs 5)).drew)
      clear n2 m3
      have C1 := Lib.hid (HI.out.write 1 [z] false 1 (small_ex z F0.out false) rfl z 512 F0.out (by omega) 1 [z] false 1 8 F3.out rfl 8 rfl _ _ _ _ _ (Ca.out.rd.keep X1.out) M1.out)
      have C2 := Lib.hid (HI.out.write 1 [z] false 1 (small_ex z F0.out false) rfl z 512 F0.out (by omega) 1 [z] false 1 8 F3.out rfl 8 rfl _ _ _ _ _ (Ca.out.rd.keep X2.out) M2.out)
      have C3 := Lib.hid (HI.out.write 1 [z] false 1 (small_ex z F0.out false) rfl z 512 F0.out (by omega) 1 [z] false 1 8 F3.out rfl 8 rfl _ _ _ _ _ (Ca.out.rd.keep X3.out) M3.out)
      go_region_law (first
        | (go_simp; go_at_call 12; (with_reducible refine (C1.out).mono ?_); rintro e w9 ⟨A2, k2, rfl, ha, hs, hc⟩; have K := Lib.hid (Stp.trans X1.out hs); have KB := Lib.hid (Hb.out.keep (Stp.trans X1.out hs) Hb.out.lt); have KC := Lib.hid (Ca.out.keep (Stp.trans X1.out hs)); clear ha hs hc)
        | (go_simp; go_at_call 12; (with_reducible refine (C2.out).mono ?_); rintro e w9 ⟨A2, k2, rfl, ha, hs, hc⟩; have K := Lib.hid (Stp.trans X2.out hs); have KB := Lib.hid (Hb.out.keep (Stp.trans X2.out hs) Hb.out.lt); have KC := Lib.hid (Ca.out.keep (Stp.trans X2.out hs)); have N := Lib.hid (N2.out.keep hs N2.out.lt); clear ha hs hc; obtain ⟨⟨n0, n1, n2⟩, m0, m1, m2⟩ := tt_all N.out)
        | (go_simp; go_at_call 12; (with_reducible refine (C3.out).mono ?_); rintro e w9 ⟨A2, k2, rfl, ha, hs, hc⟩; have K := Lib.hid (Stp.trans X3.out hs); have KB := Lib.hid (Hb.out.keep (Stp.trans X3.out hs) Hb.out.lt); have KC := Lib.hid (Ca.out.keep (Stp.trans X3.out hs)); have N := Lib.hid (N3.out.keep hs N3.out.lt); clear ha hs hc; obtain ⟨⟨n0, n1, n2⟩, m0, m1, m2⟩ := tt_all N.out))
      all_goals first
        | (have R := (show Blk (w9.alloc (.cells (tcs 1 A2 1 k2 false) 24)) g 24 (tcs 1 A1 1 k1 false) ∧ Clear g (w9.alloc (.cells (tcs 1 A2 1 k2 false) 24)) A1 k1 [z] ∧ Stp w (w9.alloc (.cells (tcs 1 A2 1 k2 false) 24)) from ⟨KB.out.alloc _, KC.out.keep (Stp.alloc (Stp.refl _) _), Stp.alloc (Stp.trans H0.out K.out) _⟩)
           go_wp2_with fail
           go_meet
           with_reducible exact ⟨⟨_, rfl⟩, rfl, Lib.hid R.1, Lib.hid R.2.1, Lib.hid R.2.2⟩)
        | (have R := far_fill (A2 := A2) (k2 := k2) (p := W2.heap.size + 1) Hb.out Ca.out H0.out K.out (Nat.le_add_right _ 1)
           go_wp2_with fail
           go_meet
           with_reducible exact ⟨⟨_, rfl⟩, rfl, Lib.hid R.1, Lib.hid R.2.1, Lib.hid R.2.2⟩)
        | (have R := far_fill (A2 := A2) (k2 := k2) (p := W2.heap.size) Hb.out Ca.out H0.out K.out (Nat.le_refl _)
           go_wp2_with fail
           go_meet
           with_reducible exact ⟨⟨_, rfl⟩, rfl, Lib.hid R.1, Lib.hid R.2.1, Lib.hid R.2.2⟩)
    case rest =>
      obtain ⟨⟨p4, rfl⟩, rfl, HB, HC, H1⟩ := hcut
      obtain ⟨W3, hW3⟩ : ∃ z, z = wc := ⟨_, rfl⟩
      subst hW3
      clear Hb Ca H0
      obtain ⟨⟨q0, q1, q2⟩, p0, p1, p2⟩ := tt_all HB.out
      go_wp2_with (first
        | (go_at_call 14; (with_reducible refine (HI.out.read 1 [z] false 1 (small_ex z F0.out false) rfl 0 (by omega) (by omega) z 512 0 F4.out F0.out 0 rfl _ _ _ HC.out.rd).mono ?_); rintro e w4 ⟨B4, d4, rfl, -, hs, -⟩; have HB4 := Lib.hid (HB.out.keep hs HB.out.lt); have HC4 := Lib.hid (HC.out.keep hs); have H4 := Lib.hid (Stp.trans H1.out hs); clear hs q0 q1 q2 p0 p1 p2; obtain ⟨⟨q0, q1, q2⟩, p0, p1, p2⟩ := tt_all HB4.out)
        | (go_at_call 18; (with_reducible refine (HI.out.close 1 [z] false 1 (small_ex z F0.out false) rfl 1 [z] true 1 0 F5.out rfl 0 rfl _ _ _ HC4.out.rd).mono ?_); rintro e w5 ⟨A5, k5, rfl, -, hs, -⟩; have hb5 := HB4.out.keep hs HB4.out.lt; have hs5 := Stp.alloc hs (.cells (tcs 1 A5 1 k5 true) 24); have HB5 := Lib.hid (HB4.out.keep hs5 HB4.out.lt); have HC5 := Lib.hid (HC4.out.keep hs5); have H5 := Lib.hid (Stp.trans H4.out hs5); have HM5 := Lib.hid (Blk.new w5 24 (tcs 1 A5 1 k5 true)); clear hs hs5 hb5 q0 q1 q2 p0 p1 p2; obtain ⟨⟨q0, q1, q2⟩, p0, p1, p2⟩ := tt_all HB5.out)
        | (go_at_call 15; (with_reducible refine (HI.out.fill 1 [z] false 1 (small_ex z F0.out false) rfl [] 0 rfl (by omega) (by simp) 1 [z] false 1 0 0 F6.out rfl 0 rfl _ _ _ _ _ HC5.out.rd (RdL.nil _)).mono ?_); rintro e w6 ⟨A6, k6, rfl, -, hs, -⟩; have hs6 := Stp.alloc hs (.cells (tcs 1 A6 1 k6 false) 24); have HB6 := Lib.hid (HB5.out.keep hs6 HB5.out.lt); have HC6 := Lib.hid (HC5.out.keep hs6); have H6 := Lib.hid (Stp.trans H5.out hs6); have HM6 := Lib.hid (HM5.out.keep hs6 HM5.out.lt); clear hs hs6 q0 q1 q2 p0 p1 p2; obtain ⟨⟨q0, q1, q2⟩, p0, p1, p2⟩ := tt_all HB6.out; obtain ⟨⟨-, -, r2⟩, -, -, -⟩ := tt_all HM6.out)
        | (go_at_call 11; (with_reducible refine (HI.out.may 1 [z] false 1 (small_ex z F0.out false) rfl true F7.out _ _ _ HC6.out.rd).mono ?_); rintro e w7 ⟨rfl, hs⟩; have HB7 := Lib.hid (HB6.out.keep hs HB6.out.lt); have HC7 := Lib.hid (HC6.out.keep hs); have H7 := Lib.hid (Stp.trans H6.out hs); clear hs q0 q1 q2 p0 p1 p2; obtain ⟨⟨q0, q1, q2⟩, p0, p1, p2⟩ := tt_all HB7.out)
        | (go_at_call 13; (with_reducible refine (HI.out.same 1 [z] false 1 (small_ex z F0.out false) rfl 1 [z] false 1 (small_ex z F0.out false) rfl true (by simp) _ _ _ _ _ HC7.out.rd HC7.out.rd).mono ?_); rintro e w8 ⟨rfl, hs⟩; have H8 := Lib.hid (Stp.trans H7.out hs); clear hs))
      go_ret
      exact ⟨rfl, H8.out⟩
end Go.Proofs.Ytphpeoalokaheaa.Tape
