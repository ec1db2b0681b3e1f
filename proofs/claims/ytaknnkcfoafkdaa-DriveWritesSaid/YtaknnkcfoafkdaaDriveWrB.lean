/-
  The law DriveWrites where the Write goes, the other tape: high: no statement is proved here.
-/
import Derived.Test.YtaknnkcfoafkdaaDriveC
import Derived.Test.YtaknnkcfoafkdaaDriveWritesE
import Derived.Test.YtaknnkcfoafkdaaTapeP
import Derived.Test.YtaknnkcfoafkdaaTapeO
import Derived.BigQuiet
import Derived.Lib.QuietBelow
import Derived.Deep.RegionLaw
import Derived.Deep.Cut
namespace Go.Proofs.Ytaknnkcfoafkdaa.Drive
open Go.RowKit Go.Proofs.Ytaknnkcfoafkdaa.Str Go.Proofs.Ytaknnkcfoafkdaa.Base Go.Proofs.Ytaknnkcfoafkdaa.BlockM Go.Proofs.Ytaknnkcfoafkdaa.RecM Go.Proofs.Ytaknnkcfoafkdaa.TapeM Go.Proofs.Ytaknnkcfoafkdaa.Tape Go.Proofs.Ytaknnkcfoafkdaa.DriveM
set_option linter.unusedVariables false

open Go.Sort
set_option maxRecDepth 100000 in
set_option maxHeartbeats 8000000 in
theorem writes_high (I : DriveI) (hAw : ∀ w : World, Calls Try.prog 9 #[] w fun e w' => e = .returned (.bool true) ∧ Stp w w') (ts : List Tp) (i p : Int) (n : Nat) (hs : SmallD ⟨ts, i, p⟩) (hn : ts.length = n) (A : Option Addr) (k : Nat) (w : World) (ha : RdS w A k ts) (r : L) (l : Nat) (hl : r.length = l) (hl9 : l < 9223372036854775808) (C : Option Addr) (f : Nat) (hr : RdA w C f (bs r)) (q : Int) (j pp y y1 : Nat) (hij : i = (j : Int)) (hpp : p = (pp : Int)) (t : Tp) (ht : ts[j]? = some t) (hy : t.rows.length = y) (hp0 : pp ≤ y) (hy1 : pp + 1 = y1) (hx1 : fewDB ts = true) (h : l ≤ 12000) (hM : mayD ⟨ts, i, p⟩ = true) (us : List Tp) (hus : ts.set j ⟨t.cap, t.rows.take pp ++ [r], false⟩ = us) (hv : writeD ⟨ts, i, p⟩ r = (⟨us, i, p + 1⟩, 0)) (hmx : mayD ⟨us, i, p + 1⟩ = true) (h5 : (n : Int) ≤ q) :
    Calls Try.prog 4 #[dc A n k i p, .slice C l f, .int .i64 q] w fun e w' => e = .returned (.bool true) ∧ Stp w w' := by
  have HI := Lib.hid I
  have HAw := Lib.hid hAw
  have HS := Lib.hid hs
  have Ha := Lib.hid ha
  have Hn := Lib.hid hn
  have h0 := Stp.alloc (Stp.refl w) (.cells (dcs A n k i p) 24)
  have H := Lib.hid h0
  have B0 := Lib.hid (Blk.new w 24 (dcs A n k i p))
  obtain ⟨⟨q0, q1, q2⟩, -, -, -⟩ := dd_all B0.out
  have HX1 := Lib.hid hx1
  have Hl := Lib.hid hl
  have Hr := Lib.hid hr
  have HM := Lib.hid hM
  have HD := Lib.hid (fewD_of hs hx1)
  have g1 : decide ((12000 : Int) < (l : Int)) = false := decide_eq_false (by omega)
  have hjl := (List.getElem?_eq_some_iff.1 ht).1
  have hjn : j < n := by rw [← hn]; exact hjl
  have hji : i.toNat = j := by omega
  have hi0 : 0 ≤ i := by omega
  have hin : i < (n : Int) := by omega
  have g2 : decide (i < 0) = false := decide_eq_false (by omega)
  have Hl2 : Hid (l ≤ 100000) := Lib.hid (by omega)
  have hmt := (mayD_iff.1 hM).2.2.2.2.1 t (List.mem_of_getElem? ht)
  obtain ⟨c1, c2, c3, -⟩ := mayT_iff.1 hmt
  rw [hy] at c3
  have HMl : (t.rows.take pp).length = pp := by rw [List.length_take]; omega
  have g3 : ((n : Int) != (n : Int)) = false := by simp
  have g4 : ((y1 : Int) != p + 1) = false := by rw [bne_eq_false_iff_eq]; omega
  have g5 : (p + 1 != p + 1) = false := by simp
  have g6 : (i != i) = false := by simp
  have hw1 : IntKind.i64.wrap (p + 1) = p + 1 := by rw [IntKind.wrap_i64]; omega
  have hp90 : -9223372036854775808 ≤ p := by omega
  have hp91 : p < 9223372036854775808 := by omega
  have HV1 := Lib.hid hv
  have HU : Hid (us.length = n) := Lib.hid (by rw [← hus, List.length_set]; exact hn)
  have huj : us[j]? = some ⟨t.cap, t.rows.take pp ++ [r], false⟩ := by rw [← hus, List.getElem?_set_self hjl]
  have HUj := Lib.hid huj
  have hul : (t.rows.take pp ++ [r]).length = y1 := by rw [List.length_append, HMl, ← hy1]; rfl
  have HUl := Lib.hid hul
  have hmu := (mayD_iff.1 hmx).2.2.2.2.1 _ (List.mem_of_getElem? huj)
  have HUm := Lib.hid hmx
  have HUf := Lib.hid (few_may hmx)
  have G2 := Lib.hid (HUf.out.each _ (List.mem_of_getElem? huj))
  have R2 : Hid (readV ⟨t.cap, t.rows.take pp ++ [r], false⟩ p = (r, 0)) := Lib.hid (by
    rw [readV_yes hmu (by omega) (by dsimp only; rw [hul]; omega)]
    dsimp only
    rw [hpp, Int.toNat_natCast, List.getD_eq_getElem?_getD, List.getElem?_append_right (by rw [HMl]; omega), HMl, show pp - pp = 0 by omega]
    rfl)
  have Hij := Lib.hid hij
  have Ht := Lib.hid ht
  have Hy := Lib.hid hy
  have k1 : decide (q < 0) = false := decide_eq_false (by omega)
  have k2 : decide ((n : Int) ≤ q) = true := decide_eq_true h5
  clear hs ha h0 hAw I hx1 hl hr hM ht hy hij hpp hmt hjl hus hv hmx huj hul hmu HMl h5
  go_enter Try.func4, Try.ntmps4
  go_upto_region 8 with (first
    | (go_at_call 9; refine (HAw.out _).mono ?_; rintro e wn ⟨rfl, hs⟩; replace H := Lib.hid (Stp.trans H.out hs); replace B0 := Lib.hid (B0.out.keep hs B0.out.lt); clear q0 q1 q2; obtain ⟨⟨q0, q1, q2⟩, -, -, -⟩ := dd_all B0.out; clear hs)
    | (go_at_call 10; (with_reducible refine (few_s ts i p n HS.out Hn.out _ HX1.out A k _ (Ha.out.keep H.out)).mono ?_); rintro e wn ⟨rfl, hs⟩; replace H := Lib.hid (Stp.trans H.out hs); replace B0 := Lib.hid (B0.out.keep hs B0.out.lt); clear q0 q1 q2; obtain ⟨⟨q0, q1, q2⟩, -, -, -⟩ := dd_all B0.out; clear hs)
    | (go_at_call 27; (with_reducible refine (HI.out.may ts i p n HD.out Hn.out _ HM.out A k _ (Ha.out.keep H.out)).mono ?_); rintro e wn ⟨rfl, hs⟩; replace H := Lib.hid (Stp.trans H.out hs); replace B0 := Lib.hid (B0.out.keep hs B0.out.lt); clear q0 q1 q2; obtain ⟨⟨q0, q1, q2⟩, -, -, -⟩ := dd_all B0.out; clear hs)
    | (go_at_call 17; (with_reducible refine (HI.out.write ts i p n HD.out Hn.out r l Hl.out Hl2.out us i (p + 1) n 0 HV1.out HU.out 0 rfl A k C f _ (Ha.out.keep H.out) (Hr.out.keep H.out)).mono ?_); rintro e w9 ⟨Aw9, kw9, rfl, hr, hs, -⟩; have hsA := Stp.alloc hs (.cells (dcs Aw9 n kw9 i (p + 1)) 24); replace H := Lib.hid (Stp.trans H.out hsA); replace B0 := Lib.hid (B0.out.keep hsA B0.out.lt); have D9 := Lib.hid (Blk.new w9 24 (dcs Aw9 n kw9 i (p + 1))); have RD9 := Lib.hid (hr.keep (Stp.alloc (Stp.refl w9) (.cells (dcs Aw9 n kw9 i (p + 1)) 24))); clear q0 q1 q2; obtain ⟨⟨q0, q1, q2⟩, -, -, -⟩ := dd_all B0.out; obtain ⟨⟨aa0, aa1, aa2⟩, -, -, -⟩ := dd_all D9.out; clear hr hs hsA))
  obtain ⟨P9, hP9⟩ : ∃ x, w9.heap.size = x := ⟨_, rfl⟩
  obtain ⟨W, hW⟩ : ∃ z, w9.alloc (.cells (dcs Aw9 n kw9 i (p + 1)) 24) = z := ⟨_, rfl⟩
  rw [hW] at H B0 D9 RD9 q0 q1 q2 aa0 aa1 aa2 ⊢
  rw [hP9] at D9 aa0 aa1 aa2 ⊢
  clear hW hP9
  obtain ⟨bU, oU, AU, kU, eU, tu⟩ := tp_at RD9.out HUj.out HUl.out
  cases eU
  dsimp only at tu
  have TU := Lib.hid tu
  have v0 := cell_regrown q0
  have v1 := cell_regrown q1
  have v2 := cell_regrown q2
  have v3 := cell_regrown aa0
  have v4 := cell_regrown aa1
  have v5 := cell_regrown aa2
  have v6 := cell_regrown tu.c0
  have v7 := cell_regrown tu.c1
  have v8 := cell_regrown tu.c2
  have cM : ∀ d os, Calls Try.prog 27 #[dc (some ⟨bU, oU, none⟩) n kw9 i (p + 1)] (grow (redrawn W d) os) fun e w'' => e = .returned (.bool true) ∧ ∃ p : Regrown, w'' = grow (redrawn W p.d) p.os := fun d os => Calls.regrown_of (HI.out.may us i (p + 1) n HUf.out HU.out true HUm.out _ _ _ (RD9.out.keep (below_regrown W d os)))
  clear tu q0 q1 q2 aa0 aa1 aa2
  refine wp_region_quiet_below (by kernel_rfl) (by kernel_rfl) ?_
  repeat (go_big_quiet_step (first | exact cM _ _))
  refine wpQuiet_nil ?_
  intro _ hw'
  obtain ⟨⟨dq, osq⟩, hw''⟩ := hw'
  subst hw''
  have X := Lib.hid (show Stp W (grow (redrawn W dq) osq) from below_regrown W dq osq)
  clear v0 v1 v2 v3 v4 v5 v6 v7 v8 cM
  generalize grow (redrawn W dq) osq = Y at X ⊢
  replace H := Lib.hid (Stp.trans H.out X.out)
  replace B0 := Lib.hid (B0.out.keep X.out B0.out.lt)
  replace D9 := Lib.hid (D9.out.keep X.out D9.out.lt)
  replace RD9 := Lib.hid (RD9.out.keep X.out)
  replace TU := Lib.hid (TU.out.keep X.out)
  go_upto_region 10 with fail
  go_cut [11, 12] from 89 (fun s11 s12 wx => ∃ Bs ds, s11 = .slice Bs l ds ∧ s12 = .int .i64 0 ∧ Hid (RdA wx Bs ds (bs r)) ∧ Hid (Stp Y wx))
  case first =>
    have Xd := Lib.hid (show Stp Y Y.drew from Stp.drewN (Stp.refl Y) 1)
    obtain ⟨⟨q0, q1, q2⟩, -, -, -⟩ := dd_all (Blk.drew B0.out)
    obtain ⟨⟨aa0, aa1, aa2⟩, -, -, -⟩ := dd_all (Blk.drew D9.out)
    obtain ⟨-, x0, x1, x2, -⟩ := TU.out.keep Xd.out
    have C2 := Lib.hid (read_s t.cap (t.rows.take pp ++ [r]) false y1 G2.out HUl.out p hp90 hp91 r l 0 R2.out Hl.out 0 rfl AU kU Y.drew (TU.out.rd.keep Xd.out))
    go_region_law (go_simp; go_at_call 29; (with_reducible refine (C2.out).mono ?_); rintro e w3 ⟨Bs, ds, rfl, hrs, hs, -⟩; have K3 := Lib.hid (Stp.trans Xd.out hs); have RS := Lib.hid hrs; clear hrs hs)
    all_goals
      go_wp2_with fail
      go_meet
      with_reducible exact ⟨Bs, ds, rfl, rfl, RS, K3⟩
  case rest =>
    obtain ⟨Bs, ds, rfl, rfl, RS, K3⟩ := hcut
    obtain ⟨Z, hZ⟩ : ∃ z, z = wc := ⟨_, rfl⟩
    subst hZ
    replace H := Lib.hid (Stp.trans H.out K3.out)
    replace B0 := Lib.hid (B0.out.keep K3.out B0.out.lt)
    replace D9 := Lib.hid (D9.out.keep K3.out D9.out.lt)
    replace RD9 := Lib.hid (RD9.out.keep K3.out)
    have RZ := Lib.hid (Hr.out.keep H.out)
    obtain ⟨⟨q0, q1, q2⟩, -, -, -⟩ := dd_all B0.out
    obtain ⟨⟨aa0, aa1, aa2⟩, -, -, -⟩ := dd_all D9.out
    have v0 := cell_regrown q0
    have v1 := cell_regrown q1
    have v2 := cell_regrown q2
    have v3 := cell_regrown aa0
    have v4 := cell_regrown aa1
    have v5 := cell_regrown aa2
    have cv1 : ∀ d os, (convert 25 9 (.slice Bs l ds)).run Try.prog (grow (redrawn Z d) os) = .ok (.string ⟨r.toArray⟩) (grow (redrawn Z d) os) := fun d os => str_n Hl.out (RS.out.keep (below_regrown Z d os))
    have cv2 : ∀ d os, (convert 25 9 (.slice C l f)).run Try.prog (grow (redrawn Z d) os) = .ok (.string ⟨r.toArray⟩) (grow (redrawn Z d) os) := fun d os => str_n Hl.out (RZ.out.keep (below_regrown Z d os))
    clear q0 q1 q2 aa0 aa1 aa2
    go_upto_region 11 with fail
    refine wp_region_quiet_below (by kernel_rfl) (by kernel_rfl) ?_
    repeat (go_big_quiet_step (first | fail))
    refine wpQuiet_nil ?_
    intro _ hw'
    obtain ⟨⟨dq, osq⟩, hw''⟩ := hw'
    subst hw''
    go_wp2
    go_ret
    exact ⟨rfl, Stp.trans H.out (below_regrown Z dq osq)⟩
end Go.Proofs.Ytaknnkcfoafkdaa.Drive
