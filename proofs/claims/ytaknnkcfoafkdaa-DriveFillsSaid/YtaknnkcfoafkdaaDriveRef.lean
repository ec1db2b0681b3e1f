/-
  The document's answers for drives: their contracts; no statement is proved here.
-/
import Derived.Test.YtaknnkcfoafkdaaDriveI
import Derived.Test.YtaknnkcfoafkdaaTapeRef
import Derived.BigQuiet
import Derived.Deep.RegionLaw
import Derived.Deep.Cut
namespace Go.Proofs.Ytaknnkcfoafkdaa.Drive
open Go.RowKit Go.Proofs.Ytaknnkcfoafkdaa.Str Go.Proofs.Ytaknnkcfoafkdaa.Base Go.Proofs.Ytaknnkcfoafkdaa.BlockM Go.Proofs.Ytaknnkcfoafkdaa.RecM Go.Proofs.Ytaknnkcfoafkdaa.TapeM Go.Proofs.Ytaknnkcfoafkdaa.Tape Go.Proofs.Ytaknnkcfoafkdaa.DriveM
set_option linter.unusedVariables false

set_option maxRecDepth 100000 in
set_option maxHeartbeats 2000000 in
theorem rdmay_s (ts : List Tp) (i p : Int) (n : Nat) (hf : FewD ⟨ts, i, p⟩) (hn : ts.length = n) (b : Bool) (hb : mayD ⟨ts, i, p⟩ = b) (A : Option Addr) (k : Nat) (w : World) (ha : RdS w A k ts) :
    Calls Try.prog 26 #[dc A n k i p] w fun e w' => e = .returned (.bool b) ∧ Stp w w' := by
  obtain ⟨f1, f2, f3, f4, f5, f6⟩ := hf
  dsimp only at f1 f2 f3 f4 f5 f6
  have Ha := Lib.hid ha
  have F6 := Lib.hid f6
  have Hn := Lib.hid hn
  have H0 := Lib.hid (Stp.alloc (Stp.refl w) (.cells (dcs A n k i p) 24))
  have B0 := Lib.hid (Blk.new w 24 (dcs A n k i p))
  obtain ⟨⟨q0, q1, q2⟩, -, -, -⟩ := dd_all B0.out
  rw [hn] at f5
  obtain ⟨x1, g1⟩ : ∃ x, decide ((12 : Int) < (n : Int)) = x := ⟨_, rfl⟩
  obtain ⟨x2, g2⟩ : ∃ x, decide (i < -1) = x := ⟨_, rfl⟩
  obtain ⟨x3, g3⟩ : ∃ x, decide ((n : Int) ≤ i) = x := ⟨_, rfl⟩
  obtain ⟨x4, g4⟩ : ∃ x, decide (p < 0) = x := ⟨_, rfl⟩
  by_cases hbad : (x1 || x2 || x3 || x4) = true
  · have e : b = false := by
      rw [← hb, Bool.eq_false_iff]
      intro h
      obtain ⟨a1, a2, a3, a4, -, -⟩ := mayD_iff.1 h
      dsimp only at a1 a2 a3 a4
      rw [hn] at a1 a3
      rw [← g1, ← g2, ← g3, ← g4] at hbad
      simp only [Bool.or_eq_true, decide_eq_true_eq] at hbad
      omega
    subst e
    clear ha f6 hn hb
    cases x1 <;> cases x2 <;> cases x3 <;> cases x4
    all_goals first
      | exact absurd hbad (by decide)
      | skip
    all_goals
      clear hbad
      go_enter Try.func26, Try.ntmps26
      go_wp2_with fail
      go_ret
      exact ⟨rfl, H0.out⟩
  · simp only [Bool.or_eq_true, not_or, Bool.not_eq_true] at hbad
    obtain ⟨⟨⟨rfl, rfl⟩, rfl⟩, rfl⟩ := hbad
    have h1 : n ≤ 12 := by have := of_decide_eq_false g1; omega
    have h2 := of_decide_eq_false g2
    have h3 := of_decide_eq_false g3
    have h4 := of_decide_eq_false g4
    have e : b = (ts.all mayT && posB ⟨ts, i, p⟩) := by
      rw [← hb, mayD]
      dsimp only
      rw [hn, decide_eq_true h1, decide_eq_true (show -1 ≤ i by omega), decide_eq_true (show i < (n : Int) by omega), decide_eq_true (show 0 ≤ p by omega)]
      simp
    have He := Lib.hid e
    clear ha f6 hn hb e
    go_enter Try.func26, Try.ntmps26
    go_wp2_with fail
    clear q0 q1 q2
    go_loopw [3] (fun iv wr => ∃ j : Nat, j ≤ n ∧ iv = .int .i64 j ∧ Hid (Stp (w.alloc (.cells (dcs A n k i p) 24)) wr) ∧ Hid (∀ x ∈ ts.take j, mayT x = true)) (fun iv _ => n - (intOf iv).toNat)
    case atStart => exact ⟨0, by omega, rfl, Lib.hid (Stp.refl _), Lib.hid (by simp)⟩
    case round =>
      obtain ⟨j, hj, rfl, HS, Hk⟩ := hrel
      obtain ⟨⟨q0, q1, q2⟩, -, -, -⟩ := dd_all (B0.out.keep HS.out B0.out.lt)
      by_cases hlt : j < n
      · obtain ⟨t, ht1⟩ : ∃ t, ts[j]? = some t := ⟨_, List.getElem?_eq_getElem (by rw [Hn.out]; exact hlt)⟩
        obtain ⟨bb, oo, Aj, kj, rfl, c0, c1, c2, ra⟩ := (Ha.out.keep (Stp.trans H0.out HS.out)).at_ ht1
        have hft := Lib.hid (F6.out t (List.mem_of_getElem? ht1))
        obtain ⟨y, hy⟩ : ∃ y, t.rows.length = y := ⟨_, rfl⟩
        rw [hy] at c1
        have Hy := Lib.hid hy
        have Ht1 := Lib.hid ht1
        have Ra := Lib.hid ra
        clear ht1 hy ra
        cases h5 : mayT t
        · have H5 := Lib.hid h5
          clear h5
          go_wp2_with (go_at_call 49; refine (rtmay_s t.cap t.rows t.mark y hft.out Hy.out false H5.out Aj kj _ Ra.out).mono ?_; rintro e w' ⟨rfl, hs⟩; have H2 := Lib.hid hs; clear hs)
          go_ret
          refine ⟨?_, Stp.trans (Stp.trans H0.out HS.out) H2.out⟩
          have e : b = false := by
            rw [He.out, Bool.eq_false_iff]
            intro h
            rw [Bool.and_eq_true, List.all_eq_true] at h
            have := h.1 t (List.mem_of_getElem? Ht1.out)
            rw [H5.out] at this
            cases this
          rw [e]
          rfl
        · have H5 := Lib.hid h5
          clear h5
          go_wp2_with (go_at_call 49; refine (rtmay_s t.cap t.rows t.mark y hft.out Hy.out true H5.out Aj kj _ Ra.out).mono ?_; rintro e w' ⟨rfl, hs⟩; have H2 := Lib.hid hs; clear hs)
          go_roundw
          case rel =>
            refine ⟨j + 1, by omega, by go_num, Lib.hid (Stp.trans HS.out H2.out), Lib.hid fun x hx => ?_⟩
            rw [List.take_add_one, Ht1.out] at hx
            rcases List.mem_append.1 hx with h | h
            · exact Hk.out x h
            · simp at h
              rw [h, H5.out]
          case measure => simp [intOf]; omega
      · obtain rfl : j = n := by omega
        have hall : ts.all mayT = true := by
          rw [List.all_eq_true]
          have h := Hk.out
          rw [List.take_of_length_le (by rw [Hn.out]; exact Nat.le_refl _)] at h
          exact h
        by_cases hi : i < 0
        · have g5 : decide (i < 0) = true := decide_eq_true hi
          obtain ⟨z, g6⟩ : ∃ z, (p == 0) = z := ⟨_, rfl⟩
          have e : b = z := by
            rw [He.out, hall, posB, if_pos hi, ← g6, Bool.true_and]
            dsimp only
            by_cases h : p = 0 <;> simp [h]
          subst e
          clear hall
          go_wp2_with fail
          go_ret
          exact ⟨rfl, Stp.trans H0.out HS.out⟩
        · have g5 : decide (i < 0) = false := decide_eq_false hi
          obtain ⟨t, ht1⟩ : ∃ t, ts[i.toNat]? = some t := ⟨_, List.getElem?_eq_getElem (by rw [Hn.out]; omega)⟩
          obtain ⟨bb, oo, Aj, kj, rfl, c0, c1, c2, -⟩ := (Ha.out.keep (Stp.trans H0.out HS.out)).at_ ht1
          have e2 : tapeD ⟨ts, i, p⟩ = t := tapeD_at (j := i.toNat) (by dsimp only; omega) ht1
          obtain ⟨y, hy⟩ : ∃ y, t.rows.length = y := ⟨_, rfl⟩
          rw [hy] at c1
          obtain ⟨z, g6⟩ : ∃ z, decide (p ≤ (y : Int)) = z := ⟨_, rfl⟩
          have e : b = z := by
            rw [He.out, hall, posB, if_neg hi, e2, hy, ← g6]
            simp
          subst e
          have h6 : 0 ≤ i := by omega
          have h7 : i < (j : Int) := by omega
          clear hall e2 hy ht1
          go_wp2_with fail
          go_quiet (fail)
          go_wp2
          go_ret
          exact ⟨rfl, Stp.drewN (Stp.trans H0.out HS.out) _⟩

theorem two_dblks (w : World) (A : Option Addr) (n k : Nat) (i p : Int) :
    Blk ((w.alloc (.cells (dcs A n k i p) 24)).alloc (.cells (dcs none 0 0 0 0) 24)) w.heap.size 24 (dcs A n k i p) ∧
    Blk ((w.alloc (.cells (dcs A n k i p) 24)).alloc (.cells (dcs none 0 0 0 0) 24)) (w.heap.size + 1) 24 (dcs none 0 0 0 0) ∧
    Stp w ((w.alloc (.cells (dcs A n k i p) 24)).alloc (.cells (dcs none 0 0 0 0) 24)) := by
  have h := Blk.new (w.alloc (.cells (dcs A n k i p) 24)) 24 (dcs none 0 0 0 0)
  rw [World.size_alloc] at h
  exact ⟨(Blk.new w _ _).alloc _, h, Stp.alloc (Stp.alloc (Stp.refl w) _) _⟩
set_option maxRecDepth 100000 in
set_option maxHeartbeats 2000000 in
theorem rdwhy_s (ts : List Tp) (i p : Int) (n : Nat) (hf : FewD ⟨ts, i, p⟩) (hn : ts.length = n) (e0 : Nat) (he0 : whyD ⟨ts, i, p⟩ = e0) (ei : Int) (hei : (e0 : Int) = ei) (A : Option Addr) (k : Nat) (w : World) (ha : RdS w A k ts) :
    Calls Try.prog 35 #[dc A n k i p] w fun e w' => e = .returned (.int .i64 ei) ∧ Stp w w' := by
  have HF := Lib.hid hf
  have Ha := Lib.hid ha
  have Hn := Lib.hid hn
  have H0 := Lib.hid (Stp.alloc (Stp.refl w) (.cells (dcs A n k i p) 24))
  have B0 := Lib.hid (Blk.new w 24 (dcs A n k i p))
  obtain ⟨⟨q0, q1, q2⟩, -, -, -⟩ := dd_all B0.out
  cases hm : mayD ⟨ts, i, p⟩
  · have e1 : e0 = 1 := by rw [← he0, whyD, hm]; rfl
    subst e1 hei
    have Hm := Lib.hid hm
    clear hm he0 hf hn ha
    go_enter Try.func35, Try.ntmps35
    go_wp2_with (go_at_call 26; refine (rdmay_s ts i p n HF.out Hn.out false Hm.out _ k _ (Ha.out.keep H0.out)).mono ?_; rintro e w1 ⟨rfl, hs⟩; have H1 := Lib.hid (Stp.trans H0.out hs); have B0' := Lib.hid (B0.out.keep hs B0.out.lt); clear hs q0 q1 q2; obtain ⟨⟨q0, q1, q2⟩, -, -, -⟩ := dd_all B0'.out)
    go_ret
    exact ⟨rfl, H1.out⟩
  · have Hm := Lib.hid hm
    by_cases hi : i < 0
    · have e1 : e0 = 9 := by rw [← he0, whyD, hm, if_neg (by simp), if_pos hi]
      subst e1 hei
      have g1 : decide (i < 0) = true := decide_eq_true hi
      clear hm he0 hf hn ha hi
      go_enter Try.func35, Try.ntmps35
      go_wp2_with (go_at_call 26; refine (rdmay_s ts i p n HF.out Hn.out true Hm.out _ k _ (Ha.out.keep H0.out)).mono ?_; rintro e w1 ⟨rfl, hs⟩; have H1 := Lib.hid (Stp.trans H0.out hs); have B0' := Lib.hid (B0.out.keep hs B0.out.lt); clear hs q0 q1 q2; obtain ⟨⟨q0, q1, q2⟩, -, -, -⟩ := dd_all B0'.out)
      go_ret
      exact ⟨rfl, H1.out⟩
    · have e1 : e0 = 0 := by rw [← he0, whyD, hm, if_neg (by simp), if_neg hi]
      subst e1 hei
      have g1 : decide (i < 0) = false := decide_eq_false hi
      clear hm he0 hf hn ha hi
      go_enter Try.func35, Try.ntmps35
      go_wp2_with (go_at_call 26; refine (rdmay_s ts i p n HF.out Hn.out true Hm.out _ k _ (Ha.out.keep H0.out)).mono ?_; rintro e w1 ⟨rfl, hs⟩; have H1 := Lib.hid (Stp.trans H0.out hs); have B0' := Lib.hid (B0.out.keep hs B0.out.lt); clear hs q0 q1 q2; obtain ⟨⟨q0, q1, q2⟩, -, -, -⟩ := dd_all B0'.out)
      go_ret
      exact ⟨rfl, H1.out⟩
set_option maxRecDepth 100000 in
set_option maxHeartbeats 2000000 in
theorem rdunmount_s (ts : List Tp) (i p : Int) (n : Nat) (hf : FewD ⟨ts, i, p⟩) (hn : ts.length = n)
    (ts' : List Tp) (i' p' : Int) (n' e0 : Nat) (hv : unmountD ⟨ts, i, p⟩ = (⟨ts', i', p'⟩, e0)) (hn' : ts'.length = n') (ei : Int) (he : (e0 : Int) = ei) (A : Option Addr) (k : Nat) (w : World) (ha : RdS w A k ts) :
    Calls Try.prog 14 #[dc A n k i p] w fun e w' => ∃ A' k', e = .returned (.tuple #[dc A' n' k' i' p', .int .i64 ei]) ∧ RdS w' A' k' ts' ∧ Stp w w' := by
  have HF := Lib.hid hf
  have Hn := Lib.hid hn
  have Ha := Lib.hid ha
  obtain ⟨b0, b1, hst0⟩ := two_dblks w A n k i p
  obtain ⟨⟨q0, q1, q2⟩, -, -, -⟩ := dd_all b0
  have B0 := Lib.hid b0
  have B1 := Lib.hid b1
  have H0 := Lib.hid hst0
  clear hf b0 b1 hst0
  by_cases hw : whyD ⟨ts, i, p⟩ = 0
  · rw [unmountD, if_neg (by simpa using hw)] at hv
    cases hv
    obtain rfl : n = n' := by rw [← Hn.out, ← hn']
    subst he
    have Hw := Lib.hid hw
    clear hw hn' hn ha
    go_enter Try.func14, Try.ntmps14
    go_wp2_with (go_at_call 35; refine (rdwhy_s ts i p n HF.out Hn.out 0 Hw.out 0 rfl _ k _ (Ha.out.keep H0.out)).mono ?_; rintro e w1 ⟨rfl, hs⟩; have H1 := Lib.hid (Stp.trans H0.out hs); have B0' := Lib.hid (B0.out.keep hs B0.out.lt); have B1' := Lib.hid (B1.out.keep hs B1.out.lt); clear hs q0 q1 q2; obtain ⟨⟨q0, q1, q2⟩, -, -, -⟩ := dd_all B0'.out; obtain ⟨⟨r0, r1, r2⟩, s0, s1, s2⟩ := dd_all B1'.out)
    have hf := filld_blk A n k (-1) 0 B1'.out
    have hst0 := filld_stp A n k (-1) 0 H1.out (g := w.heap.size + 1) (by omega)
    change bodyPost _ _ _ _ _ (fillD w1 (w.heap.size + 1) A n k (-1) 0)
    generalize fillD w1 (w.heap.size + 1) A n k (-1) 0 = WW at hf hst0 ⊢
    clear q0 q1 q2 r0 r1 r2 s0 s1 s2
    have hst : Stp w WW := hst0
    obtain ⟨⟨q0, q1, q2⟩, -, -, -⟩ := dd_all hf
    refine bodyPost_ret (v := .tuple #[dc A n k (-1) 0, .int .i64 0]) (by simp [results, Try.results14, go_sem, *]) rfl ⟨_, _, rfl, (Ha.out.keep hst), hst⟩
  · rw [unmountD, if_pos hw] at hv
    cases hv
    obtain rfl : n = n' := by rw [← Hn.out, ← hn']
    have key : whyD ⟨ts, i, p⟩ = 1 ∨ whyD ⟨ts, i, p⟩ = 9 := by
      unfold whyD at hw ⊢
      split
      · exact .inl rfl
      · rename_i h1
        rw [if_neg h1] at hw
        split
        · exact .inr rfl
        · rename_i h2
          rw [if_neg h2] at hw
          exact absurd rfl hw
    clear hn' hn ha hw
    rcases key with h | h
    · rw [h] at he
      subst he
      have Hw := Lib.hid h
      clear h
      go_enter Try.func14, Try.ntmps14
      go_wp2_with (go_at_call 35; refine (rdwhy_s ts i p n HF.out Hn.out 1 Hw.out 1 rfl _ k _ (Ha.out.keep H0.out)).mono ?_; rintro e w1 ⟨rfl, hs⟩; have H1 := Lib.hid (Stp.trans H0.out hs); have B0' := Lib.hid (B0.out.keep hs B0.out.lt); have B1' := Lib.hid (B1.out.keep hs B1.out.lt); clear hs q0 q1 q2; obtain ⟨⟨q0, q1, q2⟩, -, -, -⟩ := dd_all B0'.out; obtain ⟨⟨r0, r1, r2⟩, s0, s1, s2⟩ := dd_all B1'.out)
      have hf := filld_blk A n k i p B1'.out
      have hst0 := filld_stp A n k i p H1.out (g := w.heap.size + 1) (by omega)
      change bodyPost _ _ _ _ _ (fillD w1 (w.heap.size + 1) A n k i p)
      generalize fillD w1 (w.heap.size + 1) A n k i p = WW at hf hst0 ⊢
      clear q0 q1 q2 r0 r1 r2 s0 s1 s2
      have hst : Stp w WW := hst0
      obtain ⟨⟨q0, q1, q2⟩, -, -, -⟩ := dd_all hf
      refine bodyPost_ret (v := .tuple #[dc A n k i p, .int .i64 1]) (by simp [results, Try.results14, go_sem, *]) rfl ⟨_, _, rfl, (Ha.out.keep hst), hst⟩
    · rw [h] at he
      subst he
      have Hw := Lib.hid h
      clear h
      go_enter Try.func14, Try.ntmps14
      go_wp2_with (go_at_call 35; refine (rdwhy_s ts i p n HF.out Hn.out 9 Hw.out 9 rfl _ k _ (Ha.out.keep H0.out)).mono ?_; rintro e w1 ⟨rfl, hs⟩; have H1 := Lib.hid (Stp.trans H0.out hs); have B0' := Lib.hid (B0.out.keep hs B0.out.lt); have B1' := Lib.hid (B1.out.keep hs B1.out.lt); clear hs q0 q1 q2; obtain ⟨⟨q0, q1, q2⟩, -, -, -⟩ := dd_all B0'.out; obtain ⟨⟨r0, r1, r2⟩, s0, s1, s2⟩ := dd_all B1'.out)
      have hf := filld_blk A n k i p B1'.out
      have hst0 := filld_stp A n k i p H1.out (g := w.heap.size + 1) (by omega)
      change bodyPost _ _ _ _ _ (fillD w1 (w.heap.size + 1) A n k i p)
      generalize fillD w1 (w.heap.size + 1) A n k i p = WW at hf hst0 ⊢
      clear q0 q1 q2 r0 r1 r2 s0 s1 s2
      have hst : Stp w WW := hst0
      obtain ⟨⟨q0, q1, q2⟩, -, -, -⟩ := dd_all hf
      refine bodyPost_ret (v := .tuple #[dc A n k i p, .int .i64 9]) (by simp [results, Try.results14, go_sem, *]) rfl ⟨_, _, rfl, (Ha.out.keep hst), hst⟩
set_option maxRecDepth 100000 in
set_option maxHeartbeats 2000000 in
theorem rdrewind_s (ts : List Tp) (i p : Int) (n : Nat) (hf : FewD ⟨ts, i, p⟩) (hn : ts.length = n)
    (ts' : List Tp) (i' p' : Int) (n' e0 : Nat) (hv : rewindD ⟨ts, i, p⟩ = (⟨ts', i', p'⟩, e0)) (hn' : ts'.length = n') (ei : Int) (he : (e0 : Int) = ei) (A : Option Addr) (k : Nat) (w : World) (ha : RdS w A k ts) :
    Calls Try.prog 16 #[dc A n k i p] w fun e w' => ∃ A' k', e = .returned (.tuple #[dc A' n' k' i' p', .int .i64 ei]) ∧ RdS w' A' k' ts' ∧ Stp w w' := by
  have HF := Lib.hid hf
  have Hn := Lib.hid hn
  have Ha := Lib.hid ha
  obtain ⟨b0, b1, hst0⟩ := two_dblks w A n k i p
  obtain ⟨⟨q0, q1, q2⟩, -, -, -⟩ := dd_all b0
  have B0 := Lib.hid b0
  have B1 := Lib.hid b1
  have H0 := Lib.hid hst0
  clear hf b0 b1 hst0
  by_cases hw : whyD ⟨ts, i, p⟩ = 0
  · rw [rewindD, if_neg (by simpa using hw)] at hv
    cases hv
    obtain rfl : n = n' := by rw [← Hn.out, ← hn']
    subst he
    have Hw := Lib.hid hw
    clear hw hn' hn ha
    go_enter Try.func16, Try.ntmps16
    go_wp2_with (go_at_call 35; refine (rdwhy_s ts i p n HF.out Hn.out 0 Hw.out 0 rfl _ k _ (Ha.out.keep H0.out)).mono ?_; rintro e w1 ⟨rfl, hs⟩; have H1 := Lib.hid (Stp.trans H0.out hs); have B0' := Lib.hid (B0.out.keep hs B0.out.lt); have B1' := Lib.hid (B1.out.keep hs B1.out.lt); clear hs q0 q1 q2; obtain ⟨⟨q0, q1, q2⟩, -, -, -⟩ := dd_all B0'.out; obtain ⟨⟨r0, r1, r2⟩, s0, s1, s2⟩ := dd_all B1'.out)
    have hf := filld_blk A n k i 0 B1'.out
    have hst0 := filld_stp A n k i 0 H1.out (g := w.heap.size + 1) (by omega)
    change bodyPost _ _ _ _ _ (fillD w1 (w.heap.size + 1) A n k i 0)
    generalize fillD w1 (w.heap.size + 1) A n k i 0 = WW at hf hst0 ⊢
    clear q0 q1 q2 r0 r1 r2 s0 s1 s2
    have hst : Stp w WW := hst0
    obtain ⟨⟨q0, q1, q2⟩, -, -, -⟩ := dd_all hf
    refine bodyPost_ret (v := .tuple #[dc A n k i 0, .int .i64 0]) (by simp [results, Try.results16, go_sem, *]) rfl ⟨_, _, rfl, (Ha.out.keep hst), hst⟩
  · rw [rewindD, if_pos hw] at hv
    cases hv
    obtain rfl : n = n' := by rw [← Hn.out, ← hn']
    have key : whyD ⟨ts, i, p⟩ = 1 ∨ whyD ⟨ts, i, p⟩ = 9 := by
      unfold whyD at hw ⊢
      split
      · exact .inl rfl
      · rename_i h1
        rw [if_neg h1] at hw
        split
        · exact .inr rfl
        · rename_i h2
          rw [if_neg h2] at hw
          exact absurd rfl hw
    clear hn' hn ha hw
    rcases key with h | h
    · rw [h] at he
      subst he
      have Hw := Lib.hid h
      clear h
      go_enter Try.func16, Try.ntmps16
      go_wp2_with (go_at_call 35; refine (rdwhy_s ts i p n HF.out Hn.out 1 Hw.out 1 rfl _ k _ (Ha.out.keep H0.out)).mono ?_; rintro e w1 ⟨rfl, hs⟩; have H1 := Lib.hid (Stp.trans H0.out hs); have B0' := Lib.hid (B0.out.keep hs B0.out.lt); have B1' := Lib.hid (B1.out.keep hs B1.out.lt); clear hs q0 q1 q2; obtain ⟨⟨q0, q1, q2⟩, -, -, -⟩ := dd_all B0'.out; obtain ⟨⟨r0, r1, r2⟩, s0, s1, s2⟩ := dd_all B1'.out)
      have hf := filld_blk A n k i p B1'.out
      have hst0 := filld_stp A n k i p H1.out (g := w.heap.size + 1) (by omega)
      change bodyPost _ _ _ _ _ (fillD w1 (w.heap.size + 1) A n k i p)
      generalize fillD w1 (w.heap.size + 1) A n k i p = WW at hf hst0 ⊢
      clear q0 q1 q2 r0 r1 r2 s0 s1 s2
      have hst : Stp w WW := hst0
      obtain ⟨⟨q0, q1, q2⟩, -, -, -⟩ := dd_all hf
      refine bodyPost_ret (v := .tuple #[dc A n k i p, .int .i64 1]) (by simp [results, Try.results16, go_sem, *]) rfl ⟨_, _, rfl, (Ha.out.keep hst), hst⟩
    · rw [h] at he
      subst he
      have Hw := Lib.hid h
      clear h
      go_enter Try.func16, Try.ntmps16
      go_wp2_with (go_at_call 35; refine (rdwhy_s ts i p n HF.out Hn.out 9 Hw.out 9 rfl _ k _ (Ha.out.keep H0.out)).mono ?_; rintro e w1 ⟨rfl, hs⟩; have H1 := Lib.hid (Stp.trans H0.out hs); have B0' := Lib.hid (B0.out.keep hs B0.out.lt); have B1' := Lib.hid (B1.out.keep hs B1.out.lt); clear hs q0 q1 q2; obtain ⟨⟨q0, q1, q2⟩, -, -, -⟩ := dd_all B0'.out; obtain ⟨⟨r0, r1, r2⟩, s0, s1, s2⟩ := dd_all B1'.out)
      have hf := filld_blk A n k i p B1'.out
      have hst0 := filld_stp A n k i p H1.out (g := w.heap.size + 1) (by omega)
      change bodyPost _ _ _ _ _ (fillD w1 (w.heap.size + 1) A n k i p)
      generalize fillD w1 (w.heap.size + 1) A n k i p = WW at hf hst0 ⊢
      clear q0 q1 q2 r0 r1 r2 s0 s1 s2
      have hst : Stp w WW := hst0
      obtain ⟨⟨q0, q1, q2⟩, -, -, -⟩ := dd_all hf
      refine bodyPost_ret (v := .tuple #[dc A n k i p, .int .i64 9]) (by simp [results, Try.results16, go_sem, *]) rfl ⟨_, _, rfl, (Ha.out.keep hst), hst⟩
set_option maxRecDepth 100000 in
set_option maxHeartbeats 2000000 in
theorem rdmount_s (ts : List Tp) (i p : Int) (n : Nat) (hf : FewD ⟨ts, i, p⟩) (hn : ts.length = n) (q : Int) (hq0 : -9223372036854775808 ≤ q) (hq1 : q < 9223372036854775808)
    (ts' : List Tp) (i' p' : Int) (n' e0 : Nat) (hv : mountD ⟨ts, i, p⟩ q = (⟨ts', i', p'⟩, e0)) (hn' : ts'.length = n') (ei : Int) (he : (e0 : Int) = ei) (A : Option Addr) (k : Nat) (w : World) (ha : RdS w A k ts) :
    Calls Try.prog 12 #[dc A n k i p, .int .i64 q] w fun e w' => ∃ A' k', e = .returned (.tuple #[dc A' n' k' i' p', .int .i64 ei]) ∧ RdS w' A' k' ts' ∧ Stp w w' := by
  have HF := Lib.hid hf
  have Hn := Lib.hid hn
  have Ha := Lib.hid ha
  obtain ⟨b0, b1, hst0⟩ := two_dblks w A n k i p
  obtain ⟨⟨q0, q1, q2⟩, -, -, -⟩ := dd_all b0
  have B0 := Lib.hid b0
  have B1 := Lib.hid b1
  have H0 := Lib.hid hst0
  clear hf b0 b1 hst0
  cases hm : mayD ⟨ts, i, p⟩
  · have e1 : mountD ⟨ts, i, p⟩ q = (⟨ts, i, p⟩, 1) := by rw [mountD, hm]; rfl
    rw [hv] at e1
    cases e1
    obtain rfl : n = n' := by rw [← Hn.out, ← hn']
    subst he
    have Hm := Lib.hid hm
    clear hm hv hn' hn ha
    go_enter Try.func12, Try.ntmps12
    go_wp2_with (go_at_call 26; refine (rdmay_s ts i p n HF.out Hn.out false Hm.out _ k _ (Ha.out.keep H0.out)).mono ?_; rintro e w1 ⟨rfl, hs⟩; have H1 := Lib.hid (Stp.trans H0.out hs); have B0' := Lib.hid (B0.out.keep hs B0.out.lt); have B1' := Lib.hid (B1.out.keep hs B1.out.lt); clear hs q0 q1 q2; obtain ⟨⟨q0, q1, q2⟩, -, -, -⟩ := dd_all B0'.out; obtain ⟨⟨r0, r1, r2⟩, s0, s1, s2⟩ := dd_all B1'.out)
    have hf := filld_blk A n k i p B1'.out
    have hst0 := filld_stp A n k i p H1.out (g := w.heap.size + 1) (by omega)
    change bodyPost _ _ _ _ _ (fillD w1 (w.heap.size + 1) A n k i p)
    generalize fillD w1 (w.heap.size + 1) A n k i p = WW at hf hst0 ⊢
    clear q0 q1 q2 r0 r1 r2 s0 s1 s2
    have hst : Stp w WW := hst0
    obtain ⟨⟨q0, q1, q2⟩, -, -, -⟩ := dd_all hf
    refine bodyPost_ret (v := .tuple #[dc A n k i p, .int .i64 1]) (by simp [results, Try.results12, go_sem, *]) rfl ⟨_, _, rfl, (Ha.out.keep hst), hst⟩
  · have Hm := Lib.hid hm
    by_cases hin : q < 0 ∨ (n : Int) ≤ q
    · have e1 : mountD ⟨ts, i, p⟩ q = (⟨ts, i, p⟩, 9) := by rw [mountD, hm, if_neg (by simp), if_pos (by dsimp only; rw [hn]; exact hin)]
      rw [hv] at e1
      cases e1
      obtain rfl : n = n' := by rw [← Hn.out, ← hn']
      subst he
      clear hm hv hn' hn ha
      rcases hin with hin | hin
      · have g1 : decide (q < 0) = true := decide_eq_true hin
        go_enter Try.func12, Try.ntmps12
        go_wp2_with (go_at_call 26; refine (rdmay_s ts i p n HF.out Hn.out true Hm.out _ k _ (Ha.out.keep H0.out)).mono ?_; rintro e w1 ⟨rfl, hs⟩; have H1 := Lib.hid (Stp.trans H0.out hs); have B0' := Lib.hid (B0.out.keep hs B0.out.lt); have B1' := Lib.hid (B1.out.keep hs B1.out.lt); clear hs q0 q1 q2; obtain ⟨⟨q0, q1, q2⟩, -, -, -⟩ := dd_all B0'.out; obtain ⟨⟨r0, r1, r2⟩, s0, s1, s2⟩ := dd_all B1'.out)
        have hf := filld_blk A n k i p B1'.out
        have hst0 := filld_stp A n k i p H1.out (g := w.heap.size + 1) (by omega)
        change bodyPost _ _ _ _ _ (fillD w1 (w.heap.size + 1) A n k i p)
        generalize fillD w1 (w.heap.size + 1) A n k i p = WW at hf hst0 ⊢
        clear q0 q1 q2 r0 r1 r2 s0 s1 s2
        have hst : Stp w WW := hst0
        obtain ⟨⟨q0, q1, q2⟩, -, -, -⟩ := dd_all hf
        refine bodyPost_ret (v := .tuple #[dc A n k i p, .int .i64 9]) (by simp [results, Try.results12, go_sem, *]) rfl ⟨_, _, rfl, (Ha.out.keep hst), hst⟩
      · have g1 : decide (q < 0) = false := decide_eq_false (by omega)
        have g2 : decide ((n : Int) ≤ q) = true := decide_eq_true hin
        go_enter Try.func12, Try.ntmps12
        go_wp2_with (go_at_call 26; refine (rdmay_s ts i p n HF.out Hn.out true Hm.out _ k _ (Ha.out.keep H0.out)).mono ?_; rintro e w1 ⟨rfl, hs⟩; have H1 := Lib.hid (Stp.trans H0.out hs); have B0' := Lib.hid (B0.out.keep hs B0.out.lt); have B1' := Lib.hid (B1.out.keep hs B1.out.lt); clear hs q0 q1 q2; obtain ⟨⟨q0, q1, q2⟩, -, -, -⟩ := dd_all B0'.out; obtain ⟨⟨r0, r1, r2⟩, s0, s1, s2⟩ := dd_all B1'.out)
        have hf := filld_blk A n k i p B1'.out
        have hst0 := filld_stp A n k i p H1.out (g := w.heap.size + 1) (by omega)
        change bodyPost _ _ _ _ _ (fillD w1 (w.heap.size + 1) A n k i p)
        generalize fillD w1 (w.heap.size + 1) A n k i p = WW at hf hst0 ⊢
        clear q0 q1 q2 r0 r1 r2 s0 s1 s2
        have hst : Stp w WW := hst0
        obtain ⟨⟨q0, q1, q2⟩, -, -, -⟩ := dd_all hf
        refine bodyPost_ret (v := .tuple #[dc A n k i p, .int .i64 9]) (by simp [results, Try.results12, go_sem, *]) rfl ⟨_, _, rfl, (Ha.out.keep hst), hst⟩
    · have e1 : mountD ⟨ts, i, p⟩ q = (⟨ts, q, 0⟩, 0) := by rw [mountD, hm, if_neg (by simp), if_neg (by dsimp only; rw [hn]; exact hin)]
      rw [hv] at e1
      cases e1
      obtain rfl : n = n' := by rw [← Hn.out, ← hn']
      subst he
      have g1 : decide (q < 0) = false := decide_eq_false (by omega)
      have g2 : decide ((n : Int) ≤ q) = false := decide_eq_false (by omega)
      clear hm hv hn' hn ha hin
      go_enter Try.func12, Try.ntmps12
      go_wp2_with (go_at_call 26; refine (rdmay_s ts i p n HF.out Hn.out true Hm.out _ k _ (Ha.out.keep H0.out)).mono ?_; rintro e w1 ⟨rfl, hs⟩; have H1 := Lib.hid (Stp.trans H0.out hs); have B0' := Lib.hid (B0.out.keep hs B0.out.lt); have B1' := Lib.hid (B1.out.keep hs B1.out.lt); clear hs q0 q1 q2; obtain ⟨⟨q0, q1, q2⟩, -, -, -⟩ := dd_all B0'.out; obtain ⟨⟨r0, r1, r2⟩, s0, s1, s2⟩ := dd_all B1'.out)
      have hf := filld_blk A n k q 0 B1'.out
      have hst0 := filld_stp A n k q 0 H1.out (g := w.heap.size + 1) (by omega)
      change bodyPost _ _ _ _ _ (fillD w1 (w.heap.size + 1) A n k q 0)
      generalize fillD w1 (w.heap.size + 1) A n k q 0 = WW at hf hst0 ⊢
      clear q0 q1 q2 r0 r1 r2 s0 s1 s2
      have hst : Stp w WW := hst0
      obtain ⟨⟨q0, q1, q2⟩, -, -, -⟩ := dd_all hf
      refine bodyPost_ret (v := .tuple #[dc A n k q 0, .int .i64 0]) (by simp [results, Try.results12, go_sem, *]) rfl ⟨_, _, rfl, (Ha.out.keep hst), hst⟩
end Go.Proofs.Ytaknnkcfoafkdaa.Drive
