/-
  Package drive: Unmount, Mount, New: their contracts; no statement is proved here.
-/
import Derived.Test.YtaknnkcfoafkdaaDriveZ
namespace Go.Proofs.Ytaknnkcfoafkdaa.Drive
open Go.RowKit Go.Proofs.Ytaknnkcfoafkdaa.Str Go.Proofs.Ytaknnkcfoafkdaa.Base Go.Proofs.Ytaknnkcfoafkdaa.BlockM Go.Proofs.Ytaknnkcfoafkdaa.RecM Go.Proofs.Ytaknnkcfoafkdaa.TapeM Go.Proofs.Ytaknnkcfoafkdaa.Tape Go.Proofs.Ytaknnkcfoafkdaa.DriveM
set_option linter.unusedVariables false

theorem Osh.abv {lo : Nat} {w1 w2 : World} {A : Option Addr} {k : Nat} {ts : List Tp} (h : Osh lo w1 A k ts) (ha : Abv (fun x => x < w1.heap.size) w1 w2) : Osh lo w2 A k ts := by
  rcases h with rfl | ⟨b, cur, S, rfl, hb, hS, h⟩
  · exact .inl rfl
  · have h2 : Sh (fun x => S x ∧ x < w1.heap.size) w1 b k cur ts := h.less (fun x hx hs => ⟨hs, hx⟩) (fun hh => h.out hh.1)
    exact .inr ⟨b, cur, _, rfl, hb, fun x hx => hS x hx.1, h2.abv (Abv.less ha fun x hx hh => hx)⟩
theorem unmount_of (d : Dr) (d' : Dr) (e0 : Nat) (hv : unmountD d = (d', e0)) : ∃ d1, rewindD d = (d1, e0) ∧ d1.shelf = d.shelf ∧ d'.shelf = d.shelf ∧ (e0 = 0 → d'.inn = -1 ∧ d'.pos = 0 ∧ d1.pos = 0) ∧ (e0 ≠ 0 → d' = d1) := by
  by_cases hw : whyD d = 0
  · rw [unmountD, if_neg (by simpa using hw)] at hv
    cases hv
    exact ⟨⟨d.shelf, d.inn, 0⟩, by rw [rewindD, if_neg (by simpa using hw)], rfl, rfl, fun _ => ⟨rfl, rfl, rfl⟩, fun h => absurd rfl h⟩
  · rw [unmountD, if_pos (by simpa using hw)] at hv
    cases hv
    exact ⟨d, by rw [rewindD, if_pos (by simpa using hw)], rfl, rfl, fun h => absurd h hw, fun _ => rfl⟩
set_option maxRecDepth 100000 in
set_option maxHeartbeats 2000000 in
theorem dunmount_s (ts : List Tp) (i p : Int) (n : Nat) (hf : FewD ⟨ts, i, p⟩) (hn : ts.length = n)
    (ts' : List Tp) (i' p' : Int) (n' e0 : Nat) (hv : unmountD ⟨ts, i, p⟩ = (⟨ts', i', p'⟩, e0)) (hn' : ts'.length = n') (ei : Int) (he : (e0 : Int) = ei) (A : Option Addr) (k : Nat) (w : World) (ha : RdS w A k ts) :
    Calls Try.prog 13 #[dc A n k i p] w fun e w' => ∃ A' k', e = .returned (.tuple #[dc A' n' k' i' p', .int .i64 ei]) ∧ RdS w' A' k' ts' ∧ Stp w w' ∧ ∀ g, g < w.heap.size → ClearS g w A k ts → ClearS g w' A' k' ts' := by
  obtain ⟨b0, b1, hst0⟩ := two_dblks w A n k i p
  have hsz : w.heap.size + 2 = ((w.alloc (.cells (dcs A n k i p) 24)).alloc (.cells (dcs none 0 0 0 0) 24)).heap.size := by rw [World.size_alloc, World.size_alloc]
  have SZ := Lib.hid hsz
  obtain ⟨⟨q0, q1, q2⟩, -, -, -⟩ := dd_all b0
  have B1 := Lib.hid b1
  have H0 := Lib.hid hst0
  have Ha := Lib.hid (ha.keep hst0)
  clear b0 b1 hst0 hsz ha
  obtain ⟨⟨ts1, i1, p1⟩, hr, h1, h2, h3, h4⟩ := unmount_of _ _ _ hv
  dsimp only at h1 h2 h3 h4
  obtain rfl : ts1 = ts := h1
  obtain rfl : ts' = ts1 := h2
  obtain rfl : n' = n := by rw [← hn', hn]
  have Hrw := Lib.hid hr
  have HF := Lib.hid hf
  have Hn := Lib.hid hn
  clear hv hr hf hn hn'
  by_cases h0 : e0 = 0
  · obtain ⟨rfl, rfl, rfl⟩ := h3 h0
    obtain rfl : ei = 0 := by omega
    subst h0
    clear h3 h4
    go_enter Try.func13, Try.ntmps13
    go_wp2_with (go_at_call 15; refine (drewind_o _ i p _ HF.out Hn.out _ i1 0 _ 0 Hrw.out Hn.out 0 rfl A k _ Ha.out).mono ?_; rintro e w1 ⟨A1, k1, rfl, ho, hs⟩; have HO := Lib.hid ho; have H1 := Lib.hid hs; have B1' := Lib.hid ((B1.out.keep hs B1.out.lt).alloc (.cells (dcs A1 n' k1 (-1) 0) 24)); have BN := Lib.hid (Blk.new w1 24 (dcs A1 n' k1 i1 0)); clear ho hs q0 q1 q2; obtain ⟨⟨q0, q1, q2⟩, q3, q4, q5⟩ := dd_all BN.out; obtain ⟨⟨r0, r1, r2⟩, s0, s1, s2⟩ := dd_all B1'.out)
    have hX := osh_at (w := w) (rb := w.heap.size + 1) (n := n') (i := -1) (p := 0) B1'.out (Stp.trans H0.out (Stp.alloc H1.out (.cells (dcs A1 n' k1 (-1) 0) 24))) (HO.out.keep (Stp.alloc (Stp.refl w1) (.cells (dcs A1 n' k1 (-1) 0) 24))) (Nat.le_succ _) (Nat.le_of_eq SZ.out)
    change bodyPost _ _ _ _ _ (fillD (w1.alloc (.cells (dcs A1 n' k1 (-1) 0) 24)) (w.heap.size + 1) A1 n' k1 (-1) 0)
    generalize fillD (w1.alloc (.cells (dcs A1 n' k1 (-1) 0) 24)) (w.heap.size + 1) A1 n' k1 (-1) 0 = WW at hX ⊢
    obtain ⟨x0, x1, x2⟩ := hX
    clear q0 q1 q2 q3 q4 q5 r0 r1 r2 s0 s1 s2
    obtain ⟨⟨q0, q1, q2⟩, -, -, -⟩ := dd_all x0
    refine bodyPost_ret (v := .tuple #[dc A1 n' k1 (-1) 0, .int .i64 0]) (by simp [results, Try.results13, go_sem, *]) rfl ⟨A1, k1, rfl, x1.rd, x2, fun g hg _ => x1.clear hg⟩
  · have h5 := h4 h0
    simp only [Dr.mk.injEq, true_and] at h5
    obtain ⟨rfl, rfl⟩ := h5
    have g9 : (ei == 0) = false := by rw [beq_eq_false_iff_ne]; omega
    have He := Lib.hid he
    clear h3 h4 he
    go_enter Try.func13, Try.ntmps13
    go_wp2_with (go_at_call 15; refine (drewind_o _ i p _ HF.out Hn.out _ i' p' _ e0 Hrw.out Hn.out ei He.out A k _ Ha.out).mono ?_; rintro e w1 ⟨A1, k1, rfl, ho, hs⟩; have HO := Lib.hid ho; have H1 := Lib.hid hs; have B1' := Lib.hid ((B1.out.keep hs B1.out.lt).alloc (.cells (dcs A1 n' k1 i' p') 24)); have BN := Lib.hid (Blk.new w1 24 (dcs A1 n' k1 i' p')); clear ho hs q0 q1 q2; obtain ⟨⟨q0, q1, q2⟩, q3, q4, q5⟩ := dd_all BN.out; obtain ⟨⟨r0, r1, r2⟩, s0, s1, s2⟩ := dd_all B1'.out)
    have hX := osh_at (w := w) (rb := w.heap.size + 1) (n := n') (i := i') (p := p') B1'.out (Stp.trans H0.out (Stp.alloc H1.out (.cells (dcs A1 n' k1 i' p') 24))) (HO.out.keep (Stp.alloc (Stp.refl w1) (.cells (dcs A1 n' k1 i' p') 24))) (Nat.le_succ _) (Nat.le_of_eq SZ.out)
    change bodyPost _ _ _ _ _ (fillD (w1.alloc (.cells (dcs A1 n' k1 i' p') 24)) (w.heap.size + 1) A1 n' k1 i' p')
    generalize fillD (w1.alloc (.cells (dcs A1 n' k1 i' p') 24)) (w.heap.size + 1) A1 n' k1 i' p' = WW at hX ⊢
    obtain ⟨x0, x1, x2⟩ := hX
    clear q0 q1 q2 q3 q4 q5 r0 r1 r2 s0 s1 s2
    obtain ⟨⟨q0, q1, q2⟩, -, -, -⟩ := dd_all x0
    refine bodyPost_ret (v := .tuple #[dc A1 n' k1 i' p', .int .i64 ei]) (by simp [results, Try.results13, go_sem, *]) rfl ⟨A1, k1, rfl, x1.rd, x2, fun g hg _ => x1.clear hg⟩

set_option maxRecDepth 100000 in
set_option maxHeartbeats 2000000 in
theorem dmount_s (ts : List Tp) (i p : Int) (n : Nat) (hf : FewD ⟨ts, i, p⟩) (hn : ts.length = n) (q : Int) (hq0 : -9223372036854775808 ≤ q) (hq1 : q < 9223372036854775808)
    (ts' : List Tp) (i' p' : Int) (n' e0 : Nat) (hv : mountD ⟨ts, i, p⟩ q = (⟨ts', i', p'⟩, e0)) (hn' : ts'.length = n') (ei : Int) (he : (e0 : Int) = ei) (A : Option Addr) (k : Nat) (w : World) (ha : RdS w A k ts) :
    Calls Try.prog 11 #[dc A n k i p, .int .i64 q] w fun e w' => ∃ A' k', e = .returned (.tuple #[dc A' n' k' i' p', .int .i64 ei]) ∧ RdS w' A' k' ts' ∧ Stp w w' ∧ ∀ g, g < w.heap.size → ClearS g w A k ts → ClearS g w' A' k' ts' := by
  have hfew := hf.few
  dsimp only at hfew
  rw [hn] at hfew
  obtain ⟨b0, b1, hst0⟩ := two_dblks w A n k i p
  have hsz : w.heap.size + 2 = ((w.alloc (.cells (dcs A n k i p) 24)).alloc (.cells (dcs none 0 0 0 0) 24)).heap.size := by rw [World.size_alloc, World.size_alloc]
  have SZ := Lib.hid hsz
  obtain ⟨⟨q0, q1, q2⟩, -, -, -⟩ := dd_all b0
  have B0 := Lib.hid b0
  have B1 := Lib.hid b1
  have H0 := Lib.hid hst0
  have Ha := Lib.hid (ha.keep hst0)
  have HF := Lib.hid hf
  have HE : Hid (∀ t ∈ ts, FewT t) := Lib.hid hf.each
  have Hn := Lib.hid hn
  obtain ⟨x, hm⟩ : ∃ x, mayD ⟨ts, i, p⟩ = x := ⟨_, rfl⟩
  obtain ⟨y, hp⟩ : ∃ y, (decide (0 ≤ q) && decide (q < (n : Int))) = y := ⟨_, rfl⟩
  have Hm := Lib.hid hm
  have Hp := Lib.hid hp
  have hcase : (x = false ∧ ts = ts' ∧ i = i' ∧ p = p' ∧ ei = 1) ∨ (x = true ∧ y = false ∧ ts = ts' ∧ i = i' ∧ p = p' ∧ ei = 9) ∨ (x = true ∧ y = true ∧ ts = ts' ∧ q = i' ∧ p' = 0 ∧ ei = 0) := by
    rw [mountD, hm] at hv
    cases x
    · rw [if_pos rfl] at hv
      cases hv
      exact .inl ⟨rfl, rfl, rfl, rfl, by omega⟩
    · rw [if_neg (by simp)] at hv
      dsimp only at hv
      rw [hn] at hv
      by_cases h : q < 0 ∨ (n : Int) ≤ q
      · rw [if_pos h] at hv
        cases hv
        refine .inr (.inl ⟨rfl, ?_, rfl, rfl, rfl, by omega⟩)
        rw [← hp, Bool.and_eq_false_iff, decide_eq_false_iff_not, decide_eq_false_iff_not]
        omega
      · rw [if_neg h] at hv
        cases hv
        refine .inr (.inr ⟨rfl, ?_, rfl, rfl, rfl, by omega⟩)
        rw [← hp, Bool.and_eq_true, decide_eq_true_eq, decide_eq_true_eq]
        omega
  clear hf hv he ha b0 b1 hst0 hsz hm hp hn
  rcases hcase with ⟨rfl, rfl, rfl, rfl, rfl⟩ | ⟨rfl, rfl, rfl, rfl, rfl, rfl⟩ | ⟨rfl, rfl, rfl, rfl, rfl, rfl⟩
  all_goals
    obtain rfl : n = n' := by rw [← hn', Hn.out]
    clear hn'
    go_enter Try.func11, Try.ntmps11
    go_wp2_with (first
      | (go_at_call 33; refine (down_s _ i p _ Hn.out hfew HE.out A k _ Ha.out).mono ?_; rintro e w1 ⟨A1, k1, rfl, ho, hs⟩; have hal := Stp.trans hs (Stp.alloc (Stp.refl w1) (.cells (dcs A1 n k1 i p) 24)); have HO1 := Lib.hid ho; have Hal := Lib.hid (Stp.alloc (Stp.refl w1) (.cells (dcs A1 n k1 i p) 24)); have HO := Lib.hid (ho.keep (Stp.alloc (Stp.refl w1) (.cells (dcs A1 n k1 i p) 24))); have BN := Lib.hid (Blk.new w1 24 (dcs A1 n k1 i p)); have H1 := Lib.hid hal; have B0' := Lib.hid (B0.out.keep hal B0.out.lt); have B1' := Lib.hid (B1.out.keep hal B1.out.lt); have Hw1 := Lib.hid (Nat.le_trans (Nat.le_of_eq SZ.out) hs.size); clear ho hs hal q0 q1 q2; obtain ⟨⟨q0, q1, q2⟩, -, -, -⟩ := dd_all B0'.out)
      | (go_at_call 27; refine (dmay_s _ i p _ HF.out Hn.out _ Hm.out A k _ (Ha.out.keep H1.out)).mono ?_; rintro e w2 ⟨rfl, hs⟩; have HO2 := Lib.hid (HO.out.keep hs); have H12 := Lib.hid (Stp.trans Hal.out hs); have BN2 := Lib.hid (BN.out.keep hs BN.out.lt); have H2 := Lib.hid (Stp.trans H0.out (Stp.trans H1.out hs)); have B02 := Lib.hid (B0'.out.keep hs B0'.out.lt); have B12 := Lib.hid (B1'.out.keep hs B1'.out.lt); have n0 : w1.heap.size ≠ w.heap.size + 1 := (by have := Hw1.out; omega); clear hs q0 q1 q2; obtain ⟨⟨q0, q1, q2⟩, -, -, -⟩ := dd_all B02.out; obtain ⟨⟨q3, q4, q5⟩, p3, p4, p5⟩ := dd_all BN2.out; obtain ⟨⟨r0, r1, r2⟩, s0, s1, s2⟩ := dd_all B12.out)
      | (go_at_call 34; refine (isPlace_s A n k q _ Hp.out _).mono ?_; rintro e w9 ⟨rfl, rfl⟩))
  · have hX := osh_at (w := w) (rb := w.heap.size + 1) (n := n) (i := i) (p := p) B12.out H2.out HO2.out (Nat.le_succ _) (Nat.le_of_eq SZ.out)
    change bodyPost _ _ _ _ _ (fillD w2 (w.heap.size + 1) A1 n k1 i p)
    generalize fillD w2 (w.heap.size + 1) A1 n k1 i p = WW at hX ⊢
    obtain ⟨x0, x1, x2⟩ := hX
    clear q0 q1 q2 q3 q4 q5 p3 p4 p5 r0 r1 r2 s0 s1 s2
    obtain ⟨⟨q0, q1, q2⟩, -, -, -⟩ := dd_all x0
    refine bodyPost_ret (v := .tuple #[dc A1 n k1 i p, .int .i64 1]) (by simp [results, Try.results11, go_sem, *]) rfl ⟨A1, k1, rfl, x1.rd, x2, fun g hg _ => x1.clear hg⟩
  · have hX := osh_at (w := w) (rb := w.heap.size + 1) (n := n) (i := i) (p := p) B12.out H2.out HO2.out (Nat.le_succ _) (Nat.le_of_eq SZ.out)
    change bodyPost _ _ _ _ _ (fillD w9 (w.heap.size + 1) A1 n k1 i p)
    generalize fillD w9 (w.heap.size + 1) A1 n k1 i p = WW at hX ⊢
    obtain ⟨x0, x1, x2⟩ := hX
    clear q0 q1 q2 q3 q4 q5 p3 p4 p5 r0 r1 r2 s0 s1 s2
    obtain ⟨⟨q0, q1, q2⟩, -, -, -⟩ := dd_all x0
    refine bodyPost_ret (v := .tuple #[dc A1 n k1 i p, .int .i64 9]) (by simp [results, Try.results11, go_sem, *]) rfl ⟨A1, k1, rfl, x1.rd, x2, fun g hg _ => x1.clear hg⟩
  · have hA : Abv (fun x => x < w1.heap.size) w1 ((w9.setCell ⟨w1.heap.size, 1, none⟩ (.int .i64 q)).setCell ⟨w1.heap.size, 2, none⟩ (.int .i64 0)) :=
      Abv.trans (Abv.of_stp H12.out) (Abv.trans (Abv.put _ (by omega) _ _) (Abv.put _ (by omega) _ _))
    have hw1 : w.heap.size ≤ w1.heap.size := by have := Hw1.out; omega
    have hS : Stp w ((w9.setCell ⟨w1.heap.size, 1, none⟩ (.int .i64 q)).setCell ⟨w1.heap.size, 2, none⟩ (.int .i64 0)) :=
      Below.setCell (Below.setCell H2.out (p := ⟨w1.heap.size, 1, none⟩) hw1 _) (p := ⟨w1.heap.size, 2, none⟩) hw1 _
    have hB := (B12.out.far (p := ⟨w1.heap.size, 1, none⟩) (Ne.symm n0) (.int .i64 q)).far (p := ⟨w1.heap.size, 2, none⟩) (Ne.symm n0) (.int .i64 0)
    have hX := osh_at (w := w) (rb := w.heap.size + 1) (n := n) (i := q) (p := 0) hB hS (HO1.out.abv hA) (Nat.le_succ _) (Nat.le_of_eq SZ.out)
    clear hA hS hB
    generalize (w9.setCell ⟨w1.heap.size, 1, none⟩ (.int .i64 q)).setCell ⟨w1.heap.size, 2, none⟩ (.int .i64 0) = X at hX ⊢
    change bodyPost _ _ _ _ _ (fillD X (w.heap.size + 1) A1 n k1 q 0)
    generalize fillD X (w.heap.size + 1) A1 n k1 q 0 = WW at hX ⊢
    obtain ⟨x0, x1, x2⟩ := hX
    clear q0 q1 q2 q3 q4 q5 p3 p4 p5 r0 r1 r2 s0 s1 s2
    obtain ⟨⟨q0, q1, q2⟩, -, -, -⟩ := dd_all x0
    refine bodyPost_ret (v := .tuple #[dc A1 n k1 q 0, .int .i64 0]) (by simp [results, Try.results11, go_sem, *]) rfl ⟨A1, k1, rfl, x1.rd, x2, fun g hg _ => x1.clear hg⟩

theorem new_may {ts : List Tp} {n : Nat} (hn : ts.length = n) (h0 : n ≤ 1000) (he : ∀ t ∈ ts, FewT t) : FewD ⟨ts, -1, 0⟩ := ⟨by simp, by simp, by simp, by simp, by dsimp only; omega, he⟩
set_option maxRecDepth 100000 in
set_option maxHeartbeats 2000000 in
theorem dnew_s (ts : List Tp) (n : Nat) (hn : ts.length = n) (hfew : n ≤ 1000) (he : ∀ t ∈ ts, FewT t) (ts' : List Tp) (i' p' : Int) (b : Bool) (n' : Nat) (hv : newD ts = (⟨ts', i', p'⟩, b)) (hn' : ts'.length = n') (A : Option Addr) (k : Nat) (w : World) (ha : RdS w A k ts) :
    Calls Try.prog 23 #[.slice A n k] w fun e w' => ∃ A' k', e = .returned (.tuple #[dc A' n' k' i' p', .bool b]) ∧ RdS w' A' k' ts' ∧ Stp w w' ∧ ∀ g, g < w.heap.size → ClearS g w A k ts → ClearS g w' A' k' ts' := by
  have H0 := Lib.hid (Stp.alloc (Stp.alloc (Stp.refl w) (.cells (dcs none 0 0 0 0) 24)) (.cells (dcs A n k (-1) 0) 24))
  have b0 := (Blk.new w 24 (dcs none 0 0 0 0)).alloc (.cells (dcs A n k (-1) 0) 24)
  have b1 := Blk.new (w.alloc (.cells (dcs none 0 0 0 0) 24)) 24 (dcs A n k (-1) 0)
  have SZ := Lib.hid (show w.heap.size + 2 = ((w.alloc (.cells (dcs none 0 0 0 0) 24)).alloc (.cells (dcs A n k (-1) 0) 24)).heap.size by rw [World.size_alloc, World.size_alloc])
  rw [World.size_alloc] at b1
  have B0 := Lib.hid b0
  have B1 := Lib.hid b1
  obtain ⟨⟨q0, q1, q2⟩, -, -, -⟩ := dd_all b1
  have Hn := Lib.hid hn
  have HE := Lib.hid he
  have HF := Lib.hid (new_may hn hfew he)
  have Ha := Lib.hid (ha.keep H0.out)
  obtain ⟨x, hm⟩ : ∃ x, mayD ⟨ts, -1, 0⟩ = x := ⟨_, rfl⟩
  have Hm := Lib.hid hm
  have hcase : (x = true ∧ ts = ts' ∧ i' = -1 ∧ p' = 0 ∧ b = true) ∨ (x = false ∧ ts' = [] ∧ i' = 0 ∧ p' = 0 ∧ b = false) := by
    rw [newD, hm] at hv
    cases x
    · rw [if_neg (by simp)] at hv
      cases hv
      exact .inr ⟨rfl, rfl, rfl, rfl, rfl⟩
    · rw [if_pos rfl] at hv
      cases hv
      exact .inl ⟨rfl, rfl, rfl, rfl, rfl⟩
  clear hn he ha hm hv b0 b1
  rcases hcase with ⟨rfl, rfl, rfl, rfl, rfl⟩ | ⟨rfl, rfl, rfl, rfl, rfl⟩
  · obtain rfl : n = n' := by rw [← hn', Hn.out]
    clear hn'
    go_enter Try.func23, Try.ntmps23
    go_wp2_with (first
      | (go_at_call 27; refine (dmay_s _ (-1) 0 _ HF.out Hn.out _ Hm.out A k _ Ha.out).mono ?_; rintro e w2 ⟨rfl, hs⟩; have H2 := Lib.hid hs; have B12 := Lib.hid (B1.out.keep hs B1.out.lt); clear hs q0 q1 q2; obtain ⟨⟨q0, q1, q2⟩, -, -, -⟩ := dd_all B12.out)
      | (go_at_call 33; refine (down_s _ (-1) 0 _ Hn.out hfew HE.out A k _ (Ha.out.keep H2.out)).mono ?_; rintro e w3 ⟨A1, k1, rfl, ho, hs⟩; have B03 := Lib.hid (B0.out.keep (Stp.trans H2.out hs) B0.out.lt); have X := Lib.hid (osh_at (w := w) (rb := w.heap.size) (n := n) (i := -1) (p := 0) B03.out (Stp.trans H0.out (Stp.trans H2.out hs)) ho (Nat.le_refl _) (by have := SZ.out; have := H2.out.size; omega)); clear ho hs q0 q1 q2; obtain ⟨⟨r0, r1, r2⟩, s0, s1, s2⟩ := dd_all B03.out))
    have hX := X.out
    clear X
    change bodyPost _ _ _ _ _ (fillD w3 w.heap.size A1 n k1 (-1) 0)
    generalize fillD w3 w.heap.size A1 n k1 (-1) 0 = WW at hX ⊢
    obtain ⟨x0, x1, x2⟩ := hX
    clear r0 r1 r2 s0 s1 s2
    obtain ⟨⟨q0, q1, q2⟩, -, -, -⟩ := dd_all x0
    refine bodyPost_ret (v := .tuple #[dc A1 n k1 (-1) 0, .bool true]) (by simp [results, Try.results23, go_sem, *]) rfl ⟨A1, k1, rfl, x1.rd, x2, fun g hg _ => x1.clear hg⟩
  · obtain rfl : n' = 0 := by rw [← hn']; rfl
    go_enter Try.func23, Try.ntmps23
    go_wp2_with (go_at_call 27; refine (dmay_s _ (-1) 0 _ HF.out Hn.out _ Hm.out A k _ Ha.out).mono ?_; rintro e w2 ⟨rfl, hs⟩; have H2 := Lib.hid (Stp.trans H0.out hs); have B02 := Lib.hid (B0.out.keep hs B0.out.lt); clear hs q0 q1 q2; obtain ⟨⟨r0, r1, r2⟩, s0, s1, s2⟩ := dd_all B02.out)
    have hX := osh_at (w := w) (lo := w.heap.size + 1) (ts := []) (rb := w.heap.size) (A := none) (k := 0) (n := 0) (i := 0) (p := 0) B02.out H2.out (.inl rfl) (Nat.le_refl _) (Nat.le_refl _)
    change bodyPost _ _ _ _ _ (fillD w2 w.heap.size none 0 0 0 0)
    generalize fillD w2 w.heap.size none 0 0 0 0 = WW at hX ⊢
    obtain ⟨x0, x1, x2⟩ := hX
    clear r0 r1 r2 s0 s1 s2
    obtain ⟨⟨q0, q1, q2⟩, -, -, -⟩ := dd_all x0
    refine bodyPost_ret (v := .tuple #[dc none 0 0 0 0, .bool false]) (by simp [results, Try.results23, go_sem, *]) rfl ⟨none, 0, rfl, x1.rd, x2, fun g hg _ => x1.clear hg⟩
end Go.Proofs.Ytaknnkcfoafkdaa.Drive
