/-
  Package drive: Mark, Write, Unmount, Mount, New: their contracts; no statement is proved here.
-/
import Derived.Test.YtaknnkcfoafkdaaDriveY
namespace Go.Proofs.Ytaknnkcfoafkdaa.Drive
open Go.RowKit Go.Proofs.Ytaknnkcfoafkdaa.Str Go.Proofs.Ytaknnkcfoafkdaa.Base Go.Proofs.Ytaknnkcfoafkdaa.BlockM Go.Proofs.Ytaknnkcfoafkdaa.RecM Go.Proofs.Ytaknnkcfoafkdaa.TapeM Go.Proofs.Ytaknnkcfoafkdaa.Tape Go.Proofs.Ytaknnkcfoafkdaa.DriveM
set_option linter.unusedVariables false

theorem set_same {ts : List Tp} {j : Nat} {t : Tp} (h : ts[j]? = some t) : ts.set j ⟨t.cap, t.rows, t.mark⟩ = ts := by
  refine List.ext_getElem? fun q => ?_
  by_cases e : j = q
  · subst e
    rw [List.getElem?_set_self (List.getElem?_eq_some_iff.1 h).1, h]
  · rw [List.getElem?_set_ne e]

set_option maxRecDepth 100000 in
set_option maxHeartbeats 2000000 in
theorem dmark_s (ts : List Tp) (i p : Int) (n : Nat) (hf : FewD ⟨ts, i, p⟩) (hn : ts.length = n)
    (ts' : List Tp) (i' p' : Int) (n' e0 : Nat) (hv : markD ⟨ts, i, p⟩ = (⟨ts', i', p'⟩, e0)) (hn' : ts'.length = n') (ei : Int) (he : (e0 : Int) = ei) (A : Option Addr) (k : Nat) (w : World) (ha : RdS w A k ts) :
    Calls Try.prog 19 #[dc A n k i p] w fun e w' => ∃ A' k', e = .returned (.tuple #[dc A' n' k' i' p', .int .i64 ei]) ∧ RdS w' A' k' ts' ∧ Stp w w' ∧ ∀ g, g < w.heap.size → ClearS g w A k ts → ClearS g w' A' k' ts' := by
  obtain ⟨b0, b1, hst0⟩ := two_dblks w A n k i p
  have hsz : w.heap.size + 2 = ((w.alloc (.cells (dcs A n k i p) 24)).alloc (.cells (dcs none 0 0 0 0) 24)).heap.size := by rw [World.size_alloc, World.size_alloc]
  have SZ := Lib.hid hsz
  obtain ⟨⟨q0, q1, q2⟩, -, -, -⟩ := dd_all b0
  have B1 := Lib.hid b1
  have H0 := Lib.hid hst0
  have Ha := Lib.hid (ha.keep hst0)
  clear b0 b1 hst0 hsz ha
  have C : Hid (Calls Try.prog 36 #[dc A n k i p, .func (.func 43) #[] #[]] ((w.alloc (.cells (dcs A n k i p) 24)).alloc (.cells (dcs none 0 0 0 0) 24)) fun e w' => ∃ A' k', e = .returned (.tuple #[dc A' n' k' i' p', .int .i64 ei]) ∧ Osh (w.heap.size + 2) w' A' k' ts' ∧ Stp ((w.alloc (.cells (dcs A n k i p) 24)).alloc (.cells (dcs none 0 0 0 0) 24)) w') := Lib.hid (by
    rw [SZ.out]
    by_cases hw : whyD ⟨ts, i, p⟩ = 0
    · obtain ⟨hm, hi⟩ := whyD_ok hw
      obtain ⟨j, pp, t, e1, e2, e3, e4, e5, e6, -⟩ := mounted hm hi
      dsimp only at e1 e2 e3
      rw [(markD_ok hm e1 e2 e3 e6).1] at hv
      cases hv
      subst hn' he e1 e2
      rw [List.length_set, hn]
      refine (change_yes 43 #[] (enters_of Try.func43 (by kernel_rfl) rfl) ts (j : Int) (pp : Int) n j pp t hm hn rfl rfl e3 t.cap (t.rows.take pp) true pp (pp : Int) 0 (by rw [List.length_take]; omega) none (fun _ _ => True) (fun _ => True) A k _ Ha.out (by simp) ?_ (fun _ _ _ _ _ _ => trivial)).mono ?_
      · intro wx g S A1 k1 hs hg hS hlo hup hb hr
        exact (mark_m g S hS t.cap t.rows t.mark t.rows.length (hf.each t (List.mem_of_getElem? e3)) rfl e5 pp e6 A1 k1 wx hlo hb hr).mono fun e w3 ⟨h1, h2⟩ => ⟨h1, h2, trivial⟩
      · rintro e w3 ⟨A', k', rfl, ho, hg, -⟩
        exact ⟨A', k', rfl, ho, stp_none hg⟩
    · rw [markD, if_pos (by simpa using hw)] at hv
      cases hv
      subst hn'
      refine (change_no _ ts i p n hf hn _ rfl hw ei he A k _ Ha.out).mono ?_
      rintro e w3 ⟨A', k', rfl, ho, hs⟩
      exact ⟨A', k', by rw [hn], ho, hs⟩)
  clear hf hn hv hn' he
  go_enter Try.func19, Try.ntmps19
  go_wp2_with (go_at_call 36; refine C.out.mono ?_; rintro e w1 ⟨A1, k1, rfl, ho, hs⟩; have B1' := Lib.hid (B1.out.keep hs B1.out.lt); have X := Lib.hid (osh_end (n := n') (i := i') (p := p') B1'.out (Stp.trans H0.out hs) ho (Nat.le_refl _)); obtain ⟨⟨r0, r1, r2⟩, s0, s1, s2⟩ := dd_all B1'.out; clear ho hs q0 q1 q2)
  have hX := X.out
  clear X
  change bodyPost _ _ _ _ _ (fillD w1 (w.heap.size + 1) A1 n' k1 i' p')
  generalize fillD w1 (w.heap.size + 1) A1 n' k1 i' p' = WW at hX ⊢
  obtain ⟨x0, x1, x2, x3⟩ := hX
  clear r0 r1 r2 s0 s1 s2
  obtain ⟨⟨q0, q1, q2⟩, -, -, -⟩ := dd_all x0
  refine bodyPost_ret (v := .tuple #[dc A1 n' k1 i' p', .int .i64 ei]) (by simp [results, Try.results19, go_sem, *]) rfl ⟨A1, k1, rfl, x1, x2, fun g hg _ => x3 g hg⟩

set_option maxRecDepth 100000 in
set_option maxHeartbeats 2000000 in
theorem dwrite_o (ts : List Tp) (i p : Int) (n : Nat) (hf : FewD ⟨ts, i, p⟩) (hn : ts.length = n) (r : L) (l : Nat) (hl : r.length = l) (hl2 : l ≤ 100000)
    (ts' : List Tp) (i' p' : Int) (n' e0 : Nat) (hv : writeD ⟨ts, i, p⟩ r = (⟨ts', i', p'⟩, e0)) (hn' : ts'.length = n') (ei : Int) (he : (e0 : Int) = ei) (A : Option Addr) (k : Nat) (B : Option Addr) (d : Nat) (w : World) (ha : RdS w A k ts) (hr : RdA w B d (bs r)) :
    Calls Try.prog 17 #[dc A n k i p, .slice B l d] w fun e w' => ∃ A' k', e = .returned (.tuple #[dc A' n' k' i' p', .int .i64 ei]) ∧ Osh w.heap.size w' A' k' ts' ∧ Stp w w' := by
  obtain ⟨b0, b1, hst0⟩ := two_dblks w A n k i p
  have hsz : w.heap.size + 2 = ((w.alloc (.cells (dcs A n k i p) 24)).alloc (.cells (dcs none 0 0 0 0) 24)).heap.size := by rw [World.size_alloc, World.size_alloc]
  have SZ := Lib.hid hsz
  have B0 := Lib.hid b0
  have B1 := Lib.hid b1
  have H0 := Lib.hid hst0
  have Ha := Lib.hid (ha.keep hst0)
  have Hr := Lib.hid (hr.keep hst0)
  clear b0 b1 hst0 hsz ha hr
  have C : Hid (∀ (W2 : World) (b1 b2 : Nat), Stp ((w.alloc (.cells (dcs A n k i p) 24)).alloc (.cells (dcs none 0 0 0 0) 24)) W2 → W2.cell? ⟨b1, 0, none⟩ = some (.func (.func 39) #[] #[]) → W2.cell? ⟨b2, 0, none⟩ = some (.slice B l d) →
      Calls Try.prog 36 #[dc A n k i p, .func (.func 56) #[] #[.pointer (some ⟨b1, 0, none⟩), .pointer (some ⟨b2, 0, none⟩)]] W2 fun e w' => ∃ A' k', e = .returned (.tuple #[dc A' n' k' i' p', .int .i64 ei]) ∧ Osh W2.heap.size w' A' k' ts' ∧ Stp W2 w') := Lib.hid (by
    intro W2 b1 b2 hs0 hc1 hc2
    have hl1 := World.block_lt_of_cell? W2 _ hc1
    have hlq := World.block_lt_of_cell? W2 _ hc2
    by_cases hw : whyD ⟨ts, i, p⟩ = 0
    · obtain ⟨hm, hi⟩ := whyD_ok hw
      obtain ⟨j, pp, t, e1, e2, e3, e4, e5, e6, -⟩ := mounted hm hi
      dsimp only at e1 e2 e3
      have hc : cutT t (pp : Int) = (⟨t.cap, t.rows.take pp, false⟩, 0) := by
        rw [cutT_yes e5 (by omega) (by omega), Int.toNat_natCast]
      obtain ⟨⟨⟨cu, lu, mu⟩, e7⟩, hu⟩ : ∃ u, writeV ⟨t.cap, t.rows.take pp, false⟩ r = u := ⟨_, rfl⟩
      rw [writeD, if_neg (by simpa using hw), e4] at hv
      dsimp only at hv
      rw [e2, hc, hu] at hv
      dsimp only at hv
      by_cases h7 : e7 = 0
      · subst h7
        rw [if_neg (by simp)] at hv
        simp only [withD, e1, Int.toNat_natCast] at hv
        cases hv
        subst hn' he e1 e2
        rw [List.length_set, hn]
        refine (change_yes 56 #[.pointer (some ⟨b1, 0, none⟩), .pointer (some ⟨b2, 0, none⟩)] (enters_of Try.func56 (by kernel_rfl) rfl) ts (j : Int) (pp : Int) n j pp t hm hn rfl rfl e3 cu lu mu lu.length ((pp : Int) + 1) 0 rfl none (fun _ _ => True) (fun _ => True) A k _ (Ha.out.keep hs0) (by simp) ?_ (fun _ _ _ _ _ _ => trivial)).mono ?_
        · intro wx g S A1 k1 hs hg hS hlo hup hb hr
          refine (of1_m b1 b2 g l d B 0 (fun w' => Done S g none wx cu lu mu lu.length ((pp : Int) + 1) w') wx ((write_m g S hS t.cap t.rows t.mark t.rows.length (hf.each t (List.mem_of_getElem? e3)) rfl e5 pp e6 r l hl hl2 cu lu mu lu.length 0 hu rfl 0 rfl A1 k1 B d wx hlo hb hr (Hr.out.keep (Stp.trans hs0 hs))).mono ?_) ((hs.cell (p := ⟨b1, 0, none⟩) hl1).trans hc1) ((hs.cell (p := ⟨b2, 0, none⟩) hlq).trans hc2)).mono fun e w3 ⟨h1, h2⟩ => ⟨h1, h2, trivial⟩
          rintro e w3 ⟨rfl, h⟩
          exact ⟨rfl, h⟩
        · rintro e w3 ⟨A', k', rfl, ho, hg, -⟩
          exact ⟨A', k', rfl, ho, stp_none hg⟩
      · rw [if_pos (by simpa using h7)] at hv
        cases hv
        subst hn' he e1 e2
        rw [hn]
        refine (change_yes 56 #[.pointer (some ⟨b1, 0, none⟩), .pointer (some ⟨b2, 0, none⟩)] (enters_of Try.func56 (by kernel_rfl) rfl) ts (j : Int) (pp : Int) n j pp t hm hn rfl rfl e3 t.cap t.rows t.mark t.rows.length (pp : Int) (e0 : Int) rfl none (fun _ _ => True) (fun _ => True) A k _ (Ha.out.keep hs0) (by simp) ?_ (fun _ _ _ _ _ _ => trivial)).mono ?_
        · intro wx g S A1 k1 hs hg hS hlo hup hb hr
          refine (of1_m b1 b2 g l d B (e0 : Int) (fun w' => Done S g none wx t.cap t.rows t.mark t.rows.length (pp : Int) w') wx ((write_m g S hS t.cap t.rows t.mark t.rows.length (hf.each t (List.mem_of_getElem? e3)) rfl e5 pp e6 r l hl hl2 cu lu mu lu.length e0 hu rfl (e0 : Int) rfl A1 k1 B d wx hlo hb hr (Hr.out.keep (Stp.trans hs0 hs))).mono ?_) ((hs.cell (p := ⟨b1, 0, none⟩) hl1).trans hc1) ((hs.cell (p := ⟨b2, 0, none⟩) hlq).trans hc2)).mono fun e w3 ⟨h1, h2⟩ => ⟨h1, h2, trivial⟩
          rintro e w3 ⟨rfl, h⟩
          rw [if_neg h7] at h
          exact ⟨rfl, h⟩
        · rintro e w3 ⟨A', k', rfl, ho, hg, -⟩
          rw [set_same e3] at ho
          exact ⟨A', k', rfl, ho, stp_none hg⟩
    · rw [writeD, if_pos (by simpa using hw)] at hv
      cases hv
      subst hn'
      refine (change_no _ ts i p n hf hn _ rfl hw ei he A k _ (Ha.out.keep hs0)).mono ?_
      rintro e w3 ⟨A', k', rfl, ho, hs⟩
      exact ⟨A', k', by rw [hn], ho, hs⟩)
  clear hf hn hv hn' he hl
  go_enter Try.func17, Try.ntmps17
  go_upto_region 1 with fail
  generalize ((w.alloc (.cells (dcs A n k i p) 24)).alloc (.cells (dcs none 0 0 0 0) 24)) = X0 at B0 B1 H0 Ha Hr SZ C ⊢
  have HD := Lib.hid (show Stp X0 X0.drew from Stp.drewN (Stp.refl X0) 1)
  obtain ⟨⟨q0, q1, q2⟩, -, -, -⟩ := dd_all (Blk.drew B0.out)
  go_region_law (first
    | (go_simp; go_at_call 38; (with_reducible refine (of_c B l d X0.drew).mono ?_); rintro e w2 ⟨b1, b2, rfl, hc1, hc2, hs⟩; have C1 := Lib.hid hc1; have C2 := Lib.hid hc2; have H2 := Lib.hid (Stp.trans HD.out hs); have B02 := Lib.hid (B0.out.keep H2.out B0.out.lt); have B12 := Lib.hid (B1.out.keep H2.out B1.out.lt); clear hc1 hc2 hs; obtain ⟨⟨q3, q4, q5⟩, -, -, -⟩ := dd_all B02.out)
    | (go_simp; go_at_call 36; (with_reducible refine (C.out w2 b1 b2 H2.out C1.out C2.out).mono ?_); rintro e w3 ⟨A1, k1, rfl, ho, hs⟩; have B13 := Lib.hid (B12.out.keep hs B12.out.lt); have X := Lib.hid (osh_at (rb := w.heap.size + 1) (n := n') (i := i') (p := p') B13.out (Stp.trans H0.out (Stp.trans H2.out hs)) ho (Nat.le_succ _) (Nat.le_trans (Nat.le_of_eq SZ.out) H2.out.size)); obtain ⟨⟨r0, r1, r2⟩, s0, s1, s2⟩ := dd_all B13.out; clear ho hs))
  all_goals
    go_wp2_with fail
    have hX := X.out
    clear X
    change bodyPost _ _ _ _ _ (fillD w3 (w.heap.size + 1) A1 n' k1 i' p')
    generalize fillD w3 (w.heap.size + 1) A1 n' k1 i' p' = WW at hX ⊢
    obtain ⟨x0, x1, x2⟩ := hX
    clear r0 r1 r2 s0 s1 s2 q0 q1 q2 q3 q4 q5
    obtain ⟨⟨q0, q1, q2⟩, -, -, -⟩ := dd_all x0
    refine bodyPost_ret (v := .tuple #[dc A1 n' k1 i' p', .int .i64 ei]) (by simp [results, Try.results17, go_sem, *]) rfl ⟨A1, k1, rfl, x1, x2⟩
theorem dwrite_c (ts : List Tp) (i p : Int) (n : Nat) (hf : FewD ⟨ts, i, p⟩) (hn : ts.length = n) (r : L) (l : Nat) (hl : r.length = l) (hl2 : l ≤ 100000)
    (ts' : List Tp) (i' p' : Int) (n' e0 : Nat) (hv : writeD ⟨ts, i, p⟩ r = (⟨ts', i', p'⟩, e0)) (hn' : ts'.length = n') (ei : Int) (he : (e0 : Int) = ei) (A : Option Addr) (k : Nat) (B : Option Addr) (d : Nat) (w : World) (ha : RdS w A k ts) (hr : RdA w B d (bs r)) :
    Calls Try.prog 17 #[dc A n k i p, .slice B l d] w fun e w' => ∃ A' k', e = .returned (.tuple #[dc A' n' k' i' p', .int .i64 ei]) ∧ RdS w' A' k' ts' ∧ Stp w w' ∧ ∀ g, g < w.heap.size → ClearS g w' A' k' ts' :=
  (dwrite_o ts i p n hf hn r l hl hl2 ts' i' p' n' e0 hv hn' ei he A k B d w ha hr).mono fun e w' ⟨A', k', h1, h2, h3⟩ => ⟨A', k', h1, h2.rd, h3, fun g hg => h2.clear hg⟩
theorem dwrite_s (ts : List Tp) (i p : Int) (n : Nat) (hf : FewD ⟨ts, i, p⟩) (hn : ts.length = n) (r : L) (l : Nat) (hl : r.length = l) (hl2 : l ≤ 100000)
    (ts' : List Tp) (i' p' : Int) (n' e0 : Nat) (hv : writeD ⟨ts, i, p⟩ r = (⟨ts', i', p'⟩, e0)) (hn' : ts'.length = n') (ei : Int) (he : (e0 : Int) = ei) (A : Option Addr) (k : Nat) (B : Option Addr) (d : Nat) (w : World) (ha : RdS w A k ts) (hr : RdA w B d (bs r)) :
    Calls Try.prog 17 #[dc A n k i p, .slice B l d] w fun e w' => ∃ A' k', e = .returned (.tuple #[dc A' n' k' i' p', .int .i64 ei]) ∧ RdS w' A' k' ts' ∧ Stp w w' ∧ ∀ g, g < w.heap.size → ClearS g w A k ts → ClearA g w B d (bs r) → ClearS g w' A' k' ts' :=
  (dwrite_c ts i p n hf hn r l hl hl2 ts' i' p' n' e0 hv hn' ei he A k B d w ha hr).mono fun e w' ⟨A', k', h1, h2, h3, h4⟩ => ⟨A', k', h1, h2, h3, fun g hg _ _ => h4 g hg⟩
end Go.Proofs.Ytaknnkcfoafkdaa.Drive
