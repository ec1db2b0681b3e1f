/-
  The document's answers for drives: their contracts; no statement is proved here.
-/
import Derived.Test.YtaknnkcfoafkdaaDriveI
import Derived.Test.YtaknnkcfoafkdaaDriveRef
import Derived.BigQuiet
import Derived.Deep.RegionLaw
import Derived.Deep.Cut
namespace Go.Proofs.Ytaknnkcfoafkdaa.Drive
open Go.RowKit Go.Proofs.Ytaknnkcfoafkdaa.Str Go.Proofs.Ytaknnkcfoafkdaa.Base Go.Proofs.Ytaknnkcfoafkdaa.BlockM Go.Proofs.Ytaknnkcfoafkdaa.RecM Go.Proofs.Ytaknnkcfoafkdaa.TapeM Go.Proofs.Ytaknnkcfoafkdaa.Tape Go.Proofs.Ytaknnkcfoafkdaa.DriveM
set_option linter.unusedVariables false

theorem rda_pastd {w w' : World} {g : Nat} {X A : Option Addr} {n k d : Nat} {i p : Int} {l : L} (h : RdA w X d (bs l)) (hb : Blk w g 24 (dcs A n k i p)) (hw : w.grownBy w' (some g)) : RdA w' X d (bs l) := by
  obtain ⟨A', cap, e, hc, hr⟩ := h
  refine ⟨A', cap, e, hc, fun hn => ?_⟩
  obtain ⟨b, o, e2, hB, hcell⟩ := hr hn
  have hbg : b ≠ g := by
    rintro rfl
    have hlen : 0 < (bs l).length := List.length_pos_iff.2 hn
    obtain ⟨x, hx⟩ : ∃ x, (bs l)[0]? = some x := ⟨_, List.getElem?_eq_getElem hlen⟩
    have h5 := hcell 0 x hx
    have hm := List.mem_of_getElem? hx
    simp only [bs, List.mem_map] at hm
    obtain ⟨y, -, rfl⟩ := hm
    rw [Nat.add_zero, hb.cell] at h5
    rcases o with _ | _ | _ | o
    · simp at h5
    · simp at h5
    · simp at h5
    · simp at h5
  refine ⟨b, o, e2, Nat.lt_of_lt_of_le hB hw.size, fun j x hj => ?_⟩
  rw [← hcell j x hj]
  simp only [World.cell?, hw.block b hB (by simpa using hbg)]
set_option maxRecDepth 100000 in
set_option maxHeartbeats 2000000 in
theorem rdnew_s (ts : List Tp) (n : Nat) (hn : ts.length = n) (hn2 : n ≤ 1000) (hfe : ∀ t ∈ ts, FewT t) (ts' : List Tp) (i' p' : Int) (b : Bool) (n' : Nat) (hv : newD ts = (⟨ts', i', p'⟩, b)) (hn' : ts'.length = n') (A : Option Addr) (k : Nat) (w : World) (ha : RdS w A k ts) :
    Calls Try.prog 24 #[.slice A n k] w fun e w' => ∃ A' k', e = .returned (.tuple #[dc A' n' k' i' p', .bool b]) ∧ RdS w' A' k' ts' ∧ Stp w w' := by
  have hf : FewD ⟨ts, -1, 0⟩ := ⟨by simp, by simp, by simp, by simp, by dsimp only; omega, hfe⟩
  have HF := Lib.hid hf
  have Hn := Lib.hid hn
  have Ha := Lib.hid ha
  have H0 := Lib.hid (Stp.alloc (Stp.alloc (Stp.refl w) (.cells (dcs none 0 0 0 0) 24)) (.cells (dcs A n k (-1) 0) 24))
  have b0 := (Blk.new w 24 (dcs none 0 0 0 0)).alloc (.cells (dcs A n k (-1) 0) 24)
  have b1 := Blk.new (w.alloc (.cells (dcs none 0 0 0 0) 24)) 24 (dcs A n k (-1) 0)
  rw [World.size_alloc] at b1
  have B0 := Lib.hid b0
  have B1 := Lib.hid b1
  obtain ⟨⟨q0, q1, q2⟩, -, -, -⟩ := dd_all b1
  cases hm : mayD ⟨ts, -1, 0⟩
  · have e1 : newD ts = (⟨[], 0, 0⟩, false) := by rw [newD, hm]; rfl
    rw [hv] at e1
    cases e1
    subst hn'
    have Hm := Lib.hid hm
    clear hm hv hn ha hf b0 b1
    go_enter Try.func24, Try.ntmps24
    go_wp2_with (go_at_call 26; refine (rdmay_s ts (-1) 0 n HF.out Hn.out false Hm.out A k _ (Ha.out.keep H0.out)).mono ?_; rintro e w1 ⟨rfl, hs⟩; have H1 := Lib.hid (Stp.trans H0.out hs); have B0' := Lib.hid (B0.out.keep hs B0.out.lt); have B1' := Lib.hid (B1.out.keep hs B1.out.lt); clear hs q0 q1 q2; obtain ⟨⟨q0, q1, q2⟩, -, -, -⟩ := dd_all B1'.out; obtain ⟨⟨r0, r1, r2⟩, s0, s1, s2⟩ := dd_all B0'.out)
    have hf := filld_blk none 0 0 0 0 B0'.out
    have hst := filld_stp none 0 0 0 0 H1.out (g := w.heap.size) (Nat.le_refl _)
    change bodyPost _ _ _ _ _ (fillD w1 w.heap.size none 0 0 0 0)
    generalize fillD w1 w.heap.size none 0 0 0 0 = WW at hf hst ⊢
    clear r0 r1 r2 s0 s1 s2 q0 q1 q2
    obtain ⟨⟨q0, q1, q2⟩, -, -, -⟩ := dd_all hf
    refine bodyPost_ret (v := .tuple #[dc none 0 0 0 0, .bool false]) (by simp [results, Try.results24, go_sem, *]) rfl ⟨_, _, rfl, RdS.empty _ _ _, hst⟩
  · have e1 : newD ts = (⟨ts, -1, 0⟩, true) := by rw [newD, hm]; rfl
    rw [hv] at e1
    cases e1
    obtain rfl : n = n' := by rw [← Hn.out, ← hn']
    have Hm := Lib.hid hm
    clear hm hv hn' hn ha hf b0 b1
    go_enter Try.func24, Try.ntmps24
    go_wp2_with (go_at_call 26; refine (rdmay_s ts (-1) 0 n HF.out Hn.out true Hm.out A k _ (Ha.out.keep H0.out)).mono ?_; rintro e w1 ⟨rfl, hs⟩; have H1 := Lib.hid (Stp.trans H0.out hs); have B0' := Lib.hid (B0.out.keep hs B0.out.lt); have B1' := Lib.hid (B1.out.keep hs B1.out.lt); clear hs q0 q1 q2; obtain ⟨⟨q0, q1, q2⟩, -, -, -⟩ := dd_all B1'.out; obtain ⟨⟨r0, r1, r2⟩, s0, s1, s2⟩ := dd_all B0'.out)
    have hf := filld_blk A n k (-1) 0 B0'.out
    have hst := filld_stp A n k (-1) 0 H1.out (g := w.heap.size) (Nat.le_refl _)
    change bodyPost _ _ _ _ _ (fillD w1 w.heap.size A n k (-1) 0)
    generalize fillD w1 w.heap.size A n k (-1) 0 = WW at hf hst ⊢
    clear r0 r1 r2 s0 s1 s2 q0 q1 q2
    obtain ⟨⟨q0, q1, q2⟩, -, -, -⟩ := dd_all hf
    refine bodyPost_ret (v := .tuple #[dc A n k (-1) 0, .bool true]) (by simp [results, Try.results24, go_sem, *]) rfl ⟨_, _, rfl, (Ha.out.keep hst), hst⟩
set_option maxRecDepth 100000 in
set_option maxHeartbeats 2000000 in
theorem rdread_s (ts : List Tp) (i p : Int) (n : Nat) (hf : FewD ⟨ts, i, p⟩) (hn : ts.length = n) (ts' : List Tp) (i' p' : Int) (x : L) (n' y0 e0 : Nat) (hv : readD ⟨ts, i, p⟩ = (⟨ts', i', p'⟩, x, e0)) (hn' : ts'.length = n') (hx : x.length = y0) (ei : Int) (he : (e0 : Int) = ei) (A : Option Addr) (k : Nat) (w : World) (ha : RdS w A k ts) :
    Calls Try.prog 22 #[dc A n k i p] w fun e w' => ∃ A' k' B d, e = .returned (.tuple #[dc A' n' k' i' p', .slice B y0 d, .int .i64 ei]) ∧ RdS w' A' k' ts' ∧ RdA w' B d (bs x) ∧ Stp w w' := by
  have HF := Lib.hid hf
  have Hn := Lib.hid hn
  have Ha := Lib.hid ha
  obtain ⟨b0, b1, hst0⟩ := two_dblks w A n k i p
  obtain ⟨⟨q0, q1, q2⟩, -, -, -⟩ := dd_all b0
  have B0 := Lib.hid b0
  have B1 := Lib.hid b1
  have H0 := Lib.hid hst0
  clear hf b0 b1 hst0
  by_cases hw : whyD ⟨ts, i, p⟩ = 0
  · obtain ⟨hm, hi0⟩ := whyD_ok hw
    obtain ⟨j, pp, t, e1, e2, e3, e4, e5, e6, e7, e8, e9⟩ := mounted hm hi0
    dsimp only at e1 e2 e3 e7 e8
    have hft := Lib.hid (HF.out.each t (List.mem_of_getElem? e3))
    obtain ⟨y, hy⟩ : ∃ y, t.rows.length = y := ⟨_, rfl⟩
    have Hy := Lib.hid hy
    have hp0 := HF.out.plow
    have hp1 := HF.out.phigh
    dsimp only at hp0 hp1
    obtain ⟨⟨r, e1r⟩, hV⟩ : ∃ z, readV t p = z := ⟨_, rfl⟩
    rw [readD, if_neg (by simpa using hw), e4] at hv
    dsimp only at hv
    rw [hV] at hv
    have HV := Lib.hid hV
    obtain ⟨l, hl⟩ : ∃ l, r.length = l := ⟨_, rfl⟩
    have Hl := Lib.hid hl
    have Hw := Lib.hid hw
    have E3 := Lib.hid e3
    have hji : i.toNat = j := by rw [e1]; rfl
    have hin : i < (n : Int) := by rw [← hn]; omega
    obtain ⟨bb, oo, Aj0, kj0, rfl, -⟩ := Ha.out.at_ e3
    by_cases hr0 : e1r = 0
    · subst hr0
      rw [if_neg (by simp)] at hv
      cases hv
      obtain rfl : n = n' := by rw [← Hn.out, ← hn']
      obtain rfl : l = y0 := by rw [← hl, ← hx]
      subst he
      have hpb : p ≤ 1000000 := by omega
      have hI0 : 0 ≤ i := hi0
      clear hw hm e1 e2 e3 e4 e5 e6 e7 e8 e9 hn hn' ha hy hl hx hV hi0
      go_enter Try.func22, Try.ntmps22
      go_wp2_with (go_at_call 35; refine (rdwhy_s ts i p n HF.out Hn.out 0 Hw.out 0 rfl _ k _ (Ha.out.keep H0.out)).mono ?_; rintro e w1 ⟨rfl, hs⟩; have H1 := Lib.hid (Stp.trans H0.out hs); have B0' := Lib.hid (B0.out.keep hs B0.out.lt); have B1' := Lib.hid (B1.out.keep hs B1.out.lt); clear hs q0 q1 q2; obtain ⟨⟨q0, q1, q2⟩, -, -, -⟩ := dd_all B0'.out; obtain ⟨⟨r0, r1, r2⟩, s0, s1, s2⟩ := dd_all B1'.out)
      obtain ⟨b2, o2, Aj, kj, eA, c0, c1, c2, ra⟩ := (Ha.out.keep H1.out).at_ E3.out
      cases eA
      rw [Hy.out] at c1
      have hst1 : Stp w1 w1.drew := Stp.drewN (Stp.refl w1) 1
      have Ra := Lib.hid (ra.keep hst1)
      have HD := Lib.hid (Stp.trans H1.out hst1)
      have B0d := Lib.hid (Blk.drew B0'.out)
      have B1d := Lib.hid (Blk.drew B1'.out)
      obtain ⟨⟨q3, q4, q5⟩, -, -, -⟩ := dd_all B0d.out
      have d0 : w1.drew.cell? _ = _ := c0
      have d1 : w1.drew.cell? _ = _ := c1
      have d2 : w1.drew.cell? _ = _ := c2
      clear ra hst1
      go_region_law (go_simp; go_at_call 47; refine (rtread_s t.cap t.rows t.mark y hft.out Hy.out p hp0 hp1 r l 0 HV.out Hl.out 0 rfl Aj kj _ Ra.out).mono ?_; rintro e w2 ⟨Br, dr, rfl, hr, hs⟩; have HB := Lib.hid hr; have H2 := Lib.hid (Stp.trans HD.out hs); have B0'' := Lib.hid (B0d.out.keep hs B0d.out.lt); have B1'' := Lib.hid (B1d.out.keep hs B1d.out.lt); clear hr hs q0 q1 q2 r0 r1 r2 s0 s1 s2; obtain ⟨⟨q0, q1, q2⟩, -, -, -⟩ := dd_all B0''.out; obtain ⟨⟨r0, r1, r2⟩, s0, s1, s2⟩ := dd_all B1''.out)
      all_goals go_wp2_with fail
      all_goals
        have hf := filld_blk (some ⟨bb, oo, none⟩) n k i (p + 1) B1''.out
        have hrb := rda_pastd HB.out B1''.out (filld_grown w2 (w.heap.size + 1) (some ⟨bb, oo, none⟩) n k i (p + 1))
        have hst0 := filld_stp (some ⟨bb, oo, none⟩) n k i (p + 1) H2.out (g := w.heap.size + 1) (by omega)
        change bodyPost _ _ _ _ _ (fillD w2 (w.heap.size + 1) (some ⟨bb, oo, none⟩) n k i (p + 1))
        generalize fillD w2 (w.heap.size + 1) (some ⟨bb, oo, none⟩) n k i (p + 1) = WW at hf hst0 hrb ⊢
        clear q0 q1 q2 r0 r1 r2 s0 s1 s2
        have hst : Stp w WW := hst0
        obtain ⟨⟨q0, q1, q2⟩, -, -, -⟩ := dd_all hf
        refine bodyPost_ret (v := .tuple #[dc (some ⟨bb, oo, none⟩) n k i (p + 1), .slice Br l dr, .int .i64 0]) (by simp [results, Try.results22, go_sem, *]) rfl ⟨_, _, _, _, rfl, (Ha.out.keep hst), hrb, hst⟩
    · rw [if_pos (by simpa using hr0)] at hv
      cases hv
      obtain rfl : n = n' := by rw [← Hn.out, ← hn']
      subst hx
      obtain ⟨e1i, he1i⟩ : ∃ z : Int, (e1r : Int) = z := ⟨_, rfl⟩
      have He1 := Lib.hid he1i
      obtain rfl : e1i = ei := by rw [← he1i, he]
      have g9 : (e1i != 0) = true := by rw [bne_iff_ne]; omega
      have hI0 : 0 ≤ i := hi0
      clear hw hm e1 e2 e3 e4 e5 e6 e7 e8 e9 hn hn' ha hy hl hV hi0 he he1i hr0
      go_enter Try.func22, Try.ntmps22
      go_wp2_with (go_at_call 35; refine (rdwhy_s ts i p n HF.out Hn.out 0 Hw.out 0 rfl _ k _ (Ha.out.keep H0.out)).mono ?_; rintro e w1 ⟨rfl, hs⟩; have H1 := Lib.hid (Stp.trans H0.out hs); have B0' := Lib.hid (B0.out.keep hs B0.out.lt); have B1' := Lib.hid (B1.out.keep hs B1.out.lt); clear hs q0 q1 q2; obtain ⟨⟨q0, q1, q2⟩, -, -, -⟩ := dd_all B0'.out; obtain ⟨⟨r0, r1, r2⟩, s0, s1, s2⟩ := dd_all B1'.out)
      obtain ⟨b2, o2, Aj, kj, eA, c0, c1, c2, ra⟩ := (Ha.out.keep H1.out).at_ E3.out
      cases eA
      rw [Hy.out] at c1
      have hst1 : Stp w1 w1.drew := Stp.drewN (Stp.refl w1) 1
      have Ra := Lib.hid (ra.keep hst1)
      have HD := Lib.hid (Stp.trans H1.out hst1)
      have B0d := Lib.hid (Blk.drew B0'.out)
      have B1d := Lib.hid (Blk.drew B1'.out)
      obtain ⟨⟨q3, q4, q5⟩, -, -, -⟩ := dd_all B0d.out
      have d0 : w1.drew.cell? _ = _ := c0
      have d1 : w1.drew.cell? _ = _ := c1
      have d2 : w1.drew.cell? _ = _ := c2
      clear ra hst1
      go_region_law (go_simp; go_at_call 47; refine (rtread_s t.cap t.rows t.mark y hft.out Hy.out p hp0 hp1 r l e1r HV.out Hl.out e1i He1.out Aj kj _ Ra.out).mono ?_; rintro e w2 ⟨Br, dr, rfl, hr, hs⟩; have HB := Lib.hid hr; have H2 := Lib.hid (Stp.trans HD.out hs); have B0'' := Lib.hid (B0d.out.keep hs B0d.out.lt); have B1'' := Lib.hid (B1d.out.keep hs B1d.out.lt); clear hr hs q0 q1 q2 r0 r1 r2 s0 s1 s2; obtain ⟨⟨q0, q1, q2⟩, -, -, -⟩ := dd_all B0''.out; obtain ⟨⟨r0, r1, r2⟩, s0, s1, s2⟩ := dd_all B1''.out)
      all_goals go_wp2_with fail
      all_goals
        have hf := filld_blk (some ⟨bb, oo, none⟩) n k i p B1''.out
        have hst0 := filld_stp (some ⟨bb, oo, none⟩) n k i p H2.out (g := w.heap.size + 1) (by omega)
        change bodyPost _ _ _ _ _ (fillD w2 (w.heap.size + 1) (some ⟨bb, oo, none⟩) n k i p)
        generalize fillD w2 (w.heap.size + 1) (some ⟨bb, oo, none⟩) n k i p = WW at hf hst0 ⊢
        clear q0 q1 q2 r0 r1 r2 s0 s1 s2
        have hst : Stp w WW := hst0
        obtain ⟨⟨q0, q1, q2⟩, -, -, -⟩ := dd_all hf
        refine bodyPost_ret (v := .tuple #[dc (some ⟨bb, oo, none⟩) n k i p, .slice none 0 0, .int .i64 e1i]) (by simp [results, Try.results22, go_sem, *]) rfl ⟨_, _, _, _, rfl, (Ha.out.keep hst), RdA.nil _, hst⟩
  · rw [readD, if_pos hw] at hv
    cases hv
    obtain rfl : n = n' := by rw [← Hn.out, ← hn']
    subst hx
    obtain ⟨e1i, he1i⟩ : ∃ z : Int, (whyD ⟨ts, i, p⟩ : Int) = z := ⟨_, rfl⟩
    have He1 := Lib.hid he1i
    obtain rfl : e1i = ei := by rw [← he1i, he]
    have g9 : (e1i != 0) = true := by rw [bne_iff_ne]; omega
    clear hn hn' ha he he1i hw
    go_enter Try.func22, Try.ntmps22
    go_wp2_with (go_at_call 35; refine (rdwhy_s ts i p n HF.out Hn.out _ rfl e1i He1.out _ k _ (Ha.out.keep H0.out)).mono ?_; rintro e w1 ⟨rfl, hs⟩; have H1 := Lib.hid (Stp.trans H0.out hs); have B0' := Lib.hid (B0.out.keep hs B0.out.lt); have B1' := Lib.hid (B1.out.keep hs B1.out.lt); clear hs q0 q1 q2; obtain ⟨⟨q0, q1, q2⟩, -, -, -⟩ := dd_all B0'.out; obtain ⟨⟨r0, r1, r2⟩, s0, s1, s2⟩ := dd_all B1'.out)
    have hf := filld_blk A n k i p B1'.out
    have hst0 := filld_stp A n k i p H1.out (g := w.heap.size + 1) (by omega)
    change bodyPost _ _ _ _ _ (fillD w1 (w.heap.size + 1) A n k i p)
    generalize fillD w1 (w.heap.size + 1) A n k i p = WW at hf hst0 ⊢
    clear q0 q1 q2 r0 r1 r2 s0 s1 s2
    have hst : Stp w WW := hst0
    obtain ⟨⟨q0, q1, q2⟩, -, -, -⟩ := dd_all hf
    refine bodyPost_ret (v := .tuple #[dc A n k i p, .slice none 0 0, .int .i64 e1i]) (by simp [results, Try.results22, go_sem, *]) rfl ⟨_, _, _, _, rfl, (Ha.out.keep hst), RdA.nil _, hst⟩
end Go.Proofs.Ytaknnkcfoafkdaa.Drive
