/-
  The document's answers for drives: their contracts; no statement is proved here.
-/
import Derived.Test.YtaknnkcfoafkdaaDriveI
import Derived.Test.YtaknnkcfoafkdaaDriveRef5
import Derived.Test.YtaknnkcfoafkdaaTapeP
import Derived.BigQuiet
import Derived.Deep.RegionLaw
import Derived.Deep.Cut
namespace Go.Proofs.Ytaknnkcfoafkdaa.Drive
open Go.RowKit Go.Proofs.Ytaknnkcfoafkdaa.Str Go.Proofs.Ytaknnkcfoafkdaa.Base Go.Proofs.Ytaknnkcfoafkdaa.BlockM Go.Proofs.Ytaknnkcfoafkdaa.RecM Go.Proofs.Ytaknnkcfoafkdaa.TapeM Go.Proofs.Ytaknnkcfoafkdaa.Tape Go.Proofs.Ytaknnkcfoafkdaa.DriveM
set_option linter.unusedVariables false

set_option maxRecDepth 100000 in
set_option maxHeartbeats 2000000 in
theorem rdwrite_err (ts : List Tp) (i p : Int) (n : Nat) (hf : FewD ⟨ts, i, p⟩) (hn : ts.length = n) (r : L) (l : Nat) (hl : r.length = l) (hl2 : l ≤ 100000)
    (ts' : List Tp) (i' p' : Int) (n' e0 : Nat) (hw : whyD ⟨ts, i, p⟩ = 0) (hbad : (writeD ⟨ts, i, p⟩ r).2 ≠ 0) (hv : writeD ⟨ts, i, p⟩ r = (⟨ts', i', p'⟩, e0)) (hn' : ts'.length = n') (ei : Int) (he : (e0 : Int) = ei) (A : Option Addr) (k : Nat) (w : World) (ha : RdS w A k ts) (B : Option Addr) (dd : Nat) (hr : RdA w B dd (bs r)) :
    Calls Try.prog 18 #[dc A n k i p, .slice B l dd] w fun e w' => ∃ A' k', e = .returned (.tuple #[dc A' n' k' i' p', .int .i64 ei]) ∧ RdS w' A' k' ts' ∧ Stp w w' := by
  have HF := Lib.hid hf
  have Hn := Lib.hid hn
  have Ha := Lib.hid ha
  obtain ⟨b0, b1, hst0⟩ := two_dblks w A n k i p
  obtain ⟨⟨q0, q1, q2⟩, -, -, -⟩ := dd_all b0
  have B0 := Lib.hid b0
  have B1 := Lib.hid b1
  have H0 := Lib.hid hst0
  clear hf b0 b1 hst0
  have Hr := Lib.hid hr
  have Hl := Lib.hid hl
  have he3 := writeD_err hbad
  rw [hv] at he3 hbad
  dsimp only at he3 hbad
  cases he3
  obtain rfl : n = n' := by rw [← Hn.out, ← hn']
  obtain ⟨hm, hi0⟩ := whyD_ok hw
  obtain ⟨j, pp, t, e1, e2, e3, e4, e5, e6, e7, e8, e9⟩ := mounted hm hi0
  dsimp only at e1 e2 e3 e7 e8
  have hft := Lib.hid (HF.out.each t (List.mem_of_getElem? e3))
  obtain ⟨y, hy⟩ : ∃ y, t.rows.length = y := ⟨_, rfl⟩
  have Hy := Lib.hid hy
  have hp0 := HF.out.plow
  have hp1 := HF.out.phigh
  dsimp only at hp0 hp1
  have HCut : Hid (cutT ⟨t.cap, t.rows, t.mark⟩ p = (⟨t.cap, t.rows.take pp, false⟩, 0)) := Lib.hid (by
    rw [show (⟨t.cap, t.rows, t.mark⟩ : Tp) = t from rfl, cutT_yes e5 (by omega) (by omega), e2, Int.toNat_natCast])
  have Hpp : Hid ((t.rows.take pp).length = pp) := Lib.hid (by rw [List.length_take]; omega)
  have hfc := Lib.hid (hft.out.cut pp false)
  have Hw := Lib.hid hw
  have E3 := Lib.hid e3
  have hji : i.toNat = j := by rw [e1]; rfl
  have hin : i < (n : Int) := by rw [← hn]; omega
  have hI0 : 0 ≤ i := hi0
  have hn3 : n ≤ 1000 := by rw [← hn]; omega
  have hpb : p ≤ 1000000 := by omega
  have hjn : j < n := by rw [← hn]; exact e7
  obtain ⟨bb, oo, Aj0, kj0, rfl, -⟩ := Ha.out.at_ e3
  have hwr : writeV ⟨t.cap, t.rows.take pp, false⟩ r = (⟨t.cap, t.rows.take pp, false⟩, e0) := by
    rw [writeD, if_neg (by simpa using hw), e4] at hv
    have hc3 : (cutT t p) = (⟨t.cap, t.rows.take pp, false⟩, 0) := HCut.out
    dsimp only at hv
    rw [hc3] at hv
    dsimp only at hv
    split at hv
    · rename_i h3
      cases hv
      exact Prod.ext (writeV_no h3) rfl
    · exact absurd (congrArg Prod.snd hv).symm hbad
  have HWr := Lib.hid hwr
  obtain ⟨e1, he1⟩ : ∃ z, e0 = z := ⟨_, rfl⟩
  subst he1
  obtain ⟨e1i, he1i⟩ : ∃ z : Int, (e0 : Int) = z := ⟨_, rfl⟩
  have He1 := Lib.hid he1i
  obtain rfl : e1i = ei := by rw [← he1i, he]
  have g9 : (e1i != 0) = true := by rw [bne_iff_ne]; omega
  clear hw hm e1 e2 e3 e4 e5 e6 e7 e8 e9 hn hn' ha hy hi0 hv hr hl hwr he he1i hbad
  go_enter Try.func18, Try.ntmps18
  go_upto_region 4 with (go_at_call 35; refine (rdwhy_s ts i p n HF.out Hn.out 0 Hw.out 0 rfl _ k _ (Ha.out.keep H0.out)).mono ?_; rintro e w1 ⟨rfl, hs⟩; have H1 := Lib.hid (Stp.trans H0.out hs); have B0' := Lib.hid (B0.out.keep hs B0.out.lt); have B1' := Lib.hid (B1.out.keep hs B1.out.lt); clear hs q0 q1 q2; obtain ⟨⟨q0, q1, q2⟩, -, -, -⟩ := dd_all B0'.out; obtain ⟨⟨r0, r1, r2⟩, s0, s1, s2⟩ := dd_all B1'.out)
  obtain ⟨b2, o2, Aj, kj, eA, c0, c1, c2, ra⟩ := (Ha.out.keep H1.out).at_ E3.out
  cases eA
  rw [Hy.out] at c1
  have Ra := Lib.hid ra
  clear ra
  go_cut [7, 8] from 17 (fun s7 s8 wx => ∃ pb At kt, s7 = .pointer (some ⟨pb, 0, none⟩) ∧ s8 = .int .i64 0 ∧ Hid (Blk wx pb 41 (tcs t.cap At pp kt false)) ∧ Hid (RdL wx At kt (t.rows.take pp)) ∧ Hid (Stp w1 wx))
  case first =>
    have Xa := Lib.hid (show Stp w1 w1.drew from Stp.drewN (Stp.refl w1) 1)
    have Xb := Lib.hid (show Stp w1 (w1.alloc (.cells (tcs 0 none 0 0 false) 41)).drew from Stp.drewN (Stp.alloc (Stp.refl w1) _) 1)
    have Nb := Lib.hid (Blk.drew (Blk.new w1 41 (tcs 0 none 0 0 false)))
    have Cb := Lib.hid (Clear.new (g := w1.heap.size) Ra.out Xb.out (Nat.le_refl _))
    have hlb : bb < w1.heap.size := World.block_lt_of_cell? w1 _ c0
    obtain ⟨⟨q3, q4, q5⟩, -, -, -⟩ := dd_all (Blk.drew B0'.out)
    obtain ⟨⟨q6, q7, q8⟩, -, -, -⟩ := dd_all (B0'.out.alloc (.cells (tcs 0 none 0 0 false) 41))
    have d0 : w1.drew.cell? _ = _ := c0
    have d1 : w1.drew.cell? _ = _ := c1
    have d2 : w1.drew.cell? _ = _ := c2
    have f0 := ((Stp.alloc (Stp.refl w1) (.cells (tcs 0 none 0 0 false) 41)).cell (p := ⟨bb, oo + j * 3, none⟩) hlb).trans c0
    have f1 := ((Stp.alloc (Stp.refl w1) (.cells (tcs 0 none 0 0 false) 41)).cell (p := ⟨bb, oo + j * 3 + 1, none⟩) hlb).trans c1
    have f2 := ((Stp.alloc (Stp.refl w1) (.cells (tcs 0 none 0 0 false) 41)).cell (p := ⟨bb, oo + j * 3 + 2, none⟩) hlb).trans c2
    go_region_law (first
      | (go_simp; go_at_call 40; (with_reducible refine (rtcut_s t.cap t.rows t.mark y hft.out Hy.out p hp0 hp1 t.cap (t.rows.take pp) false pp 0 HCut.out Hpp.out 0 rfl Aj kj w1.drew (Ra.out.keep Xa.out)).mono ?_); rintro e w9 ⟨A9, k9, rfl, hr, hs, -⟩; have L := Lib.hid (alloc_at (c3 := t.cap) (n3 := pp) (m3 := false) (Stp.trans Xa.out hs) hr); clear hr hs)
      | (go_simp; go_at_call 40; (with_reducible refine (rtcut_s t.cap t.rows t.mark y hft.out Hy.out p hp0 hp1 t.cap (t.rows.take pp) false pp 0 HCut.out Hpp.out 0 rfl Aj kj (w1.alloc (.cells (tcs 0 none 0 0 false) 41)).drew (Ra.out.keep Xb.out)).mono ?_); rintro e w9 ⟨A9, k9, rfl, hr, hs, hc⟩; have L := Lib.hid (fill_at (c3 := t.cap) (n3 := pp) (m3 := false) (Stp.trans Xb.out hs) (Nat.le_refl _) (Nb.out.keep hs Nb.out.lt) (hc _ Nb.out.lt Cb.out)); have NB := Lib.hid (Nb.out.keep hs Nb.out.lt); clear hr hs hc; obtain ⟨⟨n0, n1, n2⟩, m0, m1, m2⟩ := tt_all NB.out))
    all_goals
      go_wp2_with fail
      go_meet
      with_reducible exact ⟨_, A9, k9, rfl, rfl, Lib.hid L.out.1, Lib.hid L.out.2.1, Lib.hid L.out.2.2⟩
  case rest =>
    obtain ⟨pb, At, kt, rfl, rfl, HT1, HT2, HT3⟩ := hcut
    obtain ⟨W2, hW2⟩ : ∃ z, z = wc := ⟨_, rfl⟩
    subst hW2
    replace H1 := Lib.hid (Stp.trans H1.out HT3.out)
    replace B0' := Lib.hid (B0'.out.keep HT3.out B0'.out.lt)
    replace B1' := Lib.hid (B1'.out.keep HT3.out B1'.out.lt)
    clear q0 q1 q2 r0 r1 r2 s0 s1 s2 c0 c1 c2
    obtain ⟨⟨q0, q1, q2⟩, -, -, -⟩ := dd_all B0'.out
    obtain ⟨⟨r0, r1, r2⟩, s0, s1, s2⟩ := dd_all B1'.out
    obtain ⟨⟨t0, t1, t2⟩, -, -, -⟩ := tt_all HT1.out
    go_wp2_with (go_at_call 41; refine (rtwrite_s t.cap (t.rows.take pp) false pp hfc.out Hpp.out r l Hl.out hl2 t.cap (t.rows.take pp) false pp e0 HWr.out Hpp.out e1i He1.out At kt _ HT2.out B dd (Hr.out.keep H1.out)).mono ?_; rintro e w4 ⟨A4, k4, rfl, hr, hs⟩; have hsA := Stp.alloc hs (.cells (tcs t.cap A4 pp k4 false) 41); have HU := Lib.hid (Blk.new w4 41 (tcs t.cap A4 pp k4 false)); have HRU := Lib.hid (hr.keep (Stp.alloc (Stp.refl w4) (.cells (tcs t.cap A4 pp k4 false) 41))); replace H1 := Lib.hid (Stp.trans H1.out hsA); replace B0' := Lib.hid (B0'.out.keep hsA B0'.out.lt); replace B1' := Lib.hid (B1'.out.keep hsA B1'.out.lt); clear hr hs hsA q0 q1 q2 r0 r1 r2 s0 s1 s2 t0 t1 t2; obtain ⟨⟨q0, q1, q2⟩, -, -, -⟩ := dd_all B0'.out; obtain ⟨⟨r0, r1, r2⟩, s0, s1, s2⟩ := dd_all B1'.out; obtain ⟨⟨t0, t1, t2⟩, -, -, -⟩ := tt_all HU.out)
    have hf := filld_blk (some ⟨bb, oo, none⟩) n k i p B1'.out
    have hst0 := filld_stp (some ⟨bb, oo, none⟩) n k i p H1.out (g := w.heap.size + 1) (by omega)
    change bodyPost _ _ _ _ _ (fillD (w4.alloc (.cells (tcs t.cap A4 pp k4 false) 41)) (w.heap.size + 1) (some ⟨bb, oo, none⟩) n k i p)
    generalize fillD (w4.alloc (.cells (tcs t.cap A4 pp k4 false) 41)) (w.heap.size + 1) (some ⟨bb, oo, none⟩) n k i p = WW at hf hst0 ⊢
    clear q0 q1 q2 r0 r1 r2 s0 s1 s2
    have hst : Stp w WW := hst0
    obtain ⟨⟨q0, q1, q2⟩, -, -, -⟩ := dd_all hf
    refine bodyPost_ret (v := .tuple #[dc (some ⟨bb, oo, none⟩) n k i p, .int .i64 e1i]) (by simp [results, Try.results18, go_sem, *]) rfl ⟨_, _, rfl, (Ha.out.keep hst), hst⟩
set_option maxRecDepth 100000 in
set_option maxHeartbeats 2000000 in
theorem rdwrite_ok (ts : List Tp) (i p : Int) (n : Nat) (hf : FewD ⟨ts, i, p⟩) (hn : ts.length = n) (r : L) (l : Nat) (hl : r.length = l) (hl2 : l ≤ 100000)
    (ts' : List Tp) (i' p' : Int) (n' e0 : Nat) (hgood : (writeD ⟨ts, i, p⟩ r).2 = 0) (hv : writeD ⟨ts, i, p⟩ r = (⟨ts', i', p'⟩, e0)) (hn' : ts'.length = n') (ei : Int) (he : (e0 : Int) = ei) (A : Option Addr) (k : Nat) (w : World) (ha : RdS w A k ts) (B : Option Addr) (dd : Nat) (hr : RdA w B dd (bs r)) :
    Calls Try.prog 18 #[dc A n k i p, .slice B l dd] w fun e w' => ∃ A' k', e = .returned (.tuple #[dc A' n' k' i' p', .int .i64 ei]) ∧ RdS w' A' k' ts' ∧ Stp w w' := by
  have HF := Lib.hid hf
  have Hn := Lib.hid hn
  have Ha := Lib.hid ha
  obtain ⟨b0, b1, hst0⟩ := two_dblks w A n k i p
  obtain ⟨⟨q0, q1, q2⟩, -, -, -⟩ := dd_all b0
  have B0 := Lib.hid b0
  have B1 := Lib.hid b1
  have H0 := Lib.hid hst0
  clear hf b0 b1 hst0
  have Hr := Lib.hid hr
  have Hl := Lib.hid hl
  have hw : whyD ⟨ts, i, p⟩ = 0 := by
    unfold writeD at hgood
    split at hgood
    · exact hgood
    · rename_i h1
      simpa using h1
  obtain ⟨jx, px, tx, y1, y2, y3, y4, y5, y6, y7, y8, y9, y10, y11⟩ := writeD_ok hgood
  obtain ⟨hm, hi0⟩ := whyD_ok hw
  obtain ⟨j, pp, t, e1, e2, e3, e4, e5, e6, e7, e8, e9⟩ := mounted hm hi0
  dsimp only at e1 e2 e3 e7 e8
  have hft := Lib.hid (HF.out.each t (List.mem_of_getElem? e3))
  obtain ⟨y, hy⟩ : ∃ y, t.rows.length = y := ⟨_, rfl⟩
  have Hy := Lib.hid hy
  have hp0 := HF.out.plow
  have hp1 := HF.out.phigh
  dsimp only at hp0 hp1
  have HCut : Hid (cutT ⟨t.cap, t.rows, t.mark⟩ p = (⟨t.cap, t.rows.take pp, false⟩, 0)) := Lib.hid (by
    rw [show (⟨t.cap, t.rows, t.mark⟩ : Tp) = t from rfl, cutT_yes e5 (by omega) (by omega), e2, Int.toNat_natCast])
  have Hpp : Hid ((t.rows.take pp).length = pp) := Lib.hid (by rw [List.length_take]; omega)
  have hfc := Lib.hid (hft.out.cut pp false)
  have Hw := Lib.hid hw
  have E3 := Lib.hid e3
  have hji : i.toNat = j := by rw [e1]; rfl
  have hin : i < (n : Int) := by rw [← hn]; omega
  have hI0 : 0 ≤ i := hi0
  have hn3 : n ≤ 1000 := by rw [← hn]; omega
  have hpb : p ≤ 1000000 := by omega
  have hjn : j < n := by rw [← hn]; exact e7
  obtain ⟨bb, oo, Aj0, kj0, rfl, -⟩ := Ha.out.at_ e3
  dsimp only at y2 y3 y4
  obtain rfl : jx = j := by omega
  obtain rfl : px = pp := by omega
  obtain rfl : tx = t := by rw [e3] at y4; cases y4; rfl
  have HMay : Hid (∀ x ∈ ts.set jx ⟨tx.cap, tx.rows.take px ++ [r], false⟩, mayT x = true) := Lib.hid (fun x hx => by
    rw [y10] at y11
    exact (mayD_iff.1 y11).2.2.2.2.1 x hx)
  rw [hv] at y10
  rw [← y2, ← y3] at y10
  cases y10
  obtain rfl : n = n' := by rw [← Hn.out, ← hn', List.length_set]
  have Hij := Lib.hid e1
  obtain ⟨p1, hp1'⟩ : ∃ z, px + 1 = z := ⟨_, rfl⟩
  have Hp1 : Hid ((tx.rows.take px ++ [r]).length = p1) := Lib.hid (by rw [List.length_append, Hpp.out]; exact hp1')
  have HWr := Lib.hid (writeV_yes (mayT_take e5 px false) y8 rfl (by dsimp only; rw [Hpp.out]; exact y9))
  subst he
  clear hw hm e1 e2 e3 e4 e5 e6 e7 e8 e9 hn hn' ha hy hi0 hv hr hl y1 y2 y3 y4 y5 y6 y7 y8 y9 y11 hp1' hgood
  go_enter Try.func18, Try.ntmps18
  go_upto_region 4 with (go_at_call 35; refine (rdwhy_s ts i p n HF.out Hn.out 0 Hw.out 0 rfl _ k _ (Ha.out.keep H0.out)).mono ?_; rintro e w1 ⟨rfl, hs⟩; have H1 := Lib.hid (Stp.trans H0.out hs); have B0' := Lib.hid (B0.out.keep hs B0.out.lt); have B1' := Lib.hid (B1.out.keep hs B1.out.lt); clear hs q0 q1 q2; obtain ⟨⟨q0, q1, q2⟩, -, -, -⟩ := dd_all B0'.out; obtain ⟨⟨r0, r1, r2⟩, s0, s1, s2⟩ := dd_all B1'.out)
  obtain ⟨b2, o2, Aj, kj, eA, c0, c1, c2, ra⟩ := (Ha.out.keep H1.out).at_ E3.out
  cases eA
  rw [Hy.out] at c1
  have Ra := Lib.hid ra
  clear ra
  go_cut [7, 8] from 17 (fun s7 s8 wx => ∃ pb At kt, s7 = .pointer (some ⟨pb, 0, none⟩) ∧ s8 = .int .i64 0 ∧ Hid (Blk wx pb 41 (tcs tx.cap At px kt false)) ∧ Hid (RdL wx At kt (tx.rows.take px)) ∧ Hid (Stp w1 wx))
  case first =>
    have Xa := Lib.hid (show Stp w1 w1.drew from Stp.drewN (Stp.refl w1) 1)
    have Xb := Lib.hid (show Stp w1 (w1.alloc (.cells (tcs 0 none 0 0 false) 41)).drew from Stp.drewN (Stp.alloc (Stp.refl w1) _) 1)
    have Nb := Lib.hid (Blk.drew (Blk.new w1 41 (tcs 0 none 0 0 false)))
    have Cb := Lib.hid (Clear.new (g := w1.heap.size) Ra.out Xb.out (Nat.le_refl _))
    have hlb : bb < w1.heap.size := World.block_lt_of_cell? w1 _ c0
    obtain ⟨⟨q3, q4, q5⟩, -, -, -⟩ := dd_all (Blk.drew B0'.out)
    obtain ⟨⟨q6, q7, q8⟩, -, -, -⟩ := dd_all (B0'.out.alloc (.cells (tcs 0 none 0 0 false) 41))
    have d0 : w1.drew.cell? _ = _ := c0
    have d1 : w1.drew.cell? _ = _ := c1
    have d2 : w1.drew.cell? _ = _ := c2
    have f0 := ((Stp.alloc (Stp.refl w1) (.cells (tcs 0 none 0 0 false) 41)).cell (p := ⟨bb, oo + jx * 3, none⟩) hlb).trans c0
    have f1 := ((Stp.alloc (Stp.refl w1) (.cells (tcs 0 none 0 0 false) 41)).cell (p := ⟨bb, oo + jx * 3 + 1, none⟩) hlb).trans c1
    have f2 := ((Stp.alloc (Stp.refl w1) (.cells (tcs 0 none 0 0 false) 41)).cell (p := ⟨bb, oo + jx * 3 + 2, none⟩) hlb).trans c2
    go_region_law (first
      | (go_simp; go_at_call 40; (with_reducible refine (rtcut_s tx.cap tx.rows tx.mark y hft.out Hy.out p hp0 hp1 tx.cap (tx.rows.take px) false px 0 HCut.out Hpp.out 0 rfl Aj kj w1.drew (Ra.out.keep Xa.out)).mono ?_); rintro e w9 ⟨A9, k9, rfl, hr, hs, -⟩; have L := Lib.hid (alloc_at (c3 := tx.cap) (n3 := px) (m3 := false) (Stp.trans Xa.out hs) hr); clear hr hs)
      | (go_simp; go_at_call 40; (with_reducible refine (rtcut_s tx.cap tx.rows tx.mark y hft.out Hy.out p hp0 hp1 tx.cap (tx.rows.take px) false px 0 HCut.out Hpp.out 0 rfl Aj kj (w1.alloc (.cells (tcs 0 none 0 0 false) 41)).drew (Ra.out.keep Xb.out)).mono ?_); rintro e w9 ⟨A9, k9, rfl, hr, hs, hc⟩; have L := Lib.hid (fill_at (c3 := tx.cap) (n3 := px) (m3 := false) (Stp.trans Xb.out hs) (Nat.le_refl _) (Nb.out.keep hs Nb.out.lt) (hc _ Nb.out.lt Cb.out)); have NB := Lib.hid (Nb.out.keep hs Nb.out.lt); clear hr hs hc; obtain ⟨⟨n0, n1, n2⟩, m0, m1, m2⟩ := tt_all NB.out))
    all_goals
      go_wp2_with fail
      go_meet
      with_reducible exact ⟨_, A9, k9, rfl, rfl, Lib.hid L.out.1, Lib.hid L.out.2.1, Lib.hid L.out.2.2⟩
  case rest =>
    obtain ⟨pb, At, kt, rfl, rfl, HT1, HT2, HT3⟩ := hcut
    obtain ⟨W2, hW2⟩ : ∃ z, z = wc := ⟨_, rfl⟩
    subst hW2
    replace H1 := Lib.hid (Stp.trans H1.out HT3.out)
    replace B0' := Lib.hid (B0'.out.keep HT3.out B0'.out.lt)
    replace B1' := Lib.hid (B1'.out.keep HT3.out B1'.out.lt)
    clear q0 q1 q2 r0 r1 r2 s0 s1 s2 c0 c1 c2
    obtain ⟨⟨q0, q1, q2⟩, -, -, -⟩ := dd_all B0'.out
    obtain ⟨⟨r0, r1, r2⟩, s0, s1, s2⟩ := dd_all B1'.out
    obtain ⟨⟨t0, t1, t2⟩, -, -, -⟩ := tt_all HT1.out
    go_wp2_with (first
      | (go_at_call 41; refine (rtwrite_s tx.cap (tx.rows.take px) false px hfc.out Hpp.out r l Hl.out hl2 tx.cap (tx.rows.take px ++ [r]) false p1 0 HWr.out Hp1.out 0 rfl At kt _ HT2.out B dd (Hr.out.keep H1.out)).mono ?_; rintro e w4 ⟨A4, k4, rfl, hr, hs⟩; have hsA := Stp.alloc hs (.cells (tcs tx.cap A4 p1 k4 false) 41); have HU := Lib.hid (Blk.new w4 41 (tcs tx.cap A4 p1 k4 false)); have HRU := Lib.hid (hr.keep (Stp.alloc (Stp.refl w4) (.cells (tcs tx.cap A4 p1 k4 false) 41))); replace H1 := Lib.hid (Stp.trans H1.out hsA); replace B0' := Lib.hid (B0'.out.keep hsA B0'.out.lt); replace B1' := Lib.hid (B1'.out.keep hsA B1'.out.lt); clear hr hs hsA q0 q1 q2 r0 r1 r2 s0 s1 s2 t0 t1 t2; obtain ⟨⟨q0, q1, q2⟩, -, -, -⟩ := dd_all B0'.out; obtain ⟨⟨r0, r1, r2⟩, s0, s1, s2⟩ := dd_all B1'.out; obtain ⟨⟨t0, t1, t2⟩, -, -, -⟩ := tt_all HU.out)
      | (go_at_call 42; refine (rdwith_s ts i p n jx Hn.out hn3 Hij.out hjn tx.cap (tx.rows.take px ++ [r]) false p1 Hp1.out (p + 1) _ A4 k k4 _ (Ha.out.keep H1.out) HRU.out).mono ?_; rintro e w5 ⟨A5, k5, rfl, hr, hs⟩; have HR5 := Lib.hid hr; replace H1 := Lib.hid (Stp.trans H1.out hs); replace B0' := Lib.hid (B0'.out.keep hs B0'.out.lt); replace B1' := Lib.hid (B1'.out.keep hs B1'.out.lt); clear hr hs q0 q1 q2 r0 r1 r2 s0 s1 s2 t0 t1 t2; obtain ⟨⟨q0, q1, q2⟩, -, -, -⟩ := dd_all B0'.out; obtain ⟨⟨r0, r1, r2⟩, s0, s1, s2⟩ := dd_all B1'.out))
    have hf := filld_blk A5 n k5 i (p + 1) B1'.out
    have hrd := clearS_may HR5.out HMay.out B1'.out (filld_grown w5 (w.heap.size + 1) A5 n k5 i (p + 1))
    have hst0 := filld_stp A5 n k5 i (p + 1) H1.out (g := w.heap.size + 1) (by omega)
    change bodyPost _ _ _ _ _ (fillD w5 (w.heap.size + 1) A5 n k5 i (p + 1))
    generalize fillD w5 (w.heap.size + 1) A5 n k5 i (p + 1) = WW at hf hst0 hrd ⊢
    clear q0 q1 q2 r0 r1 r2 s0 s1 s2
    have hst : Stp w WW := hst0
    obtain ⟨⟨q0, q1, q2⟩, -, -, -⟩ := dd_all hf
    refine bodyPost_ret (v := .tuple #[dc A5 n k5 i (p + 1), .int .i64 0]) (by simp [results, Try.results18, go_sem, *]) rfl ⟨_, _, rfl, hrd, hst⟩
set_option maxRecDepth 100000 in
set_option maxHeartbeats 2000000 in
theorem rdwrite_s (ts : List Tp) (i p : Int) (n : Nat) (hf : FewD ⟨ts, i, p⟩) (hn : ts.length = n) (r : L) (l : Nat) (hl : r.length = l) (hl2 : l ≤ 100000)
    (ts' : List Tp) (i' p' : Int) (n' e0 : Nat) (hv : writeD ⟨ts, i, p⟩ r = (⟨ts', i', p'⟩, e0)) (hn' : ts'.length = n') (ei : Int) (he : (e0 : Int) = ei) (A : Option Addr) (k : Nat) (w : World) (ha : RdS w A k ts) (B : Option Addr) (dd : Nat) (hr : RdA w B dd (bs r)) :
    Calls Try.prog 18 #[dc A n k i p, .slice B l dd] w fun e w' => ∃ A' k', e = .returned (.tuple #[dc A' n' k' i' p', .int .i64 ei]) ∧ RdS w' A' k' ts' ∧ Stp w w' := by
  by_cases hw : whyD ⟨ts, i, p⟩ = 0
  · by_cases hg : (writeD ⟨ts, i, p⟩ r).2 = 0
    · exact rdwrite_ok ts i p n hf hn r l hl hl2 ts' i' p' n' e0 hg hv hn' ei he A k w ha B dd hr
    · exact rdwrite_err ts i p n hf hn r l hl hl2 ts' i' p' n' e0 hw hg hv hn' ei he A k w ha B dd hr
  · have HF := Lib.hid hf
    have Hn := Lib.hid hn
    have Ha := Lib.hid ha
    obtain ⟨b0, b1, hst0⟩ := two_dblks w A n k i p
    obtain ⟨⟨q0, q1, q2⟩, -, -, -⟩ := dd_all b0
    have B0 := Lib.hid b0
    have B1 := Lib.hid b1
    have H0 := Lib.hid hst0
    rw [writeD, if_pos hw] at hv
    cases hv
    obtain rfl : n = n' := by rw [← Hn.out, ← hn']
    obtain ⟨e1i, he1i⟩ : ∃ z : Int, (whyD ⟨ts, i, p⟩ : Int) = z := ⟨_, rfl⟩
    have He1 := Lib.hid he1i
    obtain rfl : e1i = ei := by rw [← he1i, he]
    have g9 : (e1i != 0) = true := by rw [bne_iff_ne]; omega
    clear hf b0 b1 hst0 hn hn' ha he he1i hw hr hl
    go_enter Try.func18, Try.ntmps18
    go_wp2_with (go_at_call 35; refine (rdwhy_s ts i p n HF.out Hn.out _ rfl e1i He1.out _ k _ (Ha.out.keep H0.out)).mono ?_; rintro e w1 ⟨rfl, hs⟩; have H1 := Lib.hid (Stp.trans H0.out hs); have B0' := Lib.hid (B0.out.keep hs B0.out.lt); have B1' := Lib.hid (B1.out.keep hs B1.out.lt); clear hs q0 q1 q2; obtain ⟨⟨q0, q1, q2⟩, -, -, -⟩ := dd_all B0'.out; obtain ⟨⟨r0, r1, r2⟩, s0, s1, s2⟩ := dd_all B1'.out)
    have hf := filld_blk A n k i p B1'.out
    have hst0 := filld_stp A n k i p H1.out (g := w.heap.size + 1) (by omega)
    change bodyPost _ _ _ _ _ (fillD w1 (w.heap.size + 1) A n k i p)
    generalize fillD w1 (w.heap.size + 1) A n k i p = WW at hf hst0 ⊢
    clear q0 q1 q2 r0 r1 r2 s0 s1 s2
    have hst : Stp w WW := hst0
    obtain ⟨⟨q0, q1, q2⟩, -, -, -⟩ := dd_all hf
    refine bodyPost_ret (v := .tuple #[dc A n k i p, .int .i64 e1i]) (by simp [results, Try.results18, go_sem, *]) rfl ⟨_, _, rfl, (Ha.out.keep hst), hst⟩
end Go.Proofs.Ytaknnkcfoafkdaa.Drive
