/-
  Package drive: the drive behind what is done to its tape (change, with a tape mounted): its contract; no statement is proved here.
-/
import Derived.Test.YtaknnkcfoafkdaaDriveV
namespace Go.Proofs.Ytaknnkcfoafkdaa.Drive
open Go.RowKit Go.Proofs.Ytaknnkcfoafkdaa.Str Go.Proofs.Ytaknnkcfoafkdaa.Base Go.Proofs.Ytaknnkcfoafkdaa.BlockM Go.Proofs.Ytaknnkcfoafkdaa.RecM Go.Proofs.Ytaknnkcfoafkdaa.TapeM Go.Proofs.Ytaknnkcfoafkdaa.Tape Go.Proofs.Ytaknnkcfoafkdaa.DriveM
set_option linter.unusedVariables false

set_option maxRecDepth 100000 in
set_option maxHeartbeats 2000000 in
theorem change_yes (fd : Nat) (cap : Array Value) (hent : ∀ (args : Array Value) (w : World), (callFunc fd args).run Try.prog w = .ok (.enter fd args) w) (ts : List Tp) (i p : Int) (n j pp : Nat) (t : Tp) (hm : mayD ⟨ts, i, p⟩ = true) (hn : ts.length = n) (hij : i = (j : Int)) (hpp : p = (pp : Int)) (ht : ts[j]? = some t)
    (c' : Int) (ls' : List L) (m' : Bool) (n' : Nat) (p' ei : Int) (hn' : ls'.length = n') (q : Option Nat) (Post : World → World → Prop) (Post' : World → Prop) (A : Option Addr) (k : Nat) (w : World) (ha : RdS w A k ts) (hq : ∀ x, q = some x → x < w.heap.size)
    (hdo : ∀ (wx : World) (g : Nat) (S : Nat → Prop) (A1 : Option Addr) (k1 : Nat), Stp w wx → w.heap.size ≤ g → ¬ S g → (∀ b, wx.heap.size ≤ b → S b) → (∀ b, S b → w.heap.size ≤ b) → Blk wx g 77 (mcs t.cap A1 t.rows.length k1 t.mark p) → InS S wx A1 k1 t.rows →
      Calls Try.prog fd (#[.pointer (some ⟨g, 0, none⟩)] ++ cap) wx fun e w3 => e = .returned (.int .i64 ei) ∧ Done S g q wx c' ls' m' n' p' w3 ∧ Post wx w3)
    (hpost : ∀ wx w3 X, Stp w wx → Post wx w3 → Abv (fun x => x < w.heap.size ∨ wx.heap.size ≤ x) w3 X → Post' X) :
    Calls Try.prog 36 #[dc A n k i p, .func (.func fd) #[] cap] w fun e w' => ∃ A' k', e = .returned (.tuple #[dc A' n k' i p', .int .i64 ei]) ∧ Osh w.heap.size w' A' k' (ts.set j ⟨c', ls', m'⟩) ∧ w.grownBy w' q ∧ Post' w' := by
  have hf := few_may hm
  have hfew := hf.few
  dsimp only at hfew
  rw [hn] at hfew
  have HF := Lib.hid hf
  have HE : Hid (∀ t ∈ ts, FewT t) := Lib.hid hf.each
  have hjn : j < n := by rw [← hn]; exact (List.getElem?_eq_some_iff.1 ht).1
  have Hn := Lib.hid hn
  have Ha := Lib.hid ha
  have Hm := Lib.hid hm
  have Ht := Lib.hid ht
  have Hn' := Lib.hid hn'
  have Hq := Lib.hid hq
  have HD := Lib.hid hdo
  have HP := Lib.hid hpost
  obtain ⟨b0, b1, hst0⟩ := two_dblks w A n k i p
  have hsz : w.heap.size + 2 = ((w.alloc (.cells (dcs A n k i p) 24)).alloc (.cells (dcs none 0 0 0 0) 24)).heap.size := by rw [World.size_alloc, World.size_alloc]
  have SZ := Lib.hid hsz
  obtain ⟨⟨q0, q1, q2⟩, -, -, -⟩ := dd_all b0
  have B0 := Lib.hid b0
  have B1 := Lib.hid b1
  have H0 := Lib.hid hst0
  have g9 : (i == -1) = false := by rw [beq_eq_false_iff_ne]; omega
  have hji : i.toNat = j := by rw [hij]; rfl
  have hi0 : 0 ≤ i := by omega
  have hin : i < (n : Int) := by omega
  have Hij := Lib.hid hij
  have Hpp := Lib.hid hpp
  clear hf hm hn ht hn' hq hdo hpost ha b0 b1 hst0 hsz hij hpp
  go_enter Try.func36, Try.ntmps36
  go_upto_region 6 with (first
    | (go_at_call 33; refine (down_s ts i p n Hn.out hfew HE.out A k _ (Ha.out.keep H0.out)).mono ?_; rintro e w1 ⟨A1, k1, rfl, ho, hs⟩; have hal := Stp.trans hs (Stp.alloc (Stp.refl w1) (.cells (dcs A1 n k1 i p) 24)); have HO := Lib.hid ho; have BN := Lib.hid (Blk.new w1 24 (dcs A1 n k1 i p)); have Hal := Lib.hid (Stp.alloc (Stp.refl w1) (.cells (dcs A1 n k1 i p) 24)); have H1 := Lib.hid (Stp.trans H0.out hal); have Hw1 := Lib.hid (Nat.le_trans (Nat.le_of_eq SZ.out) hs.size); have B0' := Lib.hid (B0.out.keep hal B0.out.lt); have B1' := Lib.hid (B1.out.keep hal B1.out.lt); clear ho hs hal q0 q1 q2; obtain ⟨⟨q0, q1, q2⟩, -, -, -⟩ := dd_all B0'.out)
    | (go_at_call 27; refine (dmay_s ts i p n HF.out Hn.out true Hm.out A k _ (Ha.out.keep H1.out)).mono ?_; rintro e w2 ⟨rfl, hs⟩; have Hal2 := Lib.hid (Stp.trans Hal.out hs); have BN2 := Lib.hid (BN.out.keep hs BN.out.lt); have H2 := Lib.hid (Stp.trans H1.out hs); have B02 := Lib.hid (B0'.out.keep hs B0'.out.lt); have B12 := Lib.hid (B1'.out.keep hs B1'.out.lt); clear hs q0 q1 q2; obtain ⟨⟨q0, q1, q2⟩, -, -, -⟩ := dd_all B02.out; obtain ⟨⟨q3, q4, q5⟩, -, -, -⟩ := dd_all BN2.out; obtain ⟨⟨r0, r1, r2⟩, s0, s1, s2⟩ := dd_all B12.out))
  rcases HO.out with e0 | ⟨b, cur, S1, rfl, hb, hS1, hSh⟩
  · exfalso
    have h := Ht.out
    rw [e0] at h
    simp at h
  obtain ⟨S2, hSh1, hS2⟩ : ∃ S2 : Nat → Prop, Sh S2 w1 b k1 cur ts ∧ ∀ x, S2 x → w.heap.size + 2 ≤ x ∧ x < w1.heap.size :=
    ⟨fun x => S1 x ∧ x < w1.heap.size, hSh.less (fun x hx hs => ⟨hs, hx⟩) (fun h => hSh.out h.1), fun x hx => ⟨by have := hS1 x hx.1; have := SZ.out; omega, hx.2⟩⟩
  have hb2 : w.heap.size + 2 ≤ b ∧ b < w1.heap.size := ⟨by have := SZ.out; omega, hSh.blk.lt⟩
  have hShy := hSh1.keep Hal2.out
  have HSh := Lib.hid hShy
  have HS2 := Lib.hid hS2
  have Hb2 := Lib.hid hb2
  obtain ⟨Aj, kj, c0, c1, c2, hr⟩ := hShy.each j t Ht.out
  obtain ⟨y, hy⟩ : ∃ y, t.rows.length = y := ⟨_, rfl⟩
  rw [hy] at c1
  have Hy := Lib.hid hy
  have Hr := Lib.hid hr
  have d0 : w2.cell? ⟨b, j * 3, none⟩ = _ := (hShy.blk.cell _).trans c0
  have d1 : w2.cell? ⟨b, j * 3 + 1, none⟩ = _ := (hShy.blk.cell _).trans c1
  have d2 : w2.cell? ⟨b, j * 3 + 2, none⟩ = _ := (hShy.blk.cell _).trans c2
  clear hb hS1 hSh hSh1 hShy hS2 hb2 c0 c1 c2 hy hr HO
  go_cut [7] from 21 (fun s7 wx => ∃ g, s7 = .pointer (some ⟨g, 0, none⟩) ∧ w2.heap.size ≤ g ∧ Hid (Blk wx g 77 (mcs t.cap Aj y kj t.mark p)) ∧ Hid (Stp w2 wx))
  case first =>
    have hbl : b < w2.heap.size := World.block_lt_of_cell? w2 _ d0
    have Xs := Lib.hid (show Stp w2 (w2.alloc (.cells #[.int .i64 0, .slice none 0 0, .bool false, .int .i64 0] 77)) from Stp.alloc (Stp.refl w2) _)
    have Xm := Lib.hid (Blk.new w2 77 (mcs 0 none 0 0 false 0))
    have a0 : w2.drew.cell? _ = _ := d0
    have a1 : w2.drew.cell? _ = _ := d1
    have a2 : w2.drew.cell? _ = _ := d2
    have a3 : w2.drew.cell? _ = _ := q3
    have a4 : w2.drew.cell? _ = _ := q4
    have a5 : w2.drew.cell? _ = _ := q5
    obtain ⟨⟨a6, a7, a8⟩, -, -, -⟩ := dd_all (BN2.out.alloc (.cells #[.int .i64 0, .slice none 0 0, .bool false, .int .i64 0] 77))
    have f0 := (Xs.out.cell (p := ⟨b, j * 3, none⟩) hbl).trans d0
    have f1 := (Xs.out.cell (p := ⟨b, j * 3 + 1, none⟩) hbl).trans d1
    have f2 := (Xs.out.cell (p := ⟨b, j * 3 + 2, none⟩) hbl).trans d2
    have f3 : (w2.alloc (.cells #[.int .i64 0, .slice none 0 0, .bool false, .int .i64 0] 77)).drew.cell? ⟨w1.heap.size, 0, none⟩ = _ := a6
    have f4 : (w2.alloc (.cells #[.int .i64 0, .slice none 0 0, .bool false, .int .i64 0] 77)).drew.cell? ⟨w1.heap.size, 1, none⟩ = _ := a7
    have f5 : (w2.alloc (.cells #[.int .i64 0, .slice none 0 0, .bool false, .int .i64 0] 77)).drew.cell? ⟨w1.heap.size, 2, none⟩ = _ := a8
    have XA : Hid (Blk (w2.alloc (.cells (mcs t.cap Aj y kj t.mark p) 77)).drew w2.heap.size 77 (mcs t.cap Aj y kj t.mark p)) := Lib.hid (Blk.drew (Blk.new w2 77 (mcs t.cap Aj y kj t.mark p)))
    have XB : Hid (Stp w2 (w2.alloc (.cells (mcs t.cap Aj y kj t.mark p) 77)).drew) := Lib.hid (Stp.drewN (Stp.alloc (Stp.refl w2) _) 1)
    go_region
    all_goals
      go_wp2_with fail
      go_meet
      with_reducible exact ⟨_, rfl, Nat.le_refl _, XA, XB⟩
  case rest =>
    obtain ⟨g, rfl, hg, HM, HX⟩ := hcut
    clear q0 q1 q2 q3 q4 q5 r0 r1 r2 s0 s1 s2 d0 d1 d2
    have hw12 : w1.heap.size + 1 ≤ w2.heap.size := by
      have h := BN2.out.lt
      omega
    have hw1 := Hw1.out
    have hgl := HM.out.lt
    have hwx := HX.out.size
    have Hsw := Lib.hid (Stp.trans H2.out HX.out)
    have HnS : Hid (¬ (S2 g ∨ wc.heap.size ≤ g)) := Lib.hid (by
      rintro (h | h)
      · have := (HS2.out g h).2; omega
      · omega)
    have HloS : Hid (∀ b, wc.heap.size ≤ b → S2 b ∨ wc.heap.size ≤ b) := Lib.hid fun b hb => .inr hb
    have HupS : Hid (∀ b, S2 b ∨ wc.heap.size ≤ b → w.heap.size ≤ b) := Lib.hid (by
      rintro b (h | h)
      · have := (HS2.out b h).1; omega
      · have := Hsw.out.size; omega)
    have HMm : Hid (Blk wc g 77 (mcs t.cap Aj t.rows.length kj t.mark p)) := Lib.hid (by rw [Hy.out]; exact HM.out)
    have HrS : Hid (InS (fun x => S2 x ∨ wc.heap.size ≤ x) wc Aj kj t.rows) := Lib.hid ((Hr.out.keep HX.out).less fun _ _ h => .inl h)
    have HSx := Lib.hid (HSh.out.keep HX.out)
    have BNx := Lib.hid (BN2.out.keep HX.out BN2.out.lt)
    have B1x := Lib.hid (B12.out.keep HX.out B12.out.lt)
    have hgw : w.heap.size ≤ g := by omega
    go_wp2_with ((with_reducible refine (HD.out wc g _ Aj kj Hsw.out hgw HnS.out HloS.out HupS.out HMm.out HrS.out).mono ?_); rintro e w3 ⟨rfl, ⟨A3, k3, hb3, hr3, hw3⟩, hpo⟩; have HPo := Lib.hid hpo; have HB3 := Lib.hid hb3; have HR3 := Lib.hid hr3; have HW3 := Lib.hid hw3; have BN3 := Lib.hid (show Blk w3 w1.heap.size 24 (dcs (some ⟨b, 0, none⟩) n k1 i p) from (hw3.block _ BNx.out.lt (by omega) (fun e => by have := Hq.out _ e.symm; omega)).trans BNx.out); have B13 := Lib.hid (show Blk w3 (w.heap.size + 1) 24 (dcs none 0 0 0 0) from (hw3.block _ B1x.out.lt (by omega) (fun e => by have := Hq.out _ e.symm; omega)).trans B1x.out); have HG3 := Lib.hid (grown_wr Hsw.out hw3 hgw); have HS3 := Lib.hid ((HSx.out.abv (abv_wr hw3 (by rintro (h | h); exact HnS.out (.inl h); have := Hb2.out.2; omega) (fun x hx => by have := Hq.out x hx; rintro (h | h); have := (HS2.out x h).1; omega; have := Hb2.out.1; omega))).less (S' := fun x => S2 x ∨ wc.heap.size ≤ x) (fun _ _ h => .inl h) (by rintro (h | h); exact HSx.out.out h; have := Hb2.out.2; omega)); clear hpo hb3 hr3 hw3; obtain ⟨⟨q0, q1, q2⟩, q3, q4, q5⟩ := dd_all BN3.out; obtain ⟨⟨r0, r1, r2⟩, s0, s1, s2⟩ := dd_all B13.out; obtain ⟨⟨v0, v1, v2, v3⟩, -, -, -, -⟩ := mm_all HB3.out; obtain ⟨A4, k4, c0, c1, c2, -⟩ := HS3.out.each j t Ht.out; have d0 : w3.cell? ⟨b, j * 3, none⟩ = _ := (HS3.out.blk.cell _).trans c0; have d1 : w3.cell? ⟨b, j * 3 + 1, none⟩ = _ := (HS3.out.blk.cell _).trans c1; have d2 : w3.cell? ⟨b, j * 3 + 2, none⟩ = _ := (HS3.out.blk.cell _).trans c2; have z0 := HS3.out.blk.free (j * 3); have z1 := HS3.out.blk.free (j * 3 + 1); have z2 := HS3.out.blk.free (j * 3 + 2); have n0 : b ≠ w1.heap.size := (by have := Hb2.out.2; omega); have n1 : b ≠ w.heap.size + 1 := (by have := Hb2.out.1; omega); have n2 : w1.heap.size ≠ w.heap.size + 1 := (by omega); clear c0 c1 c2)
    have hjl : j < ts.length := by rw [Hn.out]; exact hjn
    have hSh4 := HS3.out.set (j := j) hjl (c := c') (m := m') Hn'.out HR3.out
    have hbn := HS3.out.out
    have hS5 := hSh4.abv (Abv.put (S := fun x => (S2 x ∨ wc.heap.size ≤ x) ∨ x = b) (putT w3 b j c' A3 n' k3 m') (g := w1.heap.size) (by
      rintro ((h | h) | h)
      · have := (HS2.out _ h).2; omega
      · omega
      · exact n0 h.symm) 2 (.int .i64 p'))
    have hG5 : w.grownBy ((putT w3 b j c' A3 n' k3 m').setCell ⟨w1.heap.size, 2, none⟩ (.int .i64 p')) q := by
      have hwb : w.heap.size ≤ b := by have := Hb2.out.1; omega
      exact grown_put (grown_put (grown_put (grown_put HG3.out (p := ⟨b, j * 3, none⟩) hwb _) (p := ⟨b, j * 3 + 1, none⟩) hwb _) (p := ⟨b, j * 3 + 2, none⟩) hwb _) (p := ⟨w1.heap.size, 2, none⟩) (by show w.heap.size ≤ w1.heap.size; omega) _
    have hB5 : Blk ((putT w3 b j c' A3 n' k3 m').setCell ⟨w1.heap.size, 2, none⟩ (.int .i64 p')) (w.heap.size + 1) 24 (dcs none 0 0 0 0) :=
      (((B13.out.far (p := ⟨b, j * 3, none⟩) (Ne.symm n1) _).far (p := ⟨b, j * 3 + 1, none⟩) (Ne.symm n1) _).far (p := ⟨b, j * 3 + 2, none⟩) (Ne.symm n1) _).far (p := ⟨w1.heap.size, 2, none⟩) (Ne.symm n2) _
    have hA5 : Abv (fun x => x < w.heap.size ∨ wc.heap.size ≤ x) w3 ((putT w3 b j c' A3 n' k3 m').setCell ⟨w1.heap.size, 2, none⟩ (.int .i64 p')) := by
      have hnb : ¬ (b < w.heap.size ∨ wc.heap.size ≤ b) := by have := Hb2.out; omega
      exact Abv.trans (putt_abv hnb j c' A3 n' k3 m') (Abv.put _ (by omega) _ _)
    clear q0 q1 q2 q3 q4 q5 r0 r1 r2 s0 s1 s2 v0 v1 v2 v3 d0 d1 d2 z0 z1 z2 hSh4
    change bodyPost _ _ _ _ _ (fillD ((putT w3 b j c' A3 n' k3 m').setCell ⟨w1.heap.size, 2, none⟩ (.int .i64 p')) (w.heap.size + 1) (some ⟨b, 0, none⟩) n k1 i p')
    generalize (putT w3 b j c' A3 n' k3 m').setCell ⟨w1.heap.size, 2, none⟩ (.int .i64 p') = X5 at hS5 hG5 hB5 hA5 ⊢
    have hf := filld_blk (some ⟨b, 0, none⟩) n k1 i p' hB5
    have hG6 : w.grownBy (fillD X5 (w.heap.size + 1) (some ⟨b, 0, none⟩) n k1 i p') q :=
      grown_put (grown_put (grown_put hG5 (p := ⟨w.heap.size + 1, 0, none⟩) (by show w.heap.size ≤ w.heap.size + 1; omega) _) (p := ⟨w.heap.size + 1, 1, none⟩) (by show w.heap.size ≤ w.heap.size + 1; omega) _) (p := ⟨w.heap.size + 1, 2, none⟩) (by show w.heap.size ≤ w.heap.size + 1; omega) _
    have hS6 := hS5.abv (Abv.of_grown (filld_grown X5 (w.heap.size + 1) (some ⟨b, 0, none⟩) n k1 i p') (by
      rintro ((h | h) | h)
      · have := (HS2.out _ h).1; omega
      · omega
      · exact n1 h.symm))
    have hA6 := Abv.trans hA5 (Abv.of_grown (filld_grown X5 (w.heap.size + 1) (some ⟨b, 0, none⟩) n k1 i p') (by omega))
    have hP6 := HP.out wc w3 _ Hsw.out HPo.out hA6
    generalize fillD X5 (w.heap.size + 1) (some ⟨b, 0, none⟩) n k1 i p' = X6 at hf hG6 hS6 hP6 ⊢
    obtain ⟨⟨q0, q1, q2⟩, -, -, -⟩ := dd_all hf
    have hO : Osh w.heap.size X6 (some ⟨b, 0, none⟩) k1 (ts.set j ⟨c', ls', m'⟩) := .inr ⟨b, _, _, rfl, by have := Hb2.out.1; omega, fun x hx => by
      rcases hx with h | h
      · have := (HS2.out _ h).1; omega
      · have := Hsw.out.size; omega, hS6⟩
    refine bodyPost_ret (v := .tuple #[dc (some ⟨b, 0, none⟩) n k1 i p', .int .i64 ei]) (by simp [results, Try.results36, go_sem, *]) rfl ⟨_, k1, rfl, hO, hG6, hP6⟩
end Go.Proofs.Ytaknnkcfoafkdaa.Drive
