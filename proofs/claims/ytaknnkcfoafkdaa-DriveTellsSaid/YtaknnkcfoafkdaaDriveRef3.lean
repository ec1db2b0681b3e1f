/-
  The document's answers for drives: their contracts; no statement is proved here.
-/
import Derived.Test.YtaknnkcfoafkdaaDriveI
import Derived.Test.YtaknnkcfoafkdaaDriveRef
import Derived.BigQuiet
import Derived.Deep.RegionLaw
import Derived.Deep.Cut
namespace Go.Proofs.Ytaknnkcfoafkdaa.Drive
open Go.RowKit Go.Proofs.Ytaknnkcfoafkdaa.Str Go.Proofs.Ytaknnkcfoafkdaa.Base Go.Proofs.Ytaknnkcfoafkdaa.BlockM Go.Proofs.Ytaknnkcfoafkdaa.RecM Go.Proofs.Ytaknnkcfoafkdaa.TapeM Go.Proofs.Ytaknnkcfoafkdaa.Tape Go.Proofs.Ytaknnkcfoafkdaa.DriveM
set_option linter.unusedVariables false

set_option maxRecDepth 100000 in
set_option maxHeartbeats 2000000 in
theorem rdsame_s (ts : List Tp) (i p : Int) (n : Nat) (hf : FewD ⟨ts, i, p⟩) (hn : ts.length = n) (ts' : List Tp) (i' p' : Int) (n' : Nat) (hf' : FewD ⟨ts', i', p'⟩) (hn' : ts'.length = n') (b : Bool) (hb : decide ((⟨ts, i, p⟩ : Dr) = ⟨ts', i', p'⟩) = b) (A B : Option Addr) (k d : Nat) (w : World) (ha : RdS w A k ts) (ha' : RdS w B d ts') :
    Calls Try.prog 25 #[dc A n k i p, dc B n' d i' p'] w fun e w' => e = .returned (.bool b) ∧ Stp w w' := by
  have h0 := Stp.alloc (Stp.alloc (Stp.refl w) (.cells (dcs A n k i p) 24)) (.cells (dcs B n' d i' p') 24)
  have b0 := (Blk.new w 24 (dcs A n k i p)).alloc (.cells (dcs B n' d i' p') 24)
  have b1 := Blk.new (w.alloc (.cells (dcs A n k i p) 24)) 24 (dcs B n' d i' p')
  rw [World.size_alloc] at b1
  have h1 := hf.few
  have h2 := hf'.few
  dsimp only at h1 h2
  have F := Lib.hid hf.each
  have F' := Lib.hid hf'.each
  obtain ⟨⟨q0, q1, q2⟩, -, -, -⟩ := dd_all b0
  obtain ⟨⟨r0, r1, r2⟩, -, -, -⟩ := dd_all b1
  have B0 := Lib.hid b0
  have B1 := Lib.hid b1
  have H0 := Lib.hid h0
  have Ha := Lib.hid ha
  have Ha' := Lib.hid ha'
  have Hn := Lib.hid hn
  have Hn' := Lib.hid hn'
  rw [hn] at h1
  rw [hn'] at h2
  by_cases hne : i ≠ i' ∨ p ≠ p' ∨ n ≠ n'
  · have e : b = false := by
      rw [← hb, decide_eq_false_iff_not]
      intro h
      cases h
      rcases hne with h | h | h
      · exact h rfl
      · exact h rfl
      · exact h (by rw [← hn, hn'])
    subst e
    obtain ⟨x1, g1⟩ : ∃ x, (i != i') = x := ⟨_, rfl⟩
    obtain ⟨x2, g2⟩ : ∃ x, (p != p') = x := ⟨_, rfl⟩
    obtain ⟨x3, g3⟩ : ∃ x, ((n : Int) != (n' : Int)) = x := ⟨_, rfl⟩
    have hbad : (x1 || x2 || x3) = true := by
      rw [← g1, ← g2, ← g3]
      simp only [Bool.or_eq_true, bne_iff_ne]
      omega
    clear hf hf' b0 b1 hb h0 ha ha' hn hn' hne
    cases x1 <;> cases x2 <;> cases x3
    all_goals first
      | exact absurd hbad (by decide)
      | skip
    all_goals
      clear hbad
      go_enter Try.func25, Try.ntmps25
      go_wp2_with fail
      go_ret
      exact ⟨rfl, H0.out⟩
  · have e1 : i' = i := by omega
    have e2 : p' = p := by omega
    have e3 : n' = n := by omega
    subst e1 e2 e3
    have Hb : Hid (decide (ts = ts') = b) := Lib.hid (by rw [← hb]; simp)
    have g1 : (i' != i') = false := by simp
    have g2 : (p' != p') = false := by simp
    have g3 : ((n' : Int) != (n' : Int)) = false := by simp
    clear hf hf' b0 b1 hb h0 ha ha' hn hn' hne h2
    go_enter Try.func25, Try.ntmps25
    go_wp2_with fail
    clear q0 q1 q2 r0 r1 r2
    go_loopw [5] (fun iv wr => ∃ j : Nat, j ≤ n' ∧ iv = .int .i64 j ∧ Hid (Stp ((w.alloc (.cells (dcs A n' k i' p') 24)).alloc (.cells (dcs B n' d i' p') 24)) wr) ∧ Hid (ts.take j = ts'.take j)) (fun iv _ => n' - (intOf iv).toNat)
    case atStart => exact ⟨0, by omega, rfl, Lib.hid (Stp.refl _), Lib.hid (by simp)⟩
    case round =>
      obtain ⟨j, hj, rfl, HS, Hk⟩ := hrel
      obtain ⟨⟨q0, q1, q2⟩, -, -, -⟩ := dd_all (B0.out.keep HS.out B0.out.lt)
      obtain ⟨⟨r0, r1, r2⟩, -, -, -⟩ := dd_all (B1.out.keep HS.out B1.out.lt)
      by_cases hlt : j < n'
      · obtain ⟨t, ht1⟩ : ∃ t, ts[j]? = some t := ⟨_, List.getElem?_eq_getElem (by rw [Hn.out]; exact hlt)⟩
        obtain ⟨u, hu1⟩ : ∃ t, ts'[j]? = some t := ⟨_, List.getElem?_eq_getElem (by rw [Hn'.out]; exact hlt)⟩
        obtain ⟨bb, oo, Aj, kj, rfl, c0, c1, c2, ra⟩ := (Ha.out.keep (Stp.trans H0.out HS.out)).at_ ht1
        obtain ⟨bc, oc, Bj, lj, rfl, d0, d1, d2, rb⟩ := (Ha'.out.keep (Stp.trans H0.out HS.out)).at_ hu1
        have hft := Lib.hid (F.out t (List.mem_of_getElem? ht1))
        have hfu := Lib.hid (F'.out u (List.mem_of_getElem? hu1))
        obtain ⟨y, hy⟩ : ∃ y, t.rows.length = y := ⟨_, rfl⟩
        obtain ⟨z, hz⟩ : ∃ y, u.rows.length = y := ⟨_, rfl⟩
        rw [hy] at c1
        rw [hz] at d1
        have Hy := Lib.hid hy
        have Hz := Lib.hid hz
        have hst : Stp wr wr.drew := Stp.drewN (Stp.refl wr) 1
        have Ra := Lib.hid (ra.keep hst)
        have Rb := Lib.hid (rb.keep hst)
        have HSd := Lib.hid (Stp.trans HS.out hst)
        have a0 : wr.drew.cell? _ = _ := c0
        have a1 : wr.drew.cell? _ = _ := c1
        have a2 : wr.drew.cell? _ = _ := c2
        have b0 : wr.drew.cell? _ = _ := d0
        have b1 : wr.drew.cell? _ = _ := d1
        have b2 : wr.drew.cell? _ = _ := d2
        obtain ⟨⟨u0, u1, u2⟩, -, -, -⟩ := dd_all (Blk.drew (B0.out.keep HS.out B0.out.lt))
        obtain ⟨⟨v0, v1, v2⟩, -, -, -⟩ := dd_all (Blk.drew (B1.out.keep HS.out B1.out.lt))
        obtain ⟨x, hx⟩ : ∃ x, decide ((⟨t.cap, t.rows, t.mark⟩ : Tp) = ⟨u.cap, u.rows, u.mark⟩) = x := ⟨_, rfl⟩
        have Hx := Lib.hid hx
        have Ht1 := Lib.hid ht1
        have Hu1 := Lib.hid hu1
        clear ra rb hy hz ht1 hu1 hst hx
        cases x
        · go_wp2_with fail
          go_region_law (go_simp; go_at_call 48; refine (rtsame_s t.cap t.rows t.mark y hft.out Hy.out u.cap u.rows u.mark z hfu.out Hz.out false Hx.out Aj Bj kj lj _ Ra.out Rb.out).mono ?_; rintro e w' ⟨rfl, hs⟩; have H2 := Lib.hid hs; clear hs)
          all_goals go_wp2_with fail
          all_goals go_ret
          all_goals
            refine ⟨?_, Stp.trans (Stp.trans H0.out HSd.out) H2.out⟩
            have e : b = false := by
              rw [← Hb.out, decide_eq_false_iff_not]
              rintro rfl
              have h3 := Ht1.out
              rw [Hu1.out] at h3
              cases h3
              have h4 := Hx.out
              simp at h4
            rw [e]
            rfl
        · go_wp2_with fail
          go_region_law (go_simp; go_at_call 48; refine (rtsame_s t.cap t.rows t.mark y hft.out Hy.out u.cap u.rows u.mark z hfu.out Hz.out true Hx.out Aj Bj kj lj _ Ra.out Rb.out).mono ?_; rintro e w' ⟨rfl, hs⟩; have H2 := Lib.hid hs; clear hs)
          all_goals go_wp2_with fail
          all_goals
            go_roundw
            case rel =>
              refine ⟨j + 1, by omega, by go_num, Lib.hid (Stp.trans HSd.out H2.out), Lib.hid ?_⟩
              have h5 : t = u := by
                have := of_decide_eq_true Hx.out
                exact this
              rw [List.take_add_one, List.take_add_one, Ht1.out, Hu1.out, Hk.out, h5]
            case measure => simp [intOf]; omega
      · obtain rfl : j = n' := by omega
        go_wp2_with fail
        go_ret
        refine ⟨?_, Stp.trans H0.out HS.out⟩
        have h := Hk.out
        rw [List.take_of_length_le (by rw [Hn.out]; exact Nat.le_refl _), List.take_of_length_le (by rw [Hn'.out]; exact Nat.le_refl _)] at h
        rw [← Hb.out, decide_eq_true h]
        rfl
end Go.Proofs.Ytaknnkcfoafkdaa.Drive
