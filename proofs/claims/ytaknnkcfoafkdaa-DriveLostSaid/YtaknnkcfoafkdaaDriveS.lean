/-
  Package drive: Same: its contract; no statement is proved here.
-/
import Derived.Test.YtaknnkcfoafkdaaDriveQ
namespace Go.Proofs.Ytaknnkcfoafkdaa.Drive
open Go.RowKit Go.Proofs.Ytaknnkcfoafkdaa.Str Go.Proofs.Ytaknnkcfoafkdaa.Base Go.Proofs.Ytaknnkcfoafkdaa.BlockM Go.Proofs.Ytaknnkcfoafkdaa.RecM Go.Proofs.Ytaknnkcfoafkdaa.TapeM Go.Proofs.Ytaknnkcfoafkdaa.Tape Go.Proofs.Ytaknnkcfoafkdaa.DriveM
set_option linter.unusedVariables false

set_option maxRecDepth 100000 in
set_option maxHeartbeats 1000000 in
theorem equalT_s (ts us : List Tp) (n n' : Nat) (hn : ts.length = n) (hn' : us.length = n') (hl : n ≤ 1000) (hl' : n' ≤ 1000) (he : ∀ t ∈ ts, FewT t) (he' : ∀ t ∈ us, FewT t) (r : Bool) (hr : decide (ts = us) = r) (A B : Option Addr) (k d : Nat) (w : World) (ha : RdS w A k ts) (hb : RdS w B d us) :
    Calls Try.prog 51 #[.slice A n k, .slice B n' d, .func (.func 30) #[] #[]] w fun e w' => e = .returned (.bool r) ∧ Stp w w' := by
  have Hr := Lib.hid hr
  have He := Lib.hid he
  have He' := Lib.hid he'
  have Hn := Lib.hid hn
  have Hn' := Lib.hid hn'
  have Ha := Lib.hid ha
  have Hb := Lib.hid hb
  clear hr he he' hn hn' ha hb
  by_cases hlen : n = n'
  · subst hlen
    have g0 : ((n : Int) != (n : Int)) = false := by simp
    go_enter Try.func51, Try.ntmps51
    go_wp2_with fail
    go_loopw [17] (fun i wr => ∃ j : Nat, j ≤ n ∧ i = .int .i64 j ∧ Hid (Stp w wr) ∧ Hid (ts.take j = us.take j)) (fun i _ => n - (intOf i).toNat)
    case atStart => exact ⟨0, by omega, rfl, Lib.hid (Stp.refl w), Lib.hid (by simp)⟩
    case round =>
      obtain ⟨j, hj, rfl, H0, Hk⟩ := hrel
      by_cases hlt : j < n
      · obtain ⟨t, ht⟩ : ∃ t, ts[j]? = some t := ⟨_, List.getElem?_eq_getElem (by rw [Hn.out]; exact hlt)⟩
        obtain ⟨u, hu⟩ : ∃ t, us[j]? = some t := ⟨_, List.getElem?_eq_getElem (by rw [Hn'.out]; exact hlt)⟩
        obtain ⟨y, hy⟩ : ∃ y, t.rows.length = y := ⟨_, rfl⟩
        obtain ⟨z, hz⟩ : ∃ y, u.rows.length = y := ⟨_, rfl⟩
        obtain ⟨ba, oa, Aj, kj, rfl, hT⟩ := tp_at (Ha.out.keep H0.out) ht hy
        obtain ⟨bb, ob, Bj, lj, rfl, hU⟩ := tp_at (Hb.out.keep H0.out) hu hz
        have X1 := Lib.hid (Stp.alloc (Stp.refl wr) (.cells #[.int .i64 t.cap, .slice Aj y kj, .bool t.mark] 41))
        have hX2 := Stp.alloc X1.out (.cells #[.int .i64 u.cap, .slice Bj z lj, .bool u.mark] 41)
        have hU1 := hU.keep X1.out
        have b1 := (Blk.new wr 41 (tcs t.cap Aj y kj t.mark)).alloc (.cells #[.int .i64 u.cap, .slice Bj z lj, .bool u.mark] 41)
        have b2 := Blk.new (wr.alloc (.cells #[.int .i64 t.cap, .slice Aj y kj, .bool t.mark] 41)) 41 (tcs u.cap Bj z lj u.mark)
        have b0 := Blk.new wr 41 (tcs t.cap Aj y kj t.mark)
        obtain ⟨⟨r0, r1, r2⟩, -, -, -⟩ := tt_all b1
        rw [World.size_alloc] at b2
        obtain ⟨⟨s0, s1, s2⟩, -, -, -⟩ := tt_all b2
        have c0 := hT.c0
        have c1 := hT.c1
        have c2 := hT.c2
        have d0 := hU1.c0
        have d1 := hU1.c1
        have d2 := hU1.c2
        have X2 := Lib.hid hX2
        have Ra := Lib.hid (hT.rd.keep hX2)
        have Rb := Lib.hid (hU.rd.keep hX2)
        have hft := Lib.hid (He.out t (List.mem_of_getElem? ht))
        have hfu := Lib.hid (He'.out u (List.mem_of_getElem? hu))
        obtain ⟨x, hx⟩ : ∃ x, decide ((⟨t.cap, t.rows, t.mark⟩ : Tp) = ⟨u.cap, u.rows, u.mark⟩) = x := ⟨_, rfl⟩
        have Hx := Lib.hid hx
        have Ht := Lib.hid ht
        have Hu := Lib.hid hu
        have Hy := Lib.hid hy
        have Hz := Lib.hid hz
        clear hx ht hu hy hz hT hU hU1 hX2 b0 b1 b2
        cases x
        · go_wp2_with (go_at_call 30; refine (tsame_s t.cap t.rows t.mark y hft.out Hy.out u.cap u.rows u.mark z hfu.out Hz.out false Hx.out Aj Bj kj lj _ Ra.out Rb.out).mono ?_; rintro e w' ⟨rfl, hs⟩; have H2 := Lib.hid (Stp.trans H0.out (Stp.trans X2.out hs)); clear hs)
          go_ret
          refine ⟨?_, H2.out⟩
          have e : r = false := by
            rw [← Hr.out, decide_eq_false_iff_not]
            rintro rfl
            have h3 := Ht.out
            rw [Hu.out] at h3
            cases h3
            have h4 := Hx.out
            simp at h4
          rw [e]
          rfl
        · go_wp2_with (go_at_call 30; refine (tsame_s t.cap t.rows t.mark y hft.out Hy.out u.cap u.rows u.mark z hfu.out Hz.out true Hx.out Aj Bj kj lj _ Ra.out Rb.out).mono ?_; rintro e w' ⟨rfl, hs⟩; have H2 := Lib.hid (Stp.trans H0.out (Stp.trans X2.out hs)); clear hs)
          go_roundw
          case rel =>
            refine ⟨j + 1, by omega, by go_num, H2, Lib.hid ?_⟩
            have h5 : t = u := of_decide_eq_true Hx.out
            rw [List.take_add_one, List.take_add_one, Ht.out, Hu.out, Hk.out, h5]
          case measure => simp [intOf]; omega
      · obtain rfl : j = n := by omega
        go_wp2_with fail
        go_ret
        refine ⟨?_, H0.out⟩
        have h := Hk.out
        rw [List.take_of_length_le (by rw [Hn.out]; exact Nat.le_refl _), List.take_of_length_le (by rw [Hn'.out]; exact Nat.le_refl _)] at h
        rw [← Hr.out, decide_eq_true h]
        rfl
  · have g0 : ((n : Int) != (n' : Int)) = true := by rw [bne_iff_ne]; omega
    obtain rfl : r = false := by
      rw [← Hr.out, decide_eq_false_iff_not]
      rintro rfl
      exact hlen (by rw [← Hn.out, ← Hn'.out])
    go_enter Try.func51, Try.ntmps51
    go_wp2_with fail
    go_ret
    exact ⟨rfl, Stp.refl w⟩

set_option maxRecDepth 100000 in
set_option maxHeartbeats 2000000 in
theorem dsame_s (ts : List Tp) (i p : Int) (n : Nat) (hf : FewD ⟨ts, i, p⟩) (hn : ts.length = n) (ts' : List Tp) (i' p' : Int) (n' : Nat) (hf' : FewD ⟨ts', i', p'⟩) (hn' : ts'.length = n')
    (b : Bool) (hb : decide ((⟨ts, i, p⟩ : Dr) = ⟨ts', i', p'⟩) = b) (A B : Option Addr) (k d : Nat) (w : World) (ha : RdS w A k ts) (ha' : RdS w B d ts') :
    Calls Try.prog 28 #[dc A n k i p, dc B n' d i' p'] w fun e w' => e = .returned (.bool b) ∧ Stp w w' := by
  have h0 := Stp.alloc (Stp.alloc (Stp.refl w) (.cells (dcs A n k i p) 24)) (.cells (dcs B n' d i' p') 24)
  have b0 := (Blk.new w 24 (dcs A n k i p)).alloc (.cells (dcs B n' d i' p') 24)
  have b1 := Blk.new (w.alloc (.cells (dcs A n k i p) 24)) 24 (dcs B n' d i' p')
  rw [World.size_alloc] at b1
  have h1 := hf.few
  have h2 := hf'.few
  dsimp only at h1 h2
  rw [hn] at h1
  rw [hn'] at h2
  obtain ⟨⟨q0, q1, q2⟩, -, -, -⟩ := dd_all b0
  obtain ⟨⟨r0, r1, r2⟩, -, -, -⟩ := dd_all b1
  have hb2 : b = ((i == i') && (p == p') && decide (ts = ts')) := by
    rw [← hb, Bool.eq_iff_iff]
    simp only [decide_eq_true_eq, Dr.mk.injEq, Bool.and_eq_true, beq_iff_eq, and_assoc]
    exact ⟨fun ⟨x, y, z⟩ => ⟨y, z, x⟩, fun ⟨x, y, z⟩ => ⟨z, x, y⟩⟩
  obtain ⟨x1, g1⟩ : ∃ x, (i == i') = x := ⟨_, rfl⟩
  obtain ⟨x2, g2⟩ : ∃ x, (p == p') = x := ⟨_, rfl⟩
  obtain ⟨x3, g3⟩ : ∃ x, decide (ts = ts') = x := ⟨_, rfl⟩
  rw [g1, g2, g3] at hb2
  subst hb2
  have Ha := Lib.hid ha
  have Ha' := Lib.hid ha'
  have Hn := Lib.hid hn
  have Hn' := Lib.hid hn'
  have H0 := Lib.hid h0
  have G3 := Lib.hid g3
  have HE : Hid (∀ t ∈ ts, FewT t) := Lib.hid hf.each
  have HE' : Hid (∀ t ∈ ts', FewT t) := Lib.hid hf'.each
  clear ha ha' hn hn' hf hf' b0 b1 hb h0 g3
  cases x1 <;> cases x2
  all_goals
    go_enter Try.func28, Try.ntmps28
    go_wp2_with (go_at_call 51; refine (equalT_s ts ts' n n' Hn.out Hn'.out h1 h2 HE.out HE'.out x3 G3.out A B k d _ (Ha.out.keep H0.out) (Ha'.out.keep H0.out)).mono ?_; rintro e w' ⟨rfl, hs⟩; have H1 := Lib.hid (Stp.trans H0.out hs); clear hs)
    go_ret
    first | exact ⟨rfl, H1.out⟩ | exact ⟨rfl, H0.out⟩
end Go.Proofs.Ytaknnkcfoafkdaa.Drive
