/-
  Package drive: areTapes, isPlace, May, Same: their contracts; no statement is proved here.
-/
import Derived.Test.YtaknnkcfoafkdaaDriveI
import Derived.Test.YtaknnkcfoafkdaaDriveC
import Derived.Test.YtaknnkcfoafkdaaTapeO
import Derived.BigQuiet
import Derived.Deep.RegionLaw
import Derived.Deep.Cut
namespace Go.Proofs.Ytaknnkcfoafkdaa.Drive
open Go.RowKit Go.Proofs.Ytaknnkcfoafkdaa.Str Go.Proofs.Ytaknnkcfoafkdaa.Base Go.Proofs.Ytaknnkcfoafkdaa.BlockM Go.Proofs.Ytaknnkcfoafkdaa.RecM Go.Proofs.Ytaknnkcfoafkdaa.TapeM Go.Proofs.Ytaknnkcfoafkdaa.Tape Go.Proofs.Ytaknnkcfoafkdaa.DriveM
set_option linter.unusedVariables false

set_option maxRecDepth 100000 in
set_option maxHeartbeats 1000000 in
theorem areTapes_s (ts : List Tp) (n : Nat) (hn : ts.length = n) (hl : n ≤ 1000) (he : ∀ t ∈ ts, FewT t) (r : Bool) (hr : ts.all mayT = r) (A : Option Addr) (k : Nat) (w : World) (ha : RdS w A k ts) :
    Calls Try.prog 50 #[.slice A n k] w fun e w' => e = .returned (.bool r) ∧ Stp w w' := by
  have Hr := Lib.hid hr
  have He := Lib.hid he
  have Hn := Lib.hid hn
  have Ha := Lib.hid ha
  clear hr he hn ha
  go_enter Try.func50, Try.ntmps50
  go_wp2_with fail
  go_loopw [7] (fun i wr => ∃ k : Nat, k ≤ n ∧ i = .int .i64 k ∧ Stp w wr ∧ Hid (∀ x ∈ ts.take k, mayT x = true)) (fun i _ => n - (intOf i).toNat)
  case atStart => exact ⟨0, by omega, rfl, Stp.refl w, Lib.hid (by simp)⟩
  case round =>
    obtain ⟨j, hj, rfl, h0, Hk⟩ := hrel
    by_cases hlt : j < n
    · obtain ⟨t, ht⟩ : ∃ t, ts[j]? = some t := ⟨_, List.getElem?_eq_getElem (by rw [Hn.out]; exact hlt)⟩
      obtain ⟨y, hy⟩ : ∃ y, t.rows.length = y := ⟨_, rfl⟩
      obtain ⟨b, o, Aj, kj, rfl, hT⟩ := tp_at (Ha.out.keep h0) ht hy
      have HT := Lib.hid hT
      have hft := He.out t (List.mem_of_getElem? ht)
      have c0 := hT.c0
      have c1 := hT.c1
      have c2 := hT.c2
      have Hy := Lib.hid hy
      have Ht := Lib.hid ht
      have Hft := Lib.hid hft
      have H0 := Lib.hid h0
      clear ht hy hft hT h0
      have hst := Lib.hid (Stp.alloc (Stp.refl wr) (.cells #[.int .i64 t.cap, .slice Aj y kj, .bool t.mark] 41))
      have BT := Lib.hid (Blk.new wr 41 (tcs t.cap Aj y kj t.mark))
      obtain ⟨⟨r0, r1, r2⟩, -, -, -⟩ := tt_all BT.out
      cases h5 : mayT t
      · have H5 := Lib.hid h5
        clear h5
        go_wp2_with (go_at_call 52; refine (tmay_s t.cap t.rows t.mark y Hft.out Hy.out false H5.out Aj kj _ (HT.out.rd.keep hst.out)).mono ?_; rintro e w' ⟨rfl, hs⟩; have H1 := Lib.hid (Stp.trans H0.out (Stp.trans hst.out hs)); clear hs)
        go_ret
        refine ⟨?_, H1.out⟩
        have e : r = false := by
          rw [← Hr.out, Bool.eq_false_iff]
          intro h
          have := List.all_eq_true.1 h t (List.mem_of_getElem? Ht.out)
          rw [H5.out] at this
          cases this
        rw [e]
        rfl
      · have H5 := Lib.hid h5
        clear h5
        go_wp2_with (go_at_call 52; refine (tmay_s t.cap t.rows t.mark y Hft.out Hy.out true H5.out Aj kj _ (HT.out.rd.keep hst.out)).mono ?_; rintro e w' ⟨rfl, hs⟩; have H1 := Lib.hid (Stp.trans H0.out (Stp.trans hst.out hs)); clear hs)
        go_roundw
        case rel =>
          refine ⟨j + 1, by omega, by go_num, H1.out, Lib.hid fun x hx => ?_⟩
          rw [List.take_add_one, Ht.out] at hx
          rcases List.mem_append.1 hx with h | h
          · exact Hk.out x h
          · simp at h
            rw [h, H5.out]
        case measure => simp [intOf]; omega
    · obtain rfl : j = n := by omega
      go_wp2_with fail
      go_ret
      refine ⟨?_, h0⟩
      have h := Hk.out
      rw [List.take_of_length_le (by rw [Hn.out]; exact Nat.le_refl _)] at h
      rw [← Hr.out, List.all_eq_true.2 h]
      rfl

set_option maxRecDepth 100000 in
theorem isPlace_s (A : Option Addr) (n k : Nat) (i : Int) (b : Bool) (hb0 : (decide (0 ≤ i) && decide (i < (n : Int))) = b) (w : World) :
    Calls Try.prog 34 #[.slice A n k, .int .i64 i] w fun e w' => e = .returned (.bool b) ∧ w' = w := by
  by_cases h1 : 0 ≤ i
  · by_cases h2 : i < (n : Int)
    · obtain rfl : b = true := by rw [← hb0, decide_eq_true h1, decide_eq_true h2]; rfl
      go_enter Try.func34, Try.ntmps34
      go_wp2_with fail
      go_ret
      exact ⟨rfl, rfl⟩
    · obtain rfl : b = false := by rw [← hb0, decide_eq_true h1, decide_eq_false h2]; rfl
      go_enter Try.func34, Try.ntmps34
      go_wp2_with fail
      go_ret
      exact ⟨rfl, rfl⟩
  · obtain rfl : b = false := by rw [← hb0, decide_eq_false h1]; rfl
    go_enter Try.func34, Try.ntmps34
    go_wp2_with fail
    go_ret
    exact ⟨rfl, rfl⟩

theorem mayD_cases (ts : List Tp) (i p : Int) (n : Nat) (hn : ts.length = n) (x : Bool) (hx : ts.all mayT = x) : (12 < n ∨ x = false → mayD ⟨ts, i, p⟩ = false) ∧ (n ≤ 12 → x = true → (i = -1 → mayD ⟨ts, i, p⟩ = decide (p = 0)) ∧
    (i ≠ -1 → ¬ (0 ≤ i ∧ i < (n : Int)) → mayD ⟨ts, i, p⟩ = false) ∧ (∀ (j : Nat) (t : Tp), i = (j : Int) → ts[j]? = some t → mayD ⟨ts, i, p⟩ = (decide (0 ≤ p) && decide (p ≤ (t.rows.length : Int))))) := by
  subst hn hx
  refine ⟨fun h => ?_, fun h1 h2 => ⟨fun hi => ?_, fun hi hno => ?_, fun j t hi ht => ?_⟩⟩
  · rw [Bool.eq_false_iff]
    intro hm
    obtain ⟨a1, -, -, -, a5, -⟩ := mayD_iff.1 hm
    dsimp only at a1 a5
    rcases h with h | h
    · omega
    · rw [List.all_eq_true.2 a5] at h
      cases h
  · rw [Bool.eq_iff_iff, mayD_iff, decide_eq_true_eq]
    dsimp only
    rw [posB, if_pos (by dsimp only; omega), decide_eq_true_eq]
    exact ⟨fun ⟨_, _, _, _, _, a⟩ => a, fun a => ⟨h1, by omega, by omega, by omega, List.all_eq_true.1 h2, a⟩⟩
  · rw [Bool.eq_false_iff]
    intro hm
    obtain ⟨-, a2, a3, -, -, -⟩ := mayD_iff.1 hm
    dsimp only at a2 a3
    exact hno ⟨by omega, a3⟩
  · have hl := (List.getElem?_eq_some_iff.1 ht).1
    rw [Bool.eq_iff_iff, mayD_iff, Bool.and_eq_true, decide_eq_true_eq, decide_eq_true_eq]
    dsimp only
    rw [posB, if_neg (by dsimp only; omega), decide_eq_true_eq, tapeD_at (d := ⟨ts, i, p⟩) hi ht]
    dsimp only
    exact ⟨fun ⟨_, _, _, a, _, b⟩ => ⟨a, b⟩, fun ⟨a, b⟩ => ⟨h1, by omega, by omega, a, List.all_eq_true.1 h2, b⟩⟩

set_option maxRecDepth 100000 in
set_option maxHeartbeats 2000000 in
theorem dmay_s (ts : List Tp) (i p : Int) (n : Nat) (hf : FewD ⟨ts, i, p⟩) (hn : ts.length = n) (b : Bool) (hb : mayD ⟨ts, i, p⟩ = b) (A : Option Addr) (k : Nat) (w : World) (ha : RdS w A k ts) :
    Calls Try.prog 27 #[dc A n k i p] w fun e w' => e = .returned (.bool b) ∧ Stp w w' := by
  have hfew := hf.few
  dsimp only at hfew
  rw [hn] at hfew
  obtain ⟨x, hx⟩ : ∃ x, ts.all mayT = x := ⟨_, rfl⟩
  obtain ⟨m1, m2⟩ := mayD_cases ts i p n hn x hx
  rw [hb] at m1
  have Hx := Lib.hid hx
  have Hn := Lib.hid hn
  have Ha := Lib.hid ha
  have HE : Hid (∀ t ∈ ts, FewT t) := Lib.hid hf.each
  have H0 := Lib.hid (Stp.alloc (Stp.refl w) (.cells (dcs A n k i p) 24))
  have B0 := Lib.hid (Blk.new w 24 (dcs A n k i p))
  have M2 := Lib.hid m2
  have Hb := Lib.hid hb
  clear hf hn hx hb ha m2
  obtain ⟨⟨q0, q1, q2⟩, -, -, -⟩ := dd_all B0.out
  by_cases h1 : 12 < n
  · have g1 : decide ((12 : Int) < (n : Int)) = true := decide_eq_true (by omega)
    obtain rfl : b = false := m1 (.inl h1)
    go_enter Try.func27, Try.ntmps27
    go_wp2_with fail
    go_ret
    exact ⟨rfl, H0.out⟩
  · have g1 : decide ((12 : Int) < (n : Int)) = false := decide_eq_false (by omega)
    cases x
    · obtain rfl : b = false := m1 (.inr rfl)
      go_enter Try.func27, Try.ntmps27
      go_wp2_with (go_at_call 50; refine (areTapes_s ts n Hn.out (by omega) HE.out false Hx.out A k _ (Ha.out.keep H0.out)).mono ?_; rintro e w1 ⟨rfl, hs⟩; have H1 := Lib.hid (Stp.trans H0.out hs); clear hs)
      go_ret
      exact ⟨rfl, H1.out⟩
    · obtain ⟨M3, M4, M5⟩ := M2.out (by omega) rfl
      rw [Hb.out] at M3 M4
      by_cases h3 : i = -1
      · have h4 := M3 h3
        subst h3
        obtain ⟨z, hz⟩ : ∃ z, (p == 0) = z := ⟨_, rfl⟩
        have h5 : b = z := by rw [h4, ← hz]; rfl
        subst h5
        clear M3 M4 M5 h4
        go_enter Try.func27, Try.ntmps27
        go_wp2_with (go_at_call 50; refine (areTapes_s ts n Hn.out (by omega) HE.out true Hx.out A k _ (Ha.out.keep H0.out)).mono ?_; rintro e w1 ⟨rfl, hs⟩; have H1 := Lib.hid (Stp.trans H0.out hs); have B1 := Lib.hid (B0.out.keep hs B0.out.lt); clear hs q0 q1 q2; obtain ⟨⟨q0, q1, q2⟩, -, -, -⟩ := dd_all B1.out)
        go_ret
        exact ⟨rfl, H1.out⟩
      · have g3 : (i == -1) = false := by rw [beq_eq_false_iff_ne]; exact h3
        by_cases h6 : 0 ≤ i ∧ i < (n : Int)
        · obtain ⟨hi0, hin⟩ := h6
          obtain ⟨j, hij⟩ : ∃ j : Nat, i = (j : Int) := ⟨i.toNat, by omega⟩
          have hjn : j < n := by omega
          obtain ⟨t, ht⟩ : ∃ t, ts[j]? = some t := ⟨_, List.getElem?_eq_getElem (by rw [Hn.out]; exact hjn)⟩
          obtain ⟨y, hy⟩ : ∃ y, t.rows.length = y := ⟨_, rfl⟩
          have h7 := M5 j t hij ht
          rw [Hb.out, hy] at h7
          have hji : i.toNat = j := by rw [hij]; rfl
          obtain ⟨bb, o, Aj, kj, rfl, hT⟩ := tp_at (Ha.out.keep H0.out) ht hy
          have HT := Lib.hid hT
          have Hp : Hid ((decide (0 ≤ i) && decide (i < (n : Int))) = true) := Lib.hid (by rw [decide_eq_true hi0, decide_eq_true hin]; rfl)
          clear M3 M4 M5 ht hy hT hij
          by_cases h8 : 0 ≤ p
          · have g8 : decide (0 ≤ p) = true := decide_eq_true h8
            obtain ⟨z, hz⟩ : ∃ z, decide (p ≤ (y : Int)) = z := ⟨_, rfl⟩
            rw [g8, hz] at h7
            obtain rfl : b = z := h7
            go_enter Try.func27, Try.ntmps27
            go_upto_region 5 with (go_at_call 50; refine (areTapes_s ts n Hn.out (by omega) HE.out true Hx.out _ k _ (Ha.out.keep H0.out)).mono ?_; rintro e w1 ⟨rfl, hs⟩; have H1 := Lib.hid (Stp.trans H0.out hs); have B1 := Lib.hid (B0.out.keep hs B0.out.lt); have HT1 := Lib.hid (HT.out.keep hs); clear hs q0 q1 q2; obtain ⟨⟨q0, q1, q2⟩, -, -, -⟩ := dd_all B1.out; have c1 := HT1.out.c1)
            go_quiet ((go_at_call 34; exact Calls.quiet_of_same (isPlace_s _ n k i true Hp.out _)))
            go_wp2
            go_ret
            exact ⟨rfl, Stp.drewN H1.out nq⟩
          · have g8 : decide (0 ≤ p) = false := decide_eq_false h8
            rw [g8] at h7
            obtain rfl : b = false := h7
            go_enter Try.func27, Try.ntmps27
            go_upto_region 5 with (go_at_call 50; refine (areTapes_s ts n Hn.out (by omega) HE.out true Hx.out _ k _ (Ha.out.keep H0.out)).mono ?_; rintro e w1 ⟨rfl, hs⟩; have H1 := Lib.hid (Stp.trans H0.out hs); have B1 := Lib.hid (B0.out.keep hs B0.out.lt); clear hs q0 q1 q2; obtain ⟨⟨q0, q1, q2⟩, -, -, -⟩ := dd_all B1.out)
            go_quiet ((go_at_call 34; exact Calls.quiet_of_same (isPlace_s _ n k i true Hp.out _)))
            go_wp2
            go_ret
            exact ⟨rfl, Stp.drewN H1.out nq⟩
        · obtain rfl : b = false := M4 h3 h6
          have Hp : Hid ((decide (0 ≤ i) && decide (i < (n : Int))) = false) := Lib.hid (by
            rw [Bool.and_eq_false_iff, decide_eq_false_iff_not, decide_eq_false_iff_not]
            omega)
          clear M3 M4 M5
          go_enter Try.func27, Try.ntmps27
          go_upto_region 5 with (go_at_call 50; refine (areTapes_s ts n Hn.out (by omega) HE.out true Hx.out A k _ (Ha.out.keep H0.out)).mono ?_; rintro e w1 ⟨rfl, hs⟩; have H1 := Lib.hid (Stp.trans H0.out hs); have B1 := Lib.hid (B0.out.keep hs B0.out.lt); clear hs q0 q1 q2; obtain ⟨⟨q0, q1, q2⟩, -, -, -⟩ := dd_all B1.out)
          go_quiet ((go_at_call 34; exact Calls.quiet_of_same (isPlace_s A n k i false Hp.out _)))
          go_wp2
          go_ret
          exact ⟨rfl, Stp.drewN H1.out nq⟩
end Go.Proofs.Ytaknnkcfoafkdaa.Drive
