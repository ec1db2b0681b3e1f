/-
  The law DriveReads, walked over the contracts: no statement is proved here.
-/
import Derived.Test.YtaknnkcfoafkdaaDriveC
import Derived.Test.YtaknnkcfoafkdaaTapeP
namespace Go.Proofs.Ytaknnkcfoafkdaa.Drive
open Go.RowKit Go.Proofs.Ytaknnkcfoafkdaa.Str Go.Proofs.Ytaknnkcfoafkdaa.Base Go.Proofs.Ytaknnkcfoafkdaa.BlockM Go.Proofs.Ytaknnkcfoafkdaa.RecM Go.Proofs.Ytaknnkcfoafkdaa.TapeM Go.Proofs.Ytaknnkcfoafkdaa.Tape Go.Proofs.Ytaknnkcfoafkdaa.DriveM
set_option linter.unusedVariables false

theorem may_pos {ts : List Tp} {i p : Int} {u j : Nat} {t : Tp} (h : mayD ⟨ts, i, p⟩ = true) (ht : ts[u]? = some t) (hj : j ≤ t.rows.length) : mayD ⟨ts, (u : Int), (j : Int)⟩ = true := by
  obtain ⟨a1, a2, a3, a4, a5, a6⟩ := mayD_iff.1 h
  have hl := (List.getElem?_eq_some_iff.1 ht).1
  refine mayD_iff.2 ⟨a1, by dsimp only; omega, by dsimp only; omega, by dsimp only; omega, a5, ?_⟩
  rw [posB, if_neg (by dsimp only; omega), tapeD_at (d := ⟨ts, (u : Int), (j : Int)⟩) rfl ht]
  exact decide_eq_true (by dsimp only; omega)
theorem read_pos {ts : List Tp} {i p : Int} {u j : Nat} {t : Tp} {r : L} (h : mayD ⟨ts, i, p⟩ = true) (ht : ts[u]? = some t) (hr : t.rows[j]? = some r) : readD ⟨ts, (u : Int), (j : Int)⟩ = (⟨ts, (u : Int), (j : Int) + 1⟩, r, 0) := by
  have hl := (List.getElem?_eq_some_iff.1 hr).1
  have hm := may_pos h ht (Nat.le_of_lt hl)
  have hmt := (mayD_iff.1 h).2.2.2.2.1 t (List.mem_of_getElem? ht)
  have h4 : readV t (j : Int) = (r, 0) := by
    rw [readV_yes hmt (by omega) (by omega), Int.toNat_natCast, List.getD_eq_getElem?_getD, hr]
    rfl
  rw [readD, if_neg (by rw [whyD_may hm (by dsimp only; omega)]; simp), tapeD_at (d := ⟨ts, (u : Int), (j : Int)⟩) rfl ht]
  dsimp only
  rw [h4]
  rfl
theorem read_end {ts : List Tp} {i p : Int} {u : Nat} {t : Tp} {y : Nat} (h : mayD ⟨ts, i, p⟩ = true) (ht : ts[u]? = some t) (hy : t.rows.length = y) : readD ⟨ts, (u : Int), (y : Int)⟩ = (⟨ts, (u : Int), (y : Int)⟩, [], 8) := by
  have hm := may_pos h ht (Nat.le_of_eq hy.symm)
  have hmt := (mayD_iff.1 h).2.2.2.2.1 t (List.mem_of_getElem? ht)
  have h4 : readV t (y : Int) = ([], 8) := readV_end hmt (by omega) (by omega)
  rw [readD, if_neg (by rw [whyD_may hm (by dsimp only; omega)]; simp), tapeD_at (d := ⟨ts, (u : Int), (y : Int)⟩) rfl ht]
  dsimp only
  rw [h4]
  rfl
set_option maxRecDepth 100000 in
set_option maxHeartbeats 2000000 in
theorem reads_no (I : DriveI) (hAw : ∀ w : World, Calls Try.prog 9 #[] w fun e w' => e = .returned (.bool true) ∧ Stp w w') (ts : List Tp) (i p : Int) (n : Nat) (hs : SmallD ⟨ts, i, p⟩) (hn : ts.length = n) (A : Option Addr) (k : Nat) (w : World) (ha : RdS w A k ts) (q : Int) (hq0 : -9223372036854775808 ≤ q) (hq1 : q < 9223372036854775808) (hx1 : fewDB ts = false) :
    Calls Try.prog 5 #[dc A n k i p, .int .i64 q] w fun e w' => e = .returned (.bool true) ∧ Stp w w' := by
  have HI := Lib.hid I
  have HAw := Lib.hid hAw
  have HS := Lib.hid hs
  have Ha := Lib.hid ha
  have Hn := Lib.hid hn
  have h0 := Stp.alloc (Stp.refl w) (.cells (dcs A n k i p) 24)
  have H := Lib.hid h0
  have B0 := Lib.hid (Blk.new w 24 (dcs A n k i p))
  obtain ⟨⟨q0, q1, q2⟩, -, -, -⟩ := dd_all B0.out
  have HX1 := Lib.hid hx1
  clear hs ha h0 hAw I hx1
  go_enter Try.func5, Try.ntmps5
  go_wp2_with (first
    | (go_at_call 9; refine (HAw.out _).mono ?_; rintro e wn ⟨rfl, hs⟩; replace H := Lib.hid (Stp.trans H.out hs); replace B0 := Lib.hid (B0.out.keep hs B0.out.lt); clear q0 q1 q2; obtain ⟨⟨q0, q1, q2⟩, -, -, -⟩ := dd_all B0.out; clear hs)
    | (go_at_call 10; (with_reducible refine (few_s ts i p n HS.out Hn.out _ HX1.out A k _ (Ha.out.keep H.out)).mono ?_); rintro e wn ⟨rfl, hs⟩; replace H := Lib.hid (Stp.trans H.out hs); replace B0 := Lib.hid (B0.out.keep hs B0.out.lt); clear q0 q1 q2; obtain ⟨⟨q0, q1, q2⟩, -, -, -⟩ := dd_all B0.out; clear hs))
  go_ret
  exact ⟨rfl, H.out⟩
set_option maxRecDepth 100000 in
set_option maxHeartbeats 2000000 in
theorem reads_may (I : DriveI) (hAw : ∀ w : World, Calls Try.prog 9 #[] w fun e w' => e = .returned (.bool true) ∧ Stp w w') (ts : List Tp) (i p : Int) (n : Nat) (hs : SmallD ⟨ts, i, p⟩) (hn : ts.length = n) (A : Option Addr) (k : Nat) (w : World) (ha : RdS w A k ts) (q : Int) (hq0 : -9223372036854775808 ≤ q) (hq1 : q < 9223372036854775808) (hx1 : fewDB ts = true) (hM : mayD ⟨ts, i, p⟩ = false) :
    Calls Try.prog 5 #[dc A n k i p, .int .i64 q] w fun e w' => e = .returned (.bool true) ∧ Stp w w' := by
  have HI := Lib.hid I
  have HAw := Lib.hid hAw
  have HS := Lib.hid hs
  have Ha := Lib.hid ha
  have Hn := Lib.hid hn
  have h0 := Stp.alloc (Stp.refl w) (.cells (dcs A n k i p) 24)
  have H := Lib.hid h0
  have B0 := Lib.hid (Blk.new w 24 (dcs A n k i p))
  obtain ⟨⟨q0, q1, q2⟩, -, -, -⟩ := dd_all B0.out
  have HX1 := Lib.hid hx1
  have HM := Lib.hid hM
  have HD := Lib.hid (fewD_of hs hx1)
  clear hs ha h0 hAw I hx1 hM
  go_enter Try.func5, Try.ntmps5
  go_wp2_with (first
    | (go_at_call 9; refine (HAw.out _).mono ?_; rintro e wn ⟨rfl, hs⟩; replace H := Lib.hid (Stp.trans H.out hs); replace B0 := Lib.hid (B0.out.keep hs B0.out.lt); clear q0 q1 q2; obtain ⟨⟨q0, q1, q2⟩, -, -, -⟩ := dd_all B0.out; clear hs)
    | (go_at_call 10; (with_reducible refine (few_s ts i p n HS.out Hn.out _ HX1.out A k _ (Ha.out.keep H.out)).mono ?_); rintro e wn ⟨rfl, hs⟩; replace H := Lib.hid (Stp.trans H.out hs); replace B0 := Lib.hid (B0.out.keep hs B0.out.lt); clear q0 q1 q2; obtain ⟨⟨q0, q1, q2⟩, -, -, -⟩ := dd_all B0.out; clear hs)
    | (go_at_call 27; (with_reducible refine (HI.out.may ts i p n HD.out Hn.out _ HM.out A k _ (Ha.out.keep H.out)).mono ?_); rintro e wn ⟨rfl, hs⟩; replace H := Lib.hid (Stp.trans H.out hs); replace B0 := Lib.hid (B0.out.keep hs B0.out.lt); clear q0 q1 q2; obtain ⟨⟨q0, q1, q2⟩, -, -, -⟩ := dd_all B0.out; clear hs))
  all_goals go_ret
  all_goals exact ⟨rfl, H.out⟩
set_option maxRecDepth 100000 in
set_option maxHeartbeats 2000000 in
theorem reads_out (I : DriveI) (hAw : ∀ w : World, Calls Try.prog 9 #[] w fun e w' => e = .returned (.bool true) ∧ Stp w w') (ts : List Tp) (i p : Int) (n : Nat) (hs : SmallD ⟨ts, i, p⟩) (hn : ts.length = n) (A : Option Addr) (k : Nat) (w : World) (ha : RdS w A k ts) (q : Int) (hq0 : -9223372036854775808 ≤ q) (hq1 : q < 9223372036854775808) (hx1 : fewDB ts = true) (hM : mayD ⟨ts, i, p⟩ = true) (h : q < 0 ∨ (n : Int) ≤ q) :
    Calls Try.prog 5 #[dc A n k i p, .int .i64 q] w fun e w' => e = .returned (.bool true) ∧ Stp w w' := by
  have HI := Lib.hid I
  have HAw := Lib.hid hAw
  have HS := Lib.hid hs
  have Ha := Lib.hid ha
  have Hn := Lib.hid hn
  have h0 := Stp.alloc (Stp.refl w) (.cells (dcs A n k i p) 24)
  have H := Lib.hid h0
  have B0 := Lib.hid (Blk.new w 24 (dcs A n k i p))
  obtain ⟨⟨q0, q1, q2⟩, -, -, -⟩ := dd_all B0.out
  have HX1 := Lib.hid hx1
  have HM := Lib.hid hM
  have HD := Lib.hid (fewD_of hs hx1)
  clear hs ha h0 hAw I hx1 hM
  rcases h with h | h
  · have g1 : decide (q < 0) = true := decide_eq_true h
    go_enter Try.func5, Try.ntmps5
    go_wp2_with (first
      | (go_at_call 9; refine (HAw.out _).mono ?_; rintro e wn ⟨rfl, hs⟩; replace H := Lib.hid (Stp.trans H.out hs); replace B0 := Lib.hid (B0.out.keep hs B0.out.lt); clear q0 q1 q2; obtain ⟨⟨q0, q1, q2⟩, -, -, -⟩ := dd_all B0.out; clear hs)
      | (go_at_call 10; (with_reducible refine (few_s ts i p n HS.out Hn.out _ HX1.out A k _ (Ha.out.keep H.out)).mono ?_); rintro e wn ⟨rfl, hs⟩; replace H := Lib.hid (Stp.trans H.out hs); replace B0 := Lib.hid (B0.out.keep hs B0.out.lt); clear q0 q1 q2; obtain ⟨⟨q0, q1, q2⟩, -, -, -⟩ := dd_all B0.out; clear hs)
      | (go_at_call 27; (with_reducible refine (HI.out.may ts i p n HD.out Hn.out _ HM.out A k _ (Ha.out.keep H.out)).mono ?_); rintro e wn ⟨rfl, hs⟩; replace H := Lib.hid (Stp.trans H.out hs); replace B0 := Lib.hid (B0.out.keep hs B0.out.lt); clear q0 q1 q2; obtain ⟨⟨q0, q1, q2⟩, -, -, -⟩ := dd_all B0.out; clear hs))
    all_goals go_ret
    all_goals exact ⟨rfl, H.out⟩
  · have g1 : decide (q < 0) = false := decide_eq_false (by omega)
    have g2 : decide ((n : Int) ≤ q) = true := decide_eq_true h
    go_enter Try.func5, Try.ntmps5
    go_wp2_with (first
      | (go_at_call 9; refine (HAw.out _).mono ?_; rintro e wn ⟨rfl, hs⟩; replace H := Lib.hid (Stp.trans H.out hs); replace B0 := Lib.hid (B0.out.keep hs B0.out.lt); clear q0 q1 q2; obtain ⟨⟨q0, q1, q2⟩, -, -, -⟩ := dd_all B0.out; clear hs)
      | (go_at_call 10; (with_reducible refine (few_s ts i p n HS.out Hn.out _ HX1.out A k _ (Ha.out.keep H.out)).mono ?_); rintro e wn ⟨rfl, hs⟩; replace H := Lib.hid (Stp.trans H.out hs); replace B0 := Lib.hid (B0.out.keep hs B0.out.lt); clear q0 q1 q2; obtain ⟨⟨q0, q1, q2⟩, -, -, -⟩ := dd_all B0.out; clear hs)
      | (go_at_call 27; (with_reducible refine (HI.out.may ts i p n HD.out Hn.out _ HM.out A k _ (Ha.out.keep H.out)).mono ?_); rintro e wn ⟨rfl, hs⟩; replace H := Lib.hid (Stp.trans H.out hs); replace B0 := Lib.hid (B0.out.keep hs B0.out.lt); clear q0 q1 q2; obtain ⟨⟨q0, q1, q2⟩, -, -, -⟩ := dd_all B0.out; clear hs))
    all_goals go_ret
    all_goals exact ⟨rfl, H.out⟩
set_option maxRecDepth 100000 in
set_option maxHeartbeats 8000000 in
theorem reads_ok (I : DriveI) (hAw : ∀ w : World, Calls Try.prog 9 #[] w fun e w' => e = .returned (.bool true) ∧ Stp w w') (ts : List Tp) (i p : Int) (n : Nat) (hs : SmallD ⟨ts, i, p⟩) (hn : ts.length = n) (A : Option Addr) (k : Nat) (w : World) (ha : RdS w A k ts) (q : Int) (hq0 : -9223372036854775808 ≤ q) (hq1 : q < 9223372036854775808) (u y : Nat) (hqu : q = (u : Int)) (t : Tp) (ht : ts[u]? = some t) (hy : t.rows.length = y) (hx1 : fewDB ts = true) (hM : mayD ⟨ts, i, p⟩ = true) :
    Calls Try.prog 5 #[dc A n k i p, .int .i64 q] w fun e w' => e = .returned (.bool true) ∧ Stp w w' := by
  have HI := Lib.hid I
  have HAw := Lib.hid hAw
  have HS := Lib.hid hs
  have Ha := Lib.hid ha
  have Hn := Lib.hid hn
  have h0 := Stp.alloc (Stp.refl w) (.cells (dcs A n k i p) 24)
  have H := Lib.hid h0
  have B0 := Lib.hid (Blk.new w 24 (dcs A n k i p))
  obtain ⟨⟨q0, q1, q2⟩, -, -, -⟩ := dd_all B0.out
  have HX1 := Lib.hid hx1
  have HM := Lib.hid hM
  have HD := Lib.hid (fewD_of hs hx1)
  have hul := (List.getElem?_eq_some_iff.1 ht).1
  have hun : u < n := by rw [← hn]; exact hul
  have hn9 : n ≤ 1000 := by rw [← hn]; exact HD.out.few
  have hqn : q.toNat = u := by omega
  have hqi0 : 0 ≤ q := by omega
  have hqi1 : q < (n : Int) := by omega
  have hft := HD.out.each t (List.mem_of_getElem? ht)
  have hy9 : y ≤ 1000 := by rw [← hy]; exact hft.few
  have g1 : decide (q < 0) = false := decide_eq_false (by omega)
  have g2 : decide ((n : Int) ≤ q) = false := decide_eq_false (by omega)
  have HV1 : Hid (mountD ⟨ts, i, p⟩ q = (⟨ts, q, 0⟩, 0)) := Lib.hid (by rw [mountD, if_neg (by rw [hM]; simp), if_neg (by dsimp only; rw [hn]; omega)])
  have HMj : Hid (∀ j, j ≤ y → FewD ⟨ts, q, (j : Int)⟩) := Lib.hid (fun j hj => by rw [hqu]; exact few_may (may_pos hM ht (by omega)))
  have HRd : Hid (∀ (j : Nat) (r : L), t.rows[j]? = some r → readD ⟨ts, q, (j : Int)⟩ = (⟨ts, q, (j : Int) + 1⟩, r, 0)) := Lib.hid (fun j r hr => by rw [hqu]; exact read_pos hM ht hr)
  have HRe : Hid (readD ⟨ts, q, (y : Int)⟩ = (⟨ts, q, (y : Int)⟩, [], 8)) := Lib.hid (by rw [hqu]; exact read_end hM ht hy)
  have HRw : Hid (rewindD ⟨ts, q, (y : Int)⟩ = (⟨ts, q, 0⟩, 0)) := Lib.hid (by rw [hqu, rewindD, if_neg (by rw [whyD_may (may_pos hM ht (Nat.le_of_eq hy.symm)) (by dsimp only; omega)]; simp)])
  have Ht := Lib.hid ht
  have Hy := Lib.hid hy
  have Hft := Lib.hid hft
  clear hs ha h0 hAw I hx1 hM ht hy hft hul hqu
  go_enter Try.func5, Try.ntmps5
  go_upto_region 6 with (first
    | (go_at_call 9; refine (HAw.out _).mono ?_; rintro e wn ⟨rfl, hs⟩; replace H := Lib.hid (Stp.trans H.out hs); replace B0 := Lib.hid (B0.out.keep hs B0.out.lt); clear q0 q1 q2; obtain ⟨⟨q0, q1, q2⟩, -, -, -⟩ := dd_all B0.out; clear hs)
    | (go_at_call 10; (with_reducible refine (few_s ts i p n HS.out Hn.out _ HX1.out A k _ (Ha.out.keep H.out)).mono ?_); rintro e wn ⟨rfl, hs⟩; replace H := Lib.hid (Stp.trans H.out hs); replace B0 := Lib.hid (B0.out.keep hs B0.out.lt); clear q0 q1 q2; obtain ⟨⟨q0, q1, q2⟩, -, -, -⟩ := dd_all B0.out; clear hs)
    | (go_at_call 27; (with_reducible refine (HI.out.may ts i p n HD.out Hn.out _ HM.out A k _ (Ha.out.keep H.out)).mono ?_); rintro e wn ⟨rfl, hs⟩; replace H := Lib.hid (Stp.trans H.out hs); replace B0 := Lib.hid (B0.out.keep hs B0.out.lt); clear q0 q1 q2; obtain ⟨⟨q0, q1, q2⟩, -, -, -⟩ := dd_all B0.out; clear hs)
    | (go_at_call 11; (with_reducible refine (HI.out.mount ts i p n HD.out Hn.out q hq0 hq1 ts q 0 n 0 HV1.out Hn.out 0 rfl A k _ (Ha.out.keep H.out)).mono ?_); rintro e w7 ⟨Aw7, kw7, rfl, hr, hs, -⟩; have HW7 := Lib.hid (Nat.lt_of_lt_of_le B0.out.lt hs.size); have hsA := Stp.alloc hs (.cells (dcs Aw7 n kw7 q 0) 24); replace H := Lib.hid (Stp.trans H.out hsA); replace B0 := Lib.hid (B0.out.keep hsA B0.out.lt); have D7 := Lib.hid (Blk.new w7 24 (dcs Aw7 n kw7 q 0)); have CS7 := Lib.hid (ClearS.new (g := w7.heap.size) hr (Stp.alloc (Stp.refl w7) (.cells (dcs Aw7 n kw7 q 0) 24)) (Nat.le_refl _)); have RD7 := Lib.hid (hr.keep (Stp.alloc (Stp.refl w7) (.cells (dcs Aw7 n kw7 q 0) 24))); clear q0 q1 q2; obtain ⟨⟨q0, q1, q2⟩, -, -, -⟩ := dd_all B0.out; obtain ⟨⟨aa0, aa1, aa2⟩, -, -, -⟩ := dd_all D7.out; clear hr hs hsA))
  obtain ⟨bX, oX, AX, kX, rfl, tx⟩ := tp_at Ha.out Ht.out Hy.out
  have TX := Lib.hid tx
  clear tx
  obtain ⟨W, hW⟩ : ∃ z, w7.alloc (.cells (dcs Aw7 n kw7 q 0) 24) = z := ⟨_, rfl⟩
  rw [hW] at H B0 D7 RD7 CS7 q0 q1 q2 aa0 aa1 aa2 ⊢
  obtain ⟨g, hg⟩ : ∃ x, w7.heap.size = x := ⟨_, rfl⟩
  rw [hg] at D7 CS7 aa0 aa1 aa2 ⊢
  have hB7 : w.heap.size + 1 ≤ g := by
    rw [← hg]
    exact HW7.out
  clear hW hg
  go_wp2
  clear q0 q1 q2 aa0 aa1 aa2
  go_loopw [9] (fun kv wr => ∃ j : Nat, j ≤ y ∧ kv = .int .i64 (j : Int) ∧ Hid (∃ A9 k9, Blk wr g 24 (dcs A9 n k9 q (j : Int)) ∧ ClearS g wr A9 k9 ts) ∧ Hid (Below g W wr)) (fun kv _ => y - (intOf kv).toNat)
  case atStart => exact ⟨0, by omega, rfl, Lib.hid ⟨_, _, D7.out, CS7.out⟩, Lib.hid (Below.refl _ _)⟩
  case round =>
    obtain ⟨j, hj, rfl, HL, HB⟩ := hrel
    obtain ⟨A9, k9, hD9, hC9⟩ := HL.out
    have D9 := Lib.hid hD9
    have C9 := Lib.hid hC9
    have HS := Lib.hid (show Stp w wr from Below.trans H.out (Below.mono HB.out (by omega)))
    have B9 := Lib.hid (B0.out.keep HB.out (by omega))
    have RD9 := Lib.hid hC9.rd
    obtain ⟨⟨q0, q1, q2⟩, -, -, -⟩ := dd_all B9.out
    obtain ⟨⟨aa0, aa1, aa2⟩, aa3, aa4, aa5⟩ := dd_all hD9
    obtain ⟨-, x0, x1, x2, rx⟩ := TX.out.keep HS.out
    clear HL hD9 hC9
    by_cases hlt : j < y
    · obtain ⟨r, hr1⟩ : ∃ r, t.rows[j]? = some r := ⟨_, List.getElem?_eq_getElem (by rw [Hy.out]; exact hlt)⟩
      obtain ⟨l, hl⟩ : ∃ l, r.length = l := ⟨_, rfl⟩
      have g5 : decide ((j : Int) < (y : Int)) = true := decide_eq_true (by omega)
      obtain ⟨bY, oY, AY, cY, eY, cellY, ra⟩ := rx.at_ hr1
      have Ra := Lib.hid ra
      have Hl := Lib.hid hl
      have Hr1 := Lib.hid hr1
      subst eY
      clear rx ra hr1 hl x0 x1 x2 cellY
      obtain ⟨-, x0, x1, x2, rx⟩ := TX.out.keep HS.out
      have RX := Lib.hid rx
      clear rx
      go_wp2_with (go_at_call 21; (with_reducible refine (HI.out.read ts q (j : Int) n (HMj.out j hj) Hn.out ts q ((j : Int) + 1) r n l 0 (HRd.out j r Hr1.out) Hn.out Hl.out 0 rfl A9 k9 _ RD9.out).mono ?_); rintro e w10 ⟨A10, k10, B10, d10, rfl, hr, hx, hs, hc⟩; have hsA := Stp.alloc hs (.cells (dcs A10 n k10 q ((j : Int) + 1)) 24); have HsA := Lib.hid hsA; have D10 := Lib.hid (Blk.new w10 24 (dcs A10 n k10 q ((j : Int) + 1))); have C10 := Lib.hid ((hc g D9.out.lt C9.out).1.keep (Stp.alloc (Stp.refl w10) (.cells (dcs A10 n k10 q ((j : Int) + 1)) 24))); have RX10 := Lib.hid (hx.keep (Stp.alloc (Stp.refl w10) (.cells (dcs A10 n k10 q ((j : Int) + 1)) 24))); have B10' := Lib.hid (B9.out.keep hsA B9.out.lt); have D9' := Lib.hid (D9.out.keep hsA D9.out.lt); have TX10 := Lib.hid (TX.out.keep (Stp.trans HS.out hsA)); clear hr hx hs hc hsA q0 q1 q2 aa0 aa1 aa2 aa3 aa4 aa5 x0 x1 x2)
      obtain ⟨X, hX⟩ : ∃ z, w10.alloc (.cells (dcs A10 n k10 q ((j : Int) + 1)) 24) = z := ⟨_, rfl⟩
      rw [hX] at HsA D10 C10 RX10 B10' D9' TX10 ⊢
      obtain ⟨PX, hPX⟩ : ∃ z, w10.heap.size = z := ⟨_, rfl⟩
      rw [hPX] at D10 ⊢
      clear hX hPX
      obtain ⟨⟨q0, q1, q2⟩, -, -, -⟩ := dd_all B10'.out
      obtain ⟨⟨aa0, aa1, aa2⟩, -, -, -⟩ := dd_all D9'.out
      obtain ⟨⟨ab0, ab1, ab2⟩, -, -, -⟩ := dd_all D10.out
      obtain ⟨-, x0, x1, x2, rx⟩ := TX10.out
      obtain ⟨bZ, oZ, AZ, cZ, eZ, cellZ, rz⟩ := rx.at_ Hr1.out
      cases eZ
      rw [Hl.out] at cellZ
      have cv1 : ∀ g, (convert 25 9 (.slice B10 l d10)).run Try.prog (X.drewN g) = .ok (.string ⟨r.toArray⟩) (X.drewN g) := fun g => str_n Hl.out (RX10.out.keep (Stp.drewN (Stp.refl X) g))
      have RZ := Lib.hid rz
      have cv2 : ∀ g, (convert 25 9 (.slice AZ l cZ)).run Try.prog (X.drewN g) = .ok (.string ⟨r.toArray⟩) (X.drewN g) := fun g => str_n Hl.out (RZ.out.keep (Stp.drewN (Stp.refl X) g))
      have g9 : ((j : Int) + 1 != (j : Int) + 1) = false := by simp
      clear rx rz
      go_quiet (fail)
      have Xn := Lib.hid (show Stp X (X.drewN nq) from Stp.drewN (Stp.refl X) nq)
      have D9n := Lib.hid (D9'.out.keep Xn.out D9'.out.lt)
      have D10n := Lib.hid (D10.out.keep Xn.out D10.out.lt)
      have Cn := Lib.hid (C10.out.keep Xn.out)
      have HBn := Lib.hid (show Below g W (X.drewN nq) from Below.trans HB.out (Below.mono (Stp.trans HsA.out Xn.out) (Nat.le_of_lt D9.out.lt)))
      clear q0 q1 q2 aa0 aa1 aa2 ab0 ab1 ab2 x0 x1 x2 cellZ cv1 cv2
      generalize X.drewN nq = Y at Xn D9n D10n Cn HBn ⊢
      obtain ⟨⟨aa0, aa1, aa2⟩, aa3, aa4, aa5⟩ := dd_all D9n.out
      obtain ⟨⟨ab0, ab1, ab2⟩, -, -, -⟩ := dd_all D10n.out
      have e1 : ((j + 1 : Nat) : Int) = (j : Int) + 1 := by omega
      have F1 := Lib.hid (filld_blk A10 n k10 q ((j : Int) + 1) D9n.out)
      have F2 := Lib.hid (Cn.out.fill A10 n k10 q ((j : Int) + 1))
      have F3 := Lib.hid (show Below g W (fillD Y g A10 n k10 q ((j : Int) + 1)) from Below.setCell (Below.setCell (Below.setCell HBn.out (p := ⟨g, 0, none⟩) (Nat.le_refl _) _) (p := ⟨g, 1, none⟩) (Nat.le_refl _) _) (p := ⟨g, 2, none⟩) (Nat.le_refl _) _)
      rw [← e1] at F1 F2 F3
      go_wp2_with fail
      rw [e1] at F1 F2 F3
      refine ⟨⟨j + 1, by omega, by go_num, Lib.hid ⟨A10, k10, by rw [e1]; exact F1.out, F2.out⟩, F3⟩, ?_⟩
      simp [intOf]
      omega
    · obtain rfl : j = y := by omega
      have g5 : decide ((j : Int) < (j : Int)) = false := decide_eq_false (by omega)
      have H := HS
      have LE : Hid (([] : L).length = 0) := Lib.hid rfl
      have HM0 : Hid (FewD ⟨ts, q, 0⟩) := Lib.hid (HMj.out 0 (Nat.zero_le _))
      clear aa3 aa4 aa5
      go_wp2_with (first
        | (go_at_call 21; (with_reducible refine (HI.out.read ts q (j : Int) n (HMj.out j (Nat.le_refl _)) Hn.out ts q (j : Int) [] n 0 8 HRe.out Hn.out LE.out 8 rfl A9 k9 _ RD9.out).mono ?_); rintro e w13 ⟨Aw13, kw13, B13, d13, rfl, hr, hx, hs, -⟩; have hsA := Stp.alloc hs (.cells (dcs Aw13 n kw13 q (j : Int)) 24); replace H := Lib.hid (Stp.trans H.out hsA); replace B9 := Lib.hid (B9.out.keep hsA B9.out.lt); replace D9 := Lib.hid (D9.out.keep hsA D9.out.lt); replace RD9 := Lib.hid (RD9.out.keep hsA); have D13 := Lib.hid (Blk.new w13 24 (dcs Aw13 n kw13 q (j : Int))); have RD13 := Lib.hid (hr.keep (Stp.alloc (Stp.refl w13) (.cells (dcs Aw13 n kw13 q (j : Int)) 24))); have RX13 := Lib.hid (hx.keep (Stp.alloc (Stp.refl w13) (.cells (dcs Aw13 n kw13 q (j : Int)) 24))); clear q0 q1 q2; obtain ⟨⟨q0, q1, q2⟩, -, -, -⟩ := dd_all B9.out; clear aa0 aa1 aa2; obtain ⟨⟨aa0, aa1, aa2⟩, -, -, -⟩ := dd_all D9.out; obtain ⟨⟨ab0, ab1, ab2⟩, -, -, -⟩ := dd_all D13.out; clear hr hs hsA hx)
        | (go_at_call 15; (with_reducible refine (HI.out.rewind ts q (j : Int) n (HMj.out j (Nat.le_refl _)) Hn.out ts q 0 n 0 HRw.out Hn.out 0 rfl _ _ _ RD13.out).mono ?_); rintro e w16 ⟨Aw16, kw16, rfl, hr, hs, -⟩; have hsA := Stp.alloc hs (.cells (dcs Aw16 n kw16 q 0) 24); replace H := Lib.hid (Stp.trans H.out hsA); replace B9 := Lib.hid (B9.out.keep hsA B9.out.lt); replace D9 := Lib.hid (D9.out.keep hsA D9.out.lt); replace D13 := Lib.hid (D13.out.keep hsA D13.out.lt); replace RD9 := Lib.hid (RD9.out.keep hsA); replace RD13 := Lib.hid (RD13.out.keep hsA); replace RX13 := Lib.hid (RX13.out.keep hsA); have D16 := Lib.hid (Blk.new w16 24 (dcs Aw16 n kw16 q 0)); have RD16 := Lib.hid (hr.keep (Stp.alloc (Stp.refl w16) (.cells (dcs Aw16 n kw16 q 0) 24))); clear q0 q1 q2; obtain ⟨⟨q0, q1, q2⟩, -, -, -⟩ := dd_all B9.out; clear aa0 aa1 aa2; obtain ⟨⟨aa0, aa1, aa2⟩, -, -, -⟩ := dd_all D9.out; clear ab0 ab1 ab2; obtain ⟨⟨ab0, ab1, ab2⟩, -, -, -⟩ := dd_all D13.out; obtain ⟨⟨ac0, ac1, ac2⟩, -, -, -⟩ := dd_all D16.out; clear hr hs hsA)
        | (go_at_call 11; (with_reducible refine (HI.out.mount ts i p n HD.out Hn.out q hq0 hq1 ts q 0 n 0 HV1.out Hn.out 0 rfl _ k _ (Ha.out.keep H.out)).mono ?_); rintro e w18 ⟨Aw18, kw18, rfl, hr, hs, -⟩; have hsA := Stp.alloc hs (.cells (dcs Aw18 n kw18 q 0) 24); replace H := Lib.hid (Stp.trans H.out hsA); replace B9 := Lib.hid (B9.out.keep hsA B9.out.lt); replace D9 := Lib.hid (D9.out.keep hsA D9.out.lt); replace D13 := Lib.hid (D13.out.keep hsA D13.out.lt); replace D16 := Lib.hid (D16.out.keep hsA D16.out.lt); replace RD9 := Lib.hid (RD9.out.keep hsA); replace RD13 := Lib.hid (RD13.out.keep hsA); replace RX13 := Lib.hid (RX13.out.keep hsA); replace RD16 := Lib.hid (RD16.out.keep hsA); have D18 := Lib.hid (Blk.new w18 24 (dcs Aw18 n kw18 q 0)); have RD18 := Lib.hid (hr.keep (Stp.alloc (Stp.refl w18) (.cells (dcs Aw18 n kw18 q 0) 24))); clear q0 q1 q2; obtain ⟨⟨q0, q1, q2⟩, -, -, -⟩ := dd_all B9.out; clear aa0 aa1 aa2; obtain ⟨⟨aa0, aa1, aa2⟩, -, -, -⟩ := dd_all D9.out; clear ab0 ab1 ab2; obtain ⟨⟨ab0, ab1, ab2⟩, -, -, -⟩ := dd_all D13.out; clear ac0 ac1 ac2; obtain ⟨⟨ac0, ac1, ac2⟩, -, -, -⟩ := dd_all D16.out; obtain ⟨⟨ad0, ad1, ad2⟩, -, -, -⟩ := dd_all D18.out; clear hr hs hsA)
        | (go_at_call 28; (with_reducible refine (HI.out.same ts q (j : Int) n (HMj.out j (Nat.le_refl _)) Hn.out ts q (j : Int) n (HMj.out j (Nat.le_refl _)) Hn.out true (by simp) _ _ _ _ _ RD13.out RD9.out).mono ?_); rintro e wn ⟨rfl, hs⟩; replace H := Lib.hid (Stp.trans H.out hs); replace B9 := Lib.hid (B9.out.keep hs B9.out.lt); replace D9 := Lib.hid (D9.out.keep hs D9.out.lt); replace D13 := Lib.hid (D13.out.keep hs D13.out.lt); replace D16 := Lib.hid (D16.out.keep hs D16.out.lt); replace D18 := Lib.hid (D18.out.keep hs D18.out.lt); replace RD9 := Lib.hid (RD9.out.keep hs); replace RD13 := Lib.hid (RD13.out.keep hs); replace RX13 := Lib.hid (RX13.out.keep hs); replace RD16 := Lib.hid (RD16.out.keep hs); replace RD18 := Lib.hid (RD18.out.keep hs); clear q0 q1 q2; obtain ⟨⟨q0, q1, q2⟩, -, -, -⟩ := dd_all B9.out; clear aa0 aa1 aa2; obtain ⟨⟨aa0, aa1, aa2⟩, -, -, -⟩ := dd_all D9.out; clear ab0 ab1 ab2; obtain ⟨⟨ab0, ab1, ab2⟩, -, -, -⟩ := dd_all D13.out; clear ac0 ac1 ac2; obtain ⟨⟨ac0, ac1, ac2⟩, -, -, -⟩ := dd_all D16.out; clear ad0 ad1 ad2; obtain ⟨⟨ad0, ad1, ad2⟩, -, -, -⟩ := dd_all D18.out; clear hs)
        | (go_at_call 28; (with_reducible refine (HI.out.same ts q 0 n HM0.out Hn.out ts q 0 n HM0.out Hn.out true (by simp) _ _ _ _ _ RD16.out RD18.out).mono ?_); rintro e wn ⟨rfl, hs⟩; replace H := Lib.hid (Stp.trans H.out hs); replace B9 := Lib.hid (B9.out.keep hs B9.out.lt); replace D9 := Lib.hid (D9.out.keep hs D9.out.lt); replace D13 := Lib.hid (D13.out.keep hs D13.out.lt); replace D16 := Lib.hid (D16.out.keep hs D16.out.lt); replace D18 := Lib.hid (D18.out.keep hs D18.out.lt); replace RD9 := Lib.hid (RD9.out.keep hs); replace RD13 := Lib.hid (RD13.out.keep hs); replace RX13 := Lib.hid (RX13.out.keep hs); replace RD16 := Lib.hid (RD16.out.keep hs); replace RD18 := Lib.hid (RD18.out.keep hs); clear q0 q1 q2; obtain ⟨⟨q0, q1, q2⟩, -, -, -⟩ := dd_all B9.out; clear aa0 aa1 aa2; obtain ⟨⟨aa0, aa1, aa2⟩, -, -, -⟩ := dd_all D9.out; clear ab0 ab1 ab2; obtain ⟨⟨ab0, ab1, ab2⟩, -, -, -⟩ := dd_all D13.out; clear ac0 ac1 ac2; obtain ⟨⟨ac0, ac1, ac2⟩, -, -, -⟩ := dd_all D16.out; clear ad0 ad1 ad2; obtain ⟨⟨ad0, ad1, ad2⟩, -, -, -⟩ := dd_all D18.out; clear hs))
      all_goals go_ret
      all_goals exact ⟨rfl, H.out⟩
theorem reads_walk (I : DriveI) (hAw : ∀ w : World, Calls Try.prog 9 #[] w fun e w' => e = .returned (.bool true) ∧ Stp w w') (d : Dr) (hs : SmallD d) (n : Nat) (hn : d.shelf.length = n) (A : Option Addr) (k : Nat) (w : World) (ha : RdS w A k d.shelf) (q : Int) (hq0 : -9223372036854775808 ≤ q) (hq1 : q < 9223372036854775808) :
    Calls Try.prog 5 #[dc A n k d.inn d.pos, .int .i64 q] w fun e w' => e = .returned (.bool true) ∧ Stp w w' := by
  obtain ⟨ts, i, p⟩ := d
  cases hF : fewDB ts
  · exact reads_no I hAw ts i p n hs hn A k w ha q hq0 hq1 hF
  · cases hM : mayD ⟨ts, i, p⟩
    · exact reads_may I hAw ts i p n hs hn A k w ha q hq0 hq1 hF hM
    · by_cases h : q < 0 ∨ (n : Int) ≤ q
      · exact reads_out I hAw ts i p n hs hn A k w ha q hq0 hq1 hF hM h
      · obtain ⟨t, ht⟩ : ∃ t, ts[q.toNat]? = some t := ⟨_, List.getElem?_eq_getElem (by have : ts.length = n := hn; omega)⟩
        exact reads_ok I hAw ts i p n hs hn A k w ha q hq0 hq1 q.toNat _ (by omega) t ht rfl hF hM
end Go.Proofs.Ytaknnkcfoafkdaa.Drive
