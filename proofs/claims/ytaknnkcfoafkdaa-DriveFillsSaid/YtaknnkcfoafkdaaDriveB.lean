/-
  The statements' helper Few of drives, and what the walks of the laws share: no statement is proved here.
-/
import Derived.Test.YtaknnkcfoafkdaaDriveI
import Derived.Test.YtaknnkcfoafkdaaTapeB
namespace Go.Proofs.Ytaknnkcfoafkdaa.Drive
open Go.RowKit Go.Proofs.Ytaknnkcfoafkdaa.Str Go.Proofs.Ytaknnkcfoafkdaa.Base Go.Proofs.Ytaknnkcfoafkdaa.BlockM Go.Proofs.Ytaknnkcfoafkdaa.RecM Go.Proofs.Ytaknnkcfoafkdaa.TapeM Go.Proofs.Ytaknnkcfoafkdaa.Tape Go.Proofs.Ytaknnkcfoafkdaa.DriveM

def fewT1 (t : Tp) : Bool := Rec.fewR t.rows && decide (t.rows.length ≤ 30)
/-- At most 15 tapes, of at most 30 records each. -/
def fewDB (ts : List Tp) : Bool := decide (ts.length ≤ 15) && ts.all fewT1
theorem fewDB_iff {ts : List Tp} : fewDB ts = true ↔ ts.length ≤ 15 ∧ ∀ t ∈ ts, fewT1 t = true := by simp [fewDB]
theorem fewD_of {ts : List Tp} {i p : Int} (hs : SmallD ⟨ts, i, p⟩) (h : fewDB ts = true) : FewD ⟨ts, i, p⟩ := by
  obtain ⟨h1, h2⟩ := fewDB_iff.1 h
  refine ⟨hs.ilow, hs.ihigh, hs.plow, hs.phigh, by dsimp only; omega, fun t ht => ?_⟩
  have h3 := h2 t ht
  rw [fewT1, Bool.and_eq_true] at h3
  have h4 := hs.each t ht
  exact few_of (c := t.cap) (ls := t.rows) (m := t.mark) h4 h3.1

set_option maxRecDepth 100000 in
set_option maxHeartbeats 2000000 in
theorem few_s (ts : List Tp) (i p : Int) (n : Nat) (hs : SmallD ⟨ts, i, p⟩) (hn : ts.length = n) (b : Bool) (hb : fewDB ts = b) (A : Option Addr) (k : Nat) (w : World) (ha : RdS w A k ts) :
    Calls Try.prog 10 #[dc A n k i p] w fun e w' => e = .returned (.bool b) ∧ Stp w w' := by
  have Ha := Lib.hid ha
  have F := Lib.hid hs.each
  have Hn := Lib.hid hn
  have hn9 := hs.few
  dsimp only at hn9
  rw [hn] at hn9
  have H0 := Lib.hid (Stp.alloc (Stp.refl w) (.cells (dcs A n k i p) 24))
  have B0 := Lib.hid (Blk.new w 24 (dcs A n k i p))
  obtain ⟨⟨q0, q1, q2⟩, -, -, -⟩ := dd_all B0.out
  have Hb := Lib.hid hb
  clear ha hs hn hb
  go_enter Try.func10, Try.ntmps10
  go_wp2_with fail
  clear q0 q1 q2
  go_loopw [3] (fun iv wr => ∃ j : Nat, j ≤ n ∧ j ≤ 16 ∧ iv = .int .i64 (j : Int) ∧ Hid (Stp (w.alloc (.cells (dcs A n k i p) 24)) wr) ∧ Hid (∀ x ∈ ts.take j, fewT1 x = true)) (fun iv _ => 17 - (intOf iv).toNat)
  case atStart => exact ⟨0, by omega, by omega, rfl, Lib.hid (Stp.refl _), Lib.hid (by simp)⟩
  case round =>
    obtain ⟨j, hj, hj6, rfl, HS, Hk⟩ := hrel
    have HB := Lib.hid (B0.out.keep HS.out B0.out.lt)
    obtain ⟨⟨q0, q1, q2⟩, -, -, -⟩ := dd_all HB.out
    by_cases hlt : j < n ∧ j ≤ 15
    · obtain ⟨t, ht1⟩ : ∃ t, ts[j]? = some t := ⟨_, List.getElem?_eq_getElem (by rw [Hn.out]; exact hlt.1)⟩
      obtain ⟨bb, oo, Aj, kj, rfl, c0, c1, c2, ra⟩ := (Ha.out.keep (Stp.trans H0.out HS.out)).at_ ht1
      have hst := F.out t (List.mem_of_getElem? ht1)
      obtain ⟨y, hy⟩ : ∃ y, t.rows.length = y := ⟨_, rfl⟩
      have hy9 : y < 9223372036854775808 := by rw [← hy]; exact hst.few
      rw [hy] at c1
      have Hy := Lib.hid hy
      have Ht1 := Lib.hid ht1
      have Ra := Lib.hid ra
      have HE := Lib.hid hst.each
      obtain ⟨hlt1, hlt2⟩ := hlt
      obtain ⟨x1, hx1⟩ : ∃ x, Rec.fewR t.rows = x := ⟨_, rfl⟩
      have HX := Lib.hid hx1
      have bad : ∀ (h : ¬ (x1 = true ∧ y ≤ 30)), b = false := by
        intro h
        rw [← Hb.out, Bool.eq_false_iff]
        intro h2
        have h3 := (fewDB_iff.1 h2).2 t (List.mem_of_getElem? Ht1.out)
        rw [fewT1, HX.out, Bool.and_eq_true, decide_eq_true_eq, Hy.out] at h3
        exact h h3
      have Bad := Lib.hid bad
      clear ht1 hy ra hst hx1 bad
      by_cases hok : x1 = true ∧ y ≤ 30
      · obtain ⟨rfl, hy30⟩ := hok
        have g1 : decide ((30 : Int) < (y : Int)) = false := decide_eq_false (by omega)
        go_wp2_with (go_at_call 32; refine (Rec.fewr_n t.rows y Hy.out Aj kj _ Ra.out hy9 HE.out).mono ?_; rintro e wn ⟨rfl, hs⟩; rw [HX.out]; have HS2 := Lib.hid (Stp.trans HS.out hs); have HB2 := Lib.hid (HB.out.keep hs HB.out.lt); have hcl : bb < wr.heap.size := World.block_lt_of_cell? wr _ c0; have d1 := (hs.cell (p := ⟨bb, oo + j * 3 + 1, none⟩) hcl).trans c1; clear hs q0 q1 q2; obtain ⟨⟨q0, q1, q2⟩, -, -, -⟩ := dd_all HB2.out)
        go_roundw
        case rel =>
          refine ⟨j + 1, by omega, by omega, by go_num, HS2, Lib.hid fun x hx => ?_⟩
          rw [List.take_add_one, Ht1.out] at hx
          rcases List.mem_append.1 hx with h | h
          · exact Hk.out x h
          · simp at h
            rw [h, fewT1, HX.out, Hy.out, decide_eq_true hy30]
            rfl
        case measure => simp [intOf]; omega
      · have e := Bad.out hok
        subst e
        cases x1
        · go_wp2_with (go_at_call 32; refine (Rec.fewr_n t.rows y Hy.out Aj kj _ Ra.out hy9 HE.out).mono ?_; rintro e wn ⟨rfl, hs⟩; rw [HX.out]; have HS2 := Lib.hid (Stp.trans HS.out hs); clear hs)
          go_ret
          exact ⟨rfl, Stp.trans H0.out HS2.out⟩
        · have g1 : decide ((30 : Int) < (y : Int)) = true := decide_eq_true (by simp at hok; omega)
          clear hok
          go_wp2_with (go_at_call 32; refine (Rec.fewr_n t.rows y Hy.out Aj kj _ Ra.out hy9 HE.out).mono ?_; rintro e wn ⟨rfl, hs⟩; rw [HX.out]; have HS2 := Lib.hid (Stp.trans HS.out hs); have HB2 := Lib.hid (HB.out.keep hs HB.out.lt); have hcl : bb < wr.heap.size := World.block_lt_of_cell? wr _ c0; have d1 := (hs.cell (p := ⟨bb, oo + j * 3 + 1, none⟩) hcl).trans c1; clear hs q0 q1 q2; obtain ⟨⟨q0, q1, q2⟩, -, -, -⟩ := dd_all HB2.out)
          go_ret
          exact ⟨rfl, Stp.trans H0.out HS2.out⟩
    · by_cases h15 : 15 < n
      · obtain rfl : j = 16 := by omega
        have e : b = false := by
          rw [← Hb.out, Bool.eq_false_iff]
          intro h
          have := (fewDB_iff.1 h).1
          rw [Hn.out] at this
          omega
        subst e
        have g1 : decide ((n : Int) ≤ 15) = false := decide_eq_false (by omega)
        clear hlt
        go_wp2_with fail
        all_goals go_ret
        all_goals exact ⟨rfl, Stp.trans H0.out HS.out⟩
      · obtain rfl : j = n := by omega
        have hall : b = true := by
          rw [← Hb.out, fewDB_iff, Hn.out]
          have h := Hk.out
          rw [List.take_of_length_le (by rw [Hn.out]; exact Nat.le_refl _)] at h
          exact ⟨by omega, h⟩
        subst hall
        have g1 : decide ((j : Int) ≤ 15) = true := decide_eq_true (by omega)
        clear hlt
        go_wp2_with fail
        all_goals go_ret
        all_goals exact ⟨rfl, Stp.trans H0.out HS.out⟩
end Go.Proofs.Ytaknnkcfoafkdaa.Drive
