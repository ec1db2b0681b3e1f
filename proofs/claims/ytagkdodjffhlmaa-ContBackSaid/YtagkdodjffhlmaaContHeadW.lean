/-
  The law ContHead, walked over the contracts: no statement is proved here.
-/
import Derived.Test.YtagkdodjffhlmaaContI
import Derived.Test.YtagkdodjffhlmaaHeadGet
import Derived.Deep.Cut
namespace Go.Proofs.Ytagkdodjffhlmaa.Cont
open Go.RowKit Go.Proofs.Ytagkdodjffhlmaa.Str Go.Proofs.Ytagkdodjffhlmaa.Base Go.Proofs.Ytagkdodjffhlmaa.Node Go.Proofs.Ytagkdodjffhlmaa.Head Go.Proofs.Ytagkdodjffhlmaa.Long Go.Proofs.Ytagkdodjffhlmaa.ContM
open Go.Proofs.Ytagkdodjffhlmaa.Tree (oneB)
set_option linter.unusedVariables false

set_option maxRecDepth 100000 in
set_option maxHeartbeats 4000000 in
theorem head_out (I : ContI) (n : Nd) (hn : SmallN n) (off : Int) (w : World) (hout : fewN n = false ∨ mayC n off = false) :
    Calls Try.prog 4 #[nv n, .int .i64 off] w fun e w' => e = .returned (.bool true) ∧ Stp w w' := by
  have h0 := Lib.hid (Stp.alloc (Stp.refl w) (.cells (ncells n) 23))
  have Hb := Lib.hid (Blk.new w 23 (ncells n))
  obtain ⟨q0, q1, q2, q3, q4, q5, q6, q7⟩ := nd_cells Hb.out
  have HI := Lib.hid I
  have HA := Lib.hid (awake_s I)
  have Hn := Lib.hid hn
  obtain ⟨b1, hf1⟩ : ∃ b, fewN n = b := ⟨_, rfl⟩
  have key : b1 = false ∨ (b1 = true ∧ Hid (mayC n off = false)) := by
    rw [hf1] at hout
    cases b1
    · exact .inl rfl
    · exact .inr ⟨rfl, Lib.hid (hout.resolve_left (by simp))⟩
  have F1 := Lib.hid hf1
  clear I hn hf1 hout
  rcases key with rfl | ⟨rfl, Hm⟩
  · go_enter Try.func4, Try.ntmps4
    go_wp2_with (first
      | (go_at_call 8; refine (HA.out _).mono ?_; rintro e w1 ⟨rfl, hs⟩; replace h0 := Lib.hid (Stp.trans h0.out hs); replace Hb := Lib.hid (Hb.out.keep hs Hb.out.lt); clear hs q0 q1 q2 q3 q4 q5 q6 q7; obtain ⟨q0, q1, q2, q3, q4, q5, q6, q7⟩ := nd_cells Hb.out)
      | (go_at_call 9; (with_reducible refine (Long.few_s n _).mono ?_); rintro e w2 ⟨rfl, hs⟩; rw [F1.out]; replace h0 := Lib.hid (Stp.trans h0.out hs); clear hs q0 q1 q2 q3 q4 q5 q6 q7))
    go_ret
    exact ⟨rfl, h0.out⟩
  · have HP : Hid (putC n off = []) := Lib.hid (putC_no Hm.out)
    go_enter Try.func4, Try.ntmps4
    go_wp2_with (first
      | (go_at_call 8; refine (HA.out _).mono ?_; rintro e w1 ⟨rfl, hs⟩; replace h0 := Lib.hid (Stp.trans h0.out hs); replace Hb := Lib.hid (Hb.out.keep hs Hb.out.lt); clear hs q0 q1 q2 q3 q4 q5 q6 q7; obtain ⟨q0, q1, q2, q3, q4, q5, q6, q7⟩ := nd_cells Hb.out)
      | (go_at_call 9; (with_reducible refine (Long.few_s n _).mono ?_); rintro e w2 ⟨rfl, hs⟩; rw [F1.out]; replace h0 := Lib.hid (Stp.trans h0.out hs); replace Hb := Lib.hid (Hb.out.keep hs Hb.out.lt); clear hs q0 q1 q2 q3 q4 q5 q6 q7; obtain ⟨q0, q1, q2, q3, q4, q5, q6, q7⟩ := nd_cells Hb.out)
      | (go_at_call 10; (with_reducible refine (HI.out.put n _ rfl Hn.out off [] HP.out 0 rfl false Hm.out _).mono ?_); rintro e w4 ⟨A4, c4, rfl, hr, hs⟩; replace h0 := Lib.hid (Stp.trans h0.out hs); clear hr hs q0 q1 q2 q3 q4 q5 q6 q7))
    go_ret
    exact ⟨rfl, h0.out⟩
set_option maxRecDepth 100000 in
set_option maxHeartbeats 4000000 in
theorem head_in (I : ContI) (n : Nd) (hn : SmallN n) (off : Int) (w : World) (hf : fewN n = true) (hm : mayC n off = true) :
    Calls Try.prog 4 #[nv n, .int .i64 off] w fun e w' => e = .returned (.bool true) ∧ Stp w w' := by
  have h0 := Lib.hid (Stp.alloc (Stp.refl w) (.cells (ncells n) 23))
  have Hb := Lib.hid (Blk.new w 23 (ncells n))
  obtain ⟨q0, q1, q2, q3, q4, q5, q6, q7⟩ := nd_cells Hb.out
  have HI := Lib.hid I
  have HA := Lib.hid (awake_s I)
  have Hn := Lib.hid hn
  obtain ⟨-, g1, g2, -⟩ := mayC_iff.1 hm
  have g3 := (fewN_iff.1 hf).2.2
  have g4 : (n.data.length : Int) ≤ 5000 := by omega
  obtain ⟨e1, e2⟩ := getH_put hm
  obtain ⟨B, hB⟩ : ∃ B, blk (headC n off) = B := ⟨_, rfl⟩
  rw [hB] at e1 e2
  obtain ⟨P, hP⟩ : ∃ P, putC n off = P := ⟨_, rfl⟩
  have hP2 := putC_yes hm
  rw [hP, hB] at hP2
  have key : (P.length = 1 ∧ P[0]? = some B) ∨ (P.length = 3 ∧ P[2]? = some B) := by
    rw [hP2, aheadC]
    by_cases h : 100 < n.path.length
    · rw [if_pos h]
      exact .inr ⟨rfl, rfl⟩
    · rw [if_neg h]
      exact .inl ⟨rfl, rfl⟩
  have key2 : (Hid (P.length = 1) ∧ Hid (P[0]? = some B)) ∨ (Hid (P.length = 3) ∧ Hid (P[2]? = some B)) := key.imp (fun h => ⟨Lib.hid h.1, Lib.hid h.2⟩) (fun h => ⟨Lib.hid h.1, Lib.hid h.2⟩)
  have F1 := Lib.hid hf
  have Hm := Lib.hid hm
  have HP := Lib.hid hP
  have E1 := Lib.hid e1
  have E2 := Lib.hid e2
  clear I hn hf hm hP hP2 key e1 e2 hB g3
  rcases key2 with ⟨Hz, HB⟩ | ⟨Hz, HB⟩
  all_goals
    go_enter Try.func4, Try.ntmps4
    go_upto_region 9 with (first
      | (go_at_call 8; refine (HA.out _).mono ?_; rintro e w1 ⟨rfl, hs⟩; replace h0 := Lib.hid (Stp.trans h0.out hs); replace Hb := Lib.hid (Hb.out.keep hs Hb.out.lt); clear hs q0 q1 q2 q3 q4 q5 q6 q7; obtain ⟨q0, q1, q2, q3, q4, q5, q6, q7⟩ := nd_cells Hb.out)
      | (go_at_call 9; (with_reducible refine (Long.few_s n _).mono ?_); rintro e w2 ⟨rfl, hs⟩; rw [F1.out]; replace h0 := Lib.hid (Stp.trans h0.out hs); replace Hb := Lib.hid (Hb.out.keep hs Hb.out.lt); clear hs q0 q1 q2 q3 q4 q5 q6 q7; obtain ⟨q0, q1, q2, q3, q4, q5, q6, q7⟩ := nd_cells Hb.out)
      | (go_at_call 10; (with_reducible refine (HI.out.put n _ rfl Hn.out off P HP.out _ Hz.out true Hm.out _).mono ?_); rintro e w4 ⟨A4, c4, rfl, hr, hs⟩; replace h0 := Lib.hid (Stp.trans h0.out hs); replace Hb := Lib.hid (Hb.out.keep hs Hb.out.lt); obtain ⟨bb, oo, A1, c1, rfl, hc1, hR1⟩ := hr.at_ HB.out; have HR1 := Lib.hid hR1; (try replace hc1 : w4.cell? ⟨bb, oo, none⟩ = some (.slice A1 B.length c1) := hc1); clear hr hs hR1 q0 q1 q2 q3 q4 q5 q6 q7)
      | (go_at_call 15; refine (hget_s B A1 c1 _ HR1.out).mono ?_; rintro e w5 ⟨rfl, hs⟩; rw [E1.out, E2.out]; replace hs := Stp.alloc hs (.cells (hcells (headC n off)) 36); have hk := Blk.new w5 36 (hcells (headC n off)); replace h0 := Lib.hid (Stp.trans h0.out hs); replace Hb := Lib.hid (Hb.out.keep hs Hb.out.lt); clear hs hc1))
    obtain ⟨gh, hgh⟩ : ∃ x, w5.heap.size = x := ⟨_, rfl⟩
    obtain ⟨W, hW⟩ : ∃ z, w5.alloc (.cells (hcells (headC n off)) 36) = z := ⟨_, rfl⟩
    rw [hW] at h0 Hb hk ⊢
    rw [hgh] at hk ⊢
    clear hgh hW
    obtain ⟨x0, x1, x2, x3, x4, x5, x6, x7, x8, x9, x10⟩ := hd_cells hk
    obtain ⟨q0, q1, q2, q3, q4, q5, q6, q7⟩ := nd_cells Hb.out
    replace x3 : W.cell? ⟨gh, 3, none⟩ = some (.int .i64 n.mode) := x3
    replace x6 : W.cell? ⟨gh, 6, none⟩ = some (.int .i64 ((n.data.length : Int) - off)) := x6
    replace x7 : W.cell? ⟨gh, 7, none⟩ = some (.int .i64 n.time) := x7
    replace x8 : W.cell? ⟨gh, 8, none⟩ = some (.int .u8 77) := x8
    replace x9 : W.cell? ⟨gh, 9, none⟩ = some (.int .i64 off) := x9
    replace x10 : W.cell? ⟨gh, 10, none⟩ = some (.int .i64 (n.data.length : Int)) := x10
    obtain ⟨y, hy⟩ : ∃ y : Int, (n.data.length : Int) - off = y := ⟨_, rfl⟩
    have k1 : wrap64 (y + off) = (n.data.length : Int) := by unfold wrap64; omega
    have k2 : decide (0 < y) = true := decide_eq_true (by omega)
    rw [hy] at x6
    clear hk x0 x1 x2 x4 x5 hy g1 g2 g4
    go_wp2
    go_ret
    exact ⟨rfl, h0.out⟩
theorem head_walk (I : ContI) (n : Nd) (hn : SmallN n) (off : Int) (w : World) :
    Calls Try.prog 4 #[nv n, .int .i64 off] w fun e w' => e = .returned (.bool true) ∧ Stp w w' := by
  by_cases h : fewN n = false ∨ mayC n off = false
  · exact head_out I n hn off w h
  · rw [not_or] at h
    exact head_in I n hn off w (by simpa using h.1) (by simpa using h.2)
end Go.Proofs.Ytagkdodjffhlmaa.Cont
