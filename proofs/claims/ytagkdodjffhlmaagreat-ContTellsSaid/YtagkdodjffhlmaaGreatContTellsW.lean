/-
  The law ContTells, walked over the contracts: no statement is proved here.
-/
import Derived.Test.YtagkdodjffhlmaaGreatContRef3
import Derived.Lib.QuietBelow
import Derived.BigQuiet
namespace Go.Proofs.YtagkdodjffhlmaaGreat.Cont
open Go.Sort Go.RowKit Go.Proofs.YtagkdodjffhlmaaGreat.Str Go.Proofs.YtagkdodjffhlmaaGreat.Base Go.Proofs.YtagkdodjffhlmaaGreat.Node Go.Proofs.YtagkdodjffhlmaaGreat.Head Go.Proofs.YtagkdodjffhlmaaGreat.Long Go.Proofs.YtagkdodjffhlmaaGreat.ContM
open Go.Proofs.YtagkdodjffhlmaaGreat.Tree (oneB)
set_option linter.unusedVariables false

theorem fewL_v (ls : List L) (N : Nat) (hN : ls.length = N) (hl : N < 9223372036854775808) (hls : ∀ l ∈ ls, l.length < 9223372036854775808) (b : Bool) (hb : Block.fewV ls = b) (A : Option Addr) (c : Nat) (w : World) (ha : RdL w A c ls) :
    Calls Tryz.prog 6 #[.slice A N c] w fun e w' => e = .returned (.bool b) ∧ Stp w w' := by
  subst hN hb
  exact Block.few_s ls A c w ha hl hls
theorem rcmany_v (n : Nd) (v : Value) (hv : v = nv n) (hn : SmallN n) (m : Int) (hm : manyC n = m) (w : World) :
    Calls Tryz.prog 15 #[v] w fun e w' => e = .returned (.int .i64 m) ∧ Stp w w' := by
  subst hv hm
  exact rcmany_s n hn w
theorem rcmay_v (n : Nd) (v : Value) (hv : v = nv n) (hn : SmallN n) (off : Int) (b : Bool) (hb : mayC n off = b) (w : World) :
    Calls Tryz.prog 12 #[v, .int .i64 off] w fun e w' => e = .returned (.bool b) ∧ Stp w w' := by
  subst hv
  exact rcmay_s n hn off b hb w
set_option maxRecDepth 100000 in
set_option maxHeartbeats 8000000 in
theorem tells_walk (I : ContI) (n : Nd) (hn : SmallN n) (off : Int) (ls : List L) (N : Nat) (hN : ls.length = N) (hl : N < 9223372036854775808) (hls : ∀ l ∈ ls, l.length < 9223372036854775808) (A : Option Addr) (c : Nat) (w : World) (ha : RdL w A c ls) :
    Calls Tryz.prog 3 #[nv n, .int .i64 off, .slice A N c] w fun e w' => e = .returned (.bool true) ∧ Stp w w' := by
  have h0 := Lib.hid (Stp.alloc (Stp.refl w) (.cells (ncells n) 23))
  have Hb := Lib.hid (Blk.new w 23 (ncells n))
  obtain ⟨q0, q1, q2, q3, q4, q5, q6, q7⟩ := nd_cells Hb.out
  have HI := Lib.hid I
  have HA := Lib.hid (awake_s I)
  have Hn := Lib.hid hn
  have HL := Lib.hid ha
  have HN := Lib.hid hN
  have Hl := Lib.hid hl
  have Hls := Lib.hid hls
  obtain ⟨b1, hf1⟩ : ∃ b, fewN n = b := ⟨_, rfl⟩
  obtain ⟨b2, hf2⟩ : ∃ b, Block.fewV ls = b := ⟨_, rfl⟩
  obtain ⟨P, hP⟩ : ∃ P, putC n off = P := ⟨_, rfl⟩
  obtain ⟨z, hz⟩ : ∃ z, P.length = z := ⟨_, rfl⟩
  obtain ⟨mb, hmb⟩ : ∃ b, mayC n off = b := ⟨_, rfl⟩
  obtain ⟨mm, hmm⟩ : ∃ m, manyC n = m := ⟨_, rfl⟩
  obtain ⟨r, hr⟩ : ∃ r, getC ls = r := ⟨_, rfl⟩
  obtain ⟨M, o, wh, k, b⟩ := r
  have hz3 : z < 9223372036854775808 := by
    rw [← hz, ← hP, putC]
    split
    · rw [List.length_append, aheadC_length]
      split <;> simp
    · simp
  have heq := Tree.eq_nodes M M
  rw [decide_eq_true rfl] at heq
  have hng := Tree.noGuardN
  have F1 := Lib.hid hf1
  have F2 := Lib.hid hf2
  have HP := Lib.hid hP
  have HPz := Lib.hid hz
  have Hz3 := Lib.hid hz3
  have Hmb := Lib.hid hmb
  have Hmm := Lib.hid hmm
  have HG := Lib.hid hr
  clear I hn ha hN hl hls hf1 hf2 hP hz hz3 hmb hmm hr
  cases b1 <;> cases b2
  all_goals
    go_enter Tryz.func3, Tryz.ntmps3
    go_wp2_with (first
      | (go_at_call 4; refine (HA.out _).mono ?_; rintro e w1 ⟨rfl, hs⟩; replace h0 := Lib.hid (Stp.trans h0.out hs); replace Hb := Lib.hid (Hb.out.keep hs Hb.out.lt); clear hs q0 q1 q2 q3 q4 q5 q6 q7; obtain ⟨q0, q1, q2, q3, q4, q5, q6, q7⟩ := nd_cells Hb.out)
      | (go_at_call 5; (with_reducible refine (Long.few_s n _).mono ?_); rintro e w2 ⟨rfl, hs⟩; rw [F1.out]; replace h0 := Lib.hid (Stp.trans h0.out hs); replace Hb := Lib.hid (Hb.out.keep hs Hb.out.lt); clear hs q0 q1 q2 q3 q4 q5 q6 q7; obtain ⟨q0, q1, q2, q3, q4, q5, q6, q7⟩ := nd_cells Hb.out)
      | (go_at_call 6; (with_reducible refine (fewL_v ls N HN.out Hl.out Hls.out _ F2.out A c _ (HL.out.keep h0.out)).mono ?_); rintro e w3 ⟨rfl, hs⟩; replace h0 := Lib.hid (Stp.trans h0.out hs); replace Hb := Lib.hid (Hb.out.keep hs Hb.out.lt); clear hs q0 q1 q2 q3 q4 q5 q6 q7; obtain ⟨q0, q1, q2, q3, q4, q5, q6, q7⟩ := nd_cells Hb.out)
      | (go_at_call 7; (with_reducible refine (HI.out.put n _ rfl Hn.out off P HP.out z HPz.out mb Hmb.out _).mono ?_); rintro e w4 ⟨A4, c4, rfl, hr, hs⟩; replace h0 := Lib.hid (Stp.trans h0.out hs); replace Hb := Lib.hid (Hb.out.keep hs Hb.out.lt); have HR4 := Lib.hid hr; clear hr hs q0 q1 q2 q3 q4 q5 q6 q7; obtain ⟨q0, q1, q2, q3, q4, q5, q6, q7⟩ := nd_cells Hb.out)
      | (go_at_call 8; (with_reducible refine (rcput_v n _ rfl Hn.out off P HP.out z HPz.out mb Hmb.out _).mono ?_); rintro e w5 ⟨A5, c5, rfl, hr, hs⟩; replace h0 := Lib.hid (Stp.trans h0.out hs); replace Hb := Lib.hid (Hb.out.keep hs Hb.out.lt); replace HR4 := Lib.hid (HR4.out.keep hs); have HR5 := Lib.hid hr; clear hr hs q0 q1 q2 q3 q4 q5 q6 q7; obtain ⟨q0, q1, q2, q3, q4, q5, q6, q7⟩ := nd_cells Hb.out)
      | (go_at_call 9; (with_reducible refine (HI.out.get ls N HN.out Hl.out Hls.out M o wh k b HG.out A c _ (HL.out.keep h0.out)).mono ?_); rintro e w6 ⟨rfl, hs⟩; replace hs := Stp.alloc hs (.cells (ncells M) 23); have Hk := Lib.hid (Blk.new w6 23 (ncells M)); replace h0 := Lib.hid (Stp.trans h0.out hs); replace Hb := Lib.hid (Hb.out.keep hs Hb.out.lt); replace HR4 := Lib.hid (HR4.out.keep hs); replace HR5 := Lib.hid (HR5.out.keep hs); clear hs q0 q1 q2 q3 q4 q5 q6 q7; obtain ⟨q0, q1, q2, q3, q4, q5, q6, q7⟩ := nd_cells Hb.out)
      | (go_at_call 10; (with_reducible refine (rcget_s ls N HN.out M o wh k b HG.out A c _ (HL.out.keep h0.out)).mono ?_); rintro e w7 ⟨rfl, hs⟩; replace hs := Stp.alloc hs (.cells (ncells M) 23); have Hj := Lib.hid (Blk.new w7 23 (ncells M)); replace h0 := Lib.hid (Stp.trans h0.out hs); replace Hb := Lib.hid (Hb.out.keep hs Hb.out.lt); replace Hk := Lib.hid (Hk.out.keep hs Hk.out.lt); replace HR4 := Lib.hid (HR4.out.keep hs); replace HR5 := Lib.hid (HR5.out.keep hs); clear hs q0 q1 q2 q3 q4 q5 q6 q7; obtain ⟨q0, q1, q2, q3, q4, q5, q6, q7⟩ := nd_cells Hb.out)
      | (go_at_call 11; (with_reducible refine (rsame_v P P z z HPz.out HPz.out A4 A5 c4 c5 _ HR4.out HR5.out Hz3.out Hz3.out true (by simp)).mono ?_); rintro e w8 ⟨rfl, hs⟩; replace h0 := Lib.hid (Stp.trans h0.out hs); replace Hb := Lib.hid (Hb.out.keep hs Hb.out.lt); replace Hk := Lib.hid (Hk.out.keep hs Hk.out.lt); replace Hj := Lib.hid (Hj.out.keep hs Hj.out.lt); clear hs q0 q1 q2 q3 q4 q5 q6 q7; obtain ⟨q0, q1, q2, q3, q4, q5, q6, q7⟩ := nd_cells Hb.out)
      | (go_at_call 12; (with_reducible refine (rcmay_v n _ rfl Hn.out off mb Hmb.out _).mono ?_); rintro e w9 ⟨rfl, hs⟩; replace h0 := Lib.hid (Stp.trans h0.out hs); replace Hb := Lib.hid (Hb.out.keep hs Hb.out.lt); replace Hk := Lib.hid (Hk.out.keep hs Hk.out.lt); replace Hj := Lib.hid (Hj.out.keep hs Hj.out.lt); clear hs q0 q1 q2 q3 q4 q5 q6 q7; obtain ⟨q0, q1, q2, q3, q4, q5, q6, q7⟩ := nd_cells Hb.out; obtain ⟨r0, r1, r2, r3, r4, r5, r6, r7⟩ := nd_cells Hk.out; obtain ⟨s0, s1, s2, s3, s4, s5, s6, s7⟩ := nd_cells Hj.out))
    first
      | (go_ret; exact ⟨rfl, h0.out⟩)
      | (
        have h9 := h0.out
        obtain ⟨W, hW⟩ : ∃ z, w9 = z := ⟨_, rfl⟩
        subst hW
        have v0 := cell_regrown q0
        have v1 := cell_regrown q1
        have v2 := cell_regrown q2
        have v3 := cell_regrown q3
        have v4 := cell_regrown q4
        have v5 := cell_regrown q5
        have v6 := cell_regrown q6
        have v7 := cell_regrown q7
        have u0 := cell_regrown r0
        have u1 := cell_regrown r1
        have u2 := cell_regrown r2
        have u3 := cell_regrown r3
        have u4 := cell_regrown r4
        have u5 := cell_regrown r5
        have u6 := cell_regrown r6
        have u7 := cell_regrown r7
        have t0 := cell_regrown s0
        have t1 := cell_regrown s1
        have t2 := cell_regrown s2
        have t3 := cell_regrown s3
        have t4 := cell_regrown s4
        have t5 := cell_regrown s5
        have t6 := cell_regrown s6
        have t7 := cell_regrown s7
        have cA : ∀ d os, Calls Tryz.prog 13 #[nv n, .int .i64 off] (grow (redrawn w9 d) os) fun e w'' => e = .returned (.bool mb) ∧ ∃ p : Regrown, w'' = grow (redrawn w9 p.d) p.os := fun d os => Calls.regrown_of (HI.out.may n _ rfl Hn.out _ _ Hmb.out _)
        have cB : ∀ d os, Calls Tryz.prog 14 #[nv n] (grow (redrawn w9 d) os) fun e w'' => e = .returned (.int .i64 mm) ∧ ∃ p : Regrown, w'' = grow (redrawn w9 p.d) p.os := fun d os => Calls.regrown_of (HI.out.many n _ rfl Hn.out _ Hmm.out _)
        have cC : ∀ d os, Calls Tryz.prog 15 #[nv n] (grow (redrawn w9 d) os) fun e w'' => e = .returned (.int .i64 mm) ∧ ∃ p : Regrown, w'' = grow (redrawn w9 p.d) p.os := fun d os => Calls.regrown_of (rcmany_v n _ rfl Hn.out _ Hmm.out _)
        clear q0 q1 q2 q3 q4 q5 q6 q7 r0 r1 r2 r3 r4 r5 r6 r7 s0 s1 s2 s3 s4 s5 s6 s7 Hb Hk Hj HR4 HR5
        refine wp_region_quiet_below (by kernel_rfl) (by kernel_rfl) ?_
        repeat (go_big_quiet_step (first | exact cA _ _ | exact cB _ _ | exact cC _ _))
        refine wpQuiet_nil ?_
        intro _ hw'
        obtain ⟨⟨dq, osq⟩, hw''⟩ := hw'
        subst hw''
        have X := Lib.hid (show Stp w9 (grow (redrawn w9 dq) osq) from below_regrown w9 dq osq)
        clear v0 v1 v2 v3 v4 v5 v6 v7 u0 u1 u2 u3 u4 u5 u6 u7 t0 t1 t2 t3 t4 t5 t6 t7 cA cB cC
        dsimp only
        generalize grow (redrawn w9 dq) osq = Y at X ⊢
        go_wp2
        go_ret
        exact ⟨rfl, Stp.trans h9 X.out⟩)
end Go.Proofs.YtagkdodjffhlmaaGreat.Cont
