/-
  The laws' awake, walked over the contracts: no statement is proved here.
-/
import Derived.Test.YtjddgmdbgajjpaaFsI
import Derived.Deep.RegionWith
import Derived.Deep.RegionLaw
import Derived.BigQuiet
import Derived.Deep.Cut
import Derived.Deep.CutRange
namespace Go.Proofs.Ytjddgmdbgajjpaa.Fs
open Go.Sort Go.RowKit Go.Proofs.Ytjddgmdbgajjpaa.Str Go.Proofs.Ytjddgmdbgajjpaa.Base Go.Proofs.Ytjddgmdbgajjpaa.Node Go.Proofs.Ytjddgmdbgajjpaa.Long Go.Proofs.Ytjddgmdbgajjpaa.FsM
open Go.Proofs.Ytjddgmdbgajjpaa.Tree (oneB mayT fewT nodeA nodeB)
set_option linter.unusedVariables false

theorem cells_ab {w : World} {g : Nat} {a b : Nd} (h : RdN w (some ⟨g, 0, none⟩) 2 [a, b]) : w.cell? ⟨g, 0, none⟩ = some (.string ⟨a.path.toArray⟩) ∧ w.cell? ⟨g, 1, none⟩ = some (.string ⟨a.link.toArray⟩) ∧ w.cell? ⟨g, 2, none⟩ = some (.int .u8 (a.kind.toNat : Int)) ∧ w.cell? ⟨g, 3, none⟩ = some (.int .i64 a.mode) ∧ w.cell? ⟨g, 4, none⟩ = some (.int .i64 a.uid) ∧ w.cell? ⟨g, 5, none⟩ = some (.int .i64 a.gid) ∧ w.cell? ⟨g, 6, none⟩ = some (.int .i64 a.time) ∧ w.cell? ⟨g, 7, none⟩ = some (.string ⟨a.data.toArray⟩) ∧ w.cell? ⟨g, 8, none⟩ = some (.string ⟨b.path.toArray⟩) ∧ w.cell? ⟨g, 9, none⟩ = some (.string ⟨b.link.toArray⟩) ∧ w.cell? ⟨g, 10, none⟩ = some (.int .u8 (b.kind.toNat : Int)) ∧ w.cell? ⟨g, 11, none⟩ = some (.int .i64 b.mode) ∧ w.cell? ⟨g, 12, none⟩ = some (.int .i64 b.uid) ∧ w.cell? ⟨g, 13, none⟩ = some (.int .i64 b.gid) ∧ w.cell? ⟨g, 14, none⟩ = some (.int .i64 b.time) ∧ w.cell? ⟨g, 15, none⟩ = some (.string ⟨b.data.toArray⟩) := by
  obtain ⟨b1, o1, e1, -, x0, x1, x2, x3, x4, x5, x6, x7⟩ := h.cells (j := 0) (n := a) rfl
  cases e1
  obtain ⟨b2, o2, e2, -, y0, y1, y2, y3, y4, y5, y6, y7⟩ := h.cells (j := 1) (n := b) rfl
  cases e2
  exact ⟨x0, x1, x2, x3, x4, x5, x6, x7, y0, y1, y2, y3, y4, y5, y6, y7⟩
set_option maxRecDepth 100000 in
set_option maxHeartbeats 16000000 in
theorem awake_in (I : FsI) (a b c : Nd) (sa : SmallN a) (sb : SmallN b) (sc : SmallN c) (x1 : putF [] b = ([], 9)) (x2 : putF [] a = ([a], 0)) (x3 : putF [a] b = ([a, b], 0)) (x4 : growF [a, b] [97, 47, 98] [33] = ([a, c], 0))
    (x5 : textF [a, c] [97, 47, 98] = ([104, 101, 108, 108, 111, 33], 0)) (x6 : getF [a, c] [97] = (a, 0)) (x7 : mayF [a, c] = true)
    (hT : ∀ w : World, Calls Try.prog 30 #[] w fun e w' => ∃ g, e = .returned (.slice (some ⟨g, 0, none⟩) 2 2) ∧ RdN w' (some ⟨g, 0, none⟩) 2 [a, b] ∧ Stp w w') (w : World) :
    Calls Try.prog 9 #[] w fun e w' => e = .returned (.bool true) ∧ Stp w w' := by
  have HI := Lib.hid I
  have HT := Lib.hid hT
  have Sa := Lib.hid sa
  have Sb := Lib.hid sb
  have S0 : Hid (∀ x ∈ ([] : List Nd), SmallN x) := Lib.hid fun x hx => absurd hx List.not_mem_nil
  have S1 : Hid (∀ x ∈ [a], SmallN x) := Lib.hid fun x hx => by rw [List.mem_singleton.1 hx]; exact sa
  have S2 : Hid (∀ x ∈ [a, b], SmallN x) := Lib.hid fun x hx => by rcases List.mem_cons.1 hx with rfl | hx; exact sa; rw [List.mem_singleton.1 hx]; exact sb
  have S3 : Hid (∀ x ∈ [a, c], SmallN x) := Lib.hid fun x hx => by rcases List.mem_cons.1 hx with rfl | hx; exact sa; rw [List.mem_singleton.1 hx]; exact sc
  have X1 := Lib.hid x1
  have X2 := Lib.hid x2
  have X3 := Lib.hid x3
  have X4 := Lib.hid x4
  have X5 := Lib.hid x5
  have X6 := Lib.hid x6
  have X7 := Lib.hid x7
  have h0 := Lib.hid (Stp.refl w)
  have heq : ∀ w : World, (Op.equalIn 10000 26 (nv a) (nv a)).run Try.prog w = .ok true w := fun w => by rw [Tree.eq_nodes, decide_eq_true rfl]
  have hng := Tree.noGuardN
  clear I hT sa sb sc x1 x2 x3 x4 x5 x6 x7
  go_enter Try.func9, Try.ntmps9
  go_upto_region 3 with (first
    | (go_at_call 30; refine (HT.out _).mono ?_; rintro e wn ⟨g, rfl, hr, hs⟩; have HR := Lib.hid hr; replace h0 := Lib.hid (Stp.trans h0.out hs); clear hs hr; obtain ⟨q0, q1, q2, q3, q4, q5, q6, q7, q8, q9, q10, q11, q12, q13, q14, q15⟩ := cells_ab HR.out)
    | (go_at_call 12; (with_reducible refine (HI.out.put [] 0 rfl (by omega) S0.out b _ rfl Sb.out [] 9 X1.out 0 rfl none 0 _ (RdN.nil _)).mono ?_); rintro e wn ⟨B0, d0, rfl, -, hs⟩; replace h0 := Lib.hid (Stp.trans h0.out hs); replace HR := Lib.hid (HR.out.keep hs); clear hs q0 q1 q2 q3 q4 q5 q6 q7 q8 q9 q10 q11 q12 q13 q14 q15; obtain ⟨q0, q1, q2, q3, q4, q5, q6, q7, q8, q9, q10, q11, q12, q13, q14, q15⟩ := cells_ab HR.out))
  have hal := Stp.alloc (Stp.refl wn) (.cells (fcs B0 0 d0) 24)
  have HE := Lib.hid (Blk.new wn 24 (fcs B0 0 d0))
  clear q0 q1 q2 q3 q4 q5 q6 q7 q8 q9 q10 q11 q12 q13 q14 q15
  replace h0 := Lib.hid (Stp.trans h0.out hal)
  replace HR := Lib.hid (HR.out.keep hal)
  change Code.wp _ _ _ _ (wn.alloc (.cells (fcs B0 0 d0) 24))
  obtain ⟨gHE, hgHE⟩ : ∃ g, wn.heap.size = g := ⟨_, rfl⟩
  rw [hgHE] at HE ⊢
  clear hal hgHE
  generalize wn.alloc (.cells (fcs B0 0 d0) 24) = WHE at h0 HE HR ⊢
  have e := fs_cell HE.out
  obtain ⟨q0, q1, q2, q3, q4, q5, q6, q7, q8, q9, q10, q11, q12, q13, q14, q15⟩ := cells_ab HR.out
  go_upto_region 4 with ((go_at_call 12; (with_reducible refine (HI.out.put [] 0 rfl (by omega) S0.out a _ rfl Sa.out [a] 0 X2.out 1 rfl none 0 _ (RdN.nil _)).mono ?_); rintro e wn ⟨B1, d1, rfl, hr, hs⟩; replace h0 := Lib.hid (Stp.trans h0.out hs); replace HE := Lib.hid (HE.out.keep hs HE.out.lt); replace HR := Lib.hid (HR.out.keep hs); have HM := Lib.hid hr; clear hr; clear hs e q0 q1 q2 q3 q4 q5 q6 q7 q8 q9 q10 q11 q12 q13 q14 q15; have e := fs_cell HE.out; obtain ⟨q0, q1, q2, q3, q4, q5, q6, q7, q8, q9, q10, q11, q12, q13, q14, q15⟩ := cells_ab HR.out))
  have hge := h0.out.size
  have hal := Stp.alloc (Stp.refl wn) (.cells (fcs B1 1 d1) 24)
  have HF := Lib.hid (Blk.new wn 24 (fcs B1 1 d1))
  clear e q0 q1 q2 q3 q4 q5 q6 q7 q8 q9 q10 q11 q12 q13 q14 q15
  replace h0 := Lib.hid (Stp.trans h0.out hal)
  replace HE := Lib.hid (HE.out.keep hal HE.out.lt)
  replace HR := Lib.hid (HR.out.keep hal)
  replace HM := Lib.hid (HM.out.keep hal)
  change Code.wp _ _ _ _ (wn.alloc (.cells (fcs B1 1 d1) 24))
  obtain ⟨gHF, hgHF⟩ : ∃ g, wn.heap.size = g := ⟨_, rfl⟩
  rw [hgHF] at HF hge ⊢
  clear hal hgHF
  generalize wn.alloc (.cells (fcs B1 1 d1) 24) = WHF at h0 HF HE HR HM ⊢
  have e := fs_cell HE.out
  have f := fs_cell HF.out
  obtain ⟨q0, q1, q2, q3, q4, q5, q6, q7, q8, q9, q10, q11, q12, q13, q14, q15⟩ := cells_ab HR.out
  have X := Lib.hid (show Stp WHF WHF.drew from Stp.drewN (Stp.refl WHF) 1)
  have C := Lib.hid (HI.out.put [a] 1 rfl (by omega) S1.out b _ rfl Sb.out [a, b] 0 X3.out 2 rfl B1 d1 WHF.drew (HM.out.keep X.out))
  go_cut [6] from 29 to 37 (fun s6 wx => ∃ (B2 : Option Addr) (d2 : Nat), s6 = .int .i64 0 ∧ Hid (Blk wx gHF 24 (fcs B2 2 d2)) ∧ Hid (RdN wx B2 d2 [a, b]) ∧ Hid (RdN wx (some ⟨g, 0, none⟩) 2 [a, b]) ∧ Hid (Stp w wx))
  case first =>
    have fa := fs_cell (HF.out.keep X.out HF.out.lt)
    obtain ⟨r0, r1, r2, r3, r4, r5, r6, r7, r8, r9, r10, r11, r12, r13, r14, r15⟩ := cells_ab (HR.out.keep X.out)
    go_region_law (go_simp; go_at_call 12; (with_reducible refine C.out.mono ?_); rintro e wx ⟨B2, d2, rfl, hr, hs⟩
                   have hb := HF.out.keep (Stp.trans X.out hs) HF.out.lt
                   have yc := fs_cell hb
                   have yf := hb.free 0
                   have Y1 : Hid (Blk (wx.setCell ⟨gHF, 0, none⟩ (.slice B2 2 d2)) gHF 24 (fcs B2 2 d2)) := Lib.hid (hb.put 0 (.slice B2 2 d2))
                   have Y2 := Lib.hid (rdn_far hr hb 0 (.slice B2 2 d2))
                   have Y3 := Lib.hid (rdn_far (HR.out.keep (Stp.trans X.out hs)) hb 0 (.slice B2 2 d2))
                   have Y4 : Hid (Stp w (wx.setCell ⟨gHF, 0, none⟩ (.slice B2 2 d2))) := Lib.hid (Below.setCell (Stp.trans h0.out (Stp.trans X.out hs)) (p := ⟨gHF, 0, none⟩) hge (.slice B2 2 d2))
                   clear hr hs hb)
    all_goals
      go_wp2_with fail
      go_simp
      go_meet
      with_reducible exact ⟨_, _, rfl, Y1, Y2, Y3, Y4⟩
  case rest =>
  obtain ⟨B2, d2, rfl, HF2, HM2, HR2, h2⟩ := hcut
  clear HF HM HR h0 X C HE e f q0 q1 q2 q3 q4 q5 q6 q7 q8 q9 q10 q11 q12 q13 q14 q15
  obtain ⟨W1, hW1⟩ : ∃ W, W = wc := ⟨_, rfl⟩
  subst hW1
  have HF := HF2
  have HM := HM2
  have HR := HR2
  have h0 := h2
  clear HF2 HM2 HR2 h2
  have f := fs_cell HF.out
  obtain ⟨q0, q1, q2, q3, q4, q5, q6, q7, q8, q9, q10, q11, q12, q13, q14, q15⟩ := cells_ab HR.out
  go_upto_region 6 with ((go_at_call 14; (with_reducible refine (HI.out.grow [a, b] 2 rfl (by omega) S2.out [97, 47, 98] 3 rfl (by omega) [33] 1 rfl (by omega) [a, c] 0 X4.out 2 rfl B2 d2 _ HM.out).mono ?_); rintro e wn ⟨B3, d3, rfl, hr, hs⟩; replace h0 := Lib.hid (Stp.trans h0.out hs); replace HF := Lib.hid (HF.out.keep hs HF.out.lt); replace HR := Lib.hid (HR.out.keep hs); replace HM := Lib.hid (HM.out.keep hs); have HN := Lib.hid hr; have ff := HF.out.free 0; clear hr; clear hs f q0 q1 q2 q3 q4 q5 q6 q7 q8 q9 q10 q11 q12 q13 q14 q15; have f := fs_cell HF.out; obtain ⟨q0, q1, q2, q3, q4, q5, q6, q7, q8, q9, q10, q11, q12, q13, q14, q15⟩ := cells_ab HR.out))
  have HF3 : Hid (Blk (wn.setCell ⟨gHF, 0, none⟩ (.slice B3 2 d3)) gHF 24 (fcs B3 2 d3)) := Lib.hid (HF.out.put 0 (.slice B3 2 d3))
  have HN3 := Lib.hid (rdn_far HN.out HF.out 0 (.slice B3 2 d3))
  have HR3 := Lib.hid (rdn_far HR.out HF.out 0 (.slice B3 2 d3))
  have h3 : Hid (Stp w (wn.setCell ⟨gHF, 0, none⟩ (.slice B3 2 d3))) := Lib.hid (Below.setCell h0.out (p := ⟨gHF, 0, none⟩) hge (.slice B3 2 d3))
  clear HM HN HR HF h0 ff f q0 q1 q2 q3 q4 q5 q6 q7 q8 q9 q10 q11 q12 q13 q14 q15
  change Code.wp _ _ _ _ (wn.setCell ⟨gHF, 0, none⟩ (.slice B3 2 d3))
  generalize wn.setCell ⟨gHF, 0, none⟩ (.slice B3 2 d3) = W5 at HF3 HN3 HR3 h3 ⊢
  have HF := HF3
  have HM := HN3
  have HR := HR3
  have h0 := h3
  clear HF3 HN3 HR3 h3
  have f := fs_cell HF.out
  obtain ⟨q0, q1, q2, q3, q4, q5, q6, q7, q8, q9, q10, q11, q12, q13, q14, q15⟩ := cells_ab HR.out
  go_upto_region 8 with (first
    | (go_at_call 18; (with_reducible refine (HI.out.text [a, c] 2 rfl (by omega) S3.out [97, 47, 98] 3 rfl (by omega) _ 0 X5.out B3 d3 _ HM.out).mono ?_); rintro e wn ⟨rfl, hs⟩; replace h0 := Lib.hid (Stp.trans h0.out hs); replace HF := Lib.hid (HF.out.keep hs HF.out.lt); replace HR := Lib.hid (HR.out.keep hs); replace HM := Lib.hid (HM.out.keep hs); clear hs f q0 q1 q2 q3 q4 q5 q6 q7 q8 q9 q10 q11 q12 q13 q14 q15; have f := fs_cell HF.out; obtain ⟨q0, q1, q2, q3, q4, q5, q6, q7, q8, q9, q10, q11, q12, q13, q14, q15⟩ := cells_ab HR.out)
    | (go_at_call 16; (with_reducible refine (HI.out.get [a, c] 2 rfl (by omega) S3.out [97] 1 rfl (by omega) a 0 X6.out B3 d3 _ HM.out).mono ?_); rintro e wn ⟨rfl, hs⟩; replace h0 := Lib.hid (Stp.trans h0.out hs); replace HF := Lib.hid (HF.out.keep hs HF.out.lt); replace HR := Lib.hid (HR.out.keep hs); replace HM := Lib.hid (HM.out.keep hs); clear hs f q0 q1 q2 q3 q4 q5 q6 q7 q8 q9 q10 q11 q12 q13 q14 q15; have f := fs_cell HF.out; obtain ⟨q0, q1, q2, q3, q4, q5, q6, q7, q8, q9, q10, q11, q12, q13, q14, q15⟩ := cells_ab HR.out))
  have hal := Stp.alloc (Stp.refl wn) (.cells (ncells a) 26)
  have HV := Lib.hid (Blk.new wn 26 (ncells a))
  clear f q0 q1 q2 q3 q4 q5 q6 q7 q8 q9 q10 q11 q12 q13 q14 q15
  replace h0 := Lib.hid (Stp.trans h0.out hal)
  replace HF := Lib.hid (HF.out.keep hal HF.out.lt)
  replace HR := Lib.hid (HR.out.keep hal)
  replace HM := Lib.hid (HM.out.keep hal)
  change Code.wp _ _ _ _ (wn.alloc (.cells (ncells a) 26))
  obtain ⟨gHV, hgHV⟩ : ∃ g, wn.heap.size = g := ⟨_, rfl⟩
  rw [hgHV] at HV ⊢
  clear hal hgHV
  generalize wn.alloc (.cells (ncells a) 26) = WHV at h0 HV HF HR HM ⊢
  have f := fs_cell HF.out
  obtain ⟨v0, v1, v2, v3, v4, v5, v6, v7⟩ := nd_cells HV.out
  obtain ⟨q0, q1, q2, q3, q4, q5, q6, q7, q8, q9, q10, q11, q12, q13, q14, q15⟩ := cells_ab HR.out
  go_upto_region 8 with fail
  have tf := cell_regrown f
  have tv0 := cell_regrown v0
  have tq0 := cell_regrown q0
  have tv1 := cell_regrown v1
  have tq1 := cell_regrown q1
  have tv2 := cell_regrown v2
  have tq2 := cell_regrown q2
  have tv3 := cell_regrown v3
  have tq3 := cell_regrown q3
  have tv4 := cell_regrown v4
  have tq4 := cell_regrown q4
  have tv5 := cell_regrown v5
  have tq5 := cell_regrown q5
  have tv6 := cell_regrown v6
  have tq6 := cell_regrown q6
  have tv7 := cell_regrown v7
  have tq7 := cell_regrown q7
  have cM : ∀ d os, Calls Try.prog 22 #[fv B3 2 d3] (grow (redrawn WHV d) os) fun e w'' => e = .returned (.bool true) ∧ ∃ p : Regrown, w'' = grow (redrawn WHV p.d) p.os := fun d os => Calls.regrown_of (HI.out.may [a, c] 2 rfl (by omega) S3.out _ X7.out B3 d3 _ (HM.out.keep (below_regrown WHV d os)))
  have cS : ∀ d os, Calls Try.prog 23 #[fv B3 2 d3, fv B3 2 d3] (grow (redrawn WHV d) os) fun e w'' => e = .returned (.bool true) ∧ ∃ p : Regrown, w'' = grow (redrawn WHV p.d) p.os := fun d os => Calls.regrown_of (HI.out.same [a, c] [a, c] 2 2 rfl rfl (by omega) (by omega) true (decide_eq_true rfl) B3 B3 d3 d3 _ (HM.out.keep (below_regrown WHV d os)) (HM.out.keep (below_regrown WHV d os)))
  clear f v0 v1 v2 v3 v4 v5 v6 v7 q0 q1 q2 q3 q4 q5 q6 q7 q8 q9 q10 q11 q12 q13 q14 q15
  refine wp_region_quiet_below (by kernel_rfl) (by kernel_rfl) ?_
  repeat (go_big_quiet_step (first | exact cM _ _ | exact cS _ _))
  refine wpQuiet_nil ?_
  intro _ hw'
  obtain ⟨⟨dq, osq⟩, hw''⟩ := hw'
  subst hw''
  have X := Lib.hid (show Stp WHV (grow (redrawn WHV dq) osq) from below_regrown WHV dq osq)
  replace h0 := Lib.hid (Stp.trans h0.out X.out)
  go_wp2
  go_ret
  exact ⟨rfl, h0.out⟩
theorem awake_walk (I : FsI) (w : World) : Calls Try.prog 9 #[] w fun e w' => e = .returned (.bool true) ∧ Stp w w' :=
  awake_in I nodeA nodeB (moreN nodeB [33]) ab_small.1 ab_small.2.1 ab_small.2.2 ex_one.1 ex_one.2.1 ex_one.2.2.1 ex_one.2.2.2.1 ex_one.2.2.2.2.1 ex_one.2.2.2.2.2.1 ex_one.2.2.2.2.2.2 Tree.two_s w
end Go.Proofs.Ytjddgmdbgajjpaa.Fs
