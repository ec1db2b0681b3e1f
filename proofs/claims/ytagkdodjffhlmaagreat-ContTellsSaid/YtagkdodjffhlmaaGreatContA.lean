/-
  The contracts of package cont's calls: what the first blocks tell of a file that goes on (Get), and all four: no statement is proved here.
-/
import Derived.Test.YtagkdodjffhlmaaGreatContK3
namespace Go.Proofs.YtagkdodjffhlmaaGreat.Cont
open Go.RowKit Go.Proofs.YtagkdodjffhlmaaGreat.Str Go.Proofs.YtagkdodjffhlmaaGreat.Base Go.Proofs.YtagkdodjffhlmaaGreat.Node Go.Proofs.YtagkdodjffhlmaaGreat.Head Go.Proofs.YtagkdodjffhlmaaGreat.Long Go.Proofs.YtagkdodjffhlmaaGreat.ContM
open Go.Proofs.YtagkdodjffhlmaaGreat.Tree (oneB)
set_option linter.unusedVariables false

abbrev getW (w1 : World) (p : L) (K : Nat) : World := ((((w1.alloc (.cells #[.string ⟨p.toArray⟩] 9)).alloc (.cells #[.int .i64 (K : Int)] 3)).alloc (.cells (hcells zeroH) 40)).alloc (.cells (ncells zeroN) 23)).alloc (.cells #[.bool true] 4)
theorem gs_new {w w1 : World} {A : Option Addr} {z c : Nat} (p : L) (K : Nat) (h0 : Stp w w1) (hl : Blk w1 w.heap.size 24 #[.slice A z c]) (hr : Blk w1 (w.heap.size + 1) 23 (ncells zeroN)) : GS w (getW w1 p K) A z c w1.heap.size p K zeroH zeroN true := by
  have g := hr.lt
  have e1 : (w1.alloc (.cells #[.string ⟨p.toArray⟩] 9)).heap.size = w1.heap.size + 1 := World.size_alloc _ _
  have e2 : ((w1.alloc (.cells #[.string ⟨p.toArray⟩] 9)).alloc (.cells #[.int .i64 (K : Int)] 3)).heap.size = w1.heap.size + 2 := by rw [World.size_alloc, e1]
  have e3 : (((w1.alloc (.cells #[.string ⟨p.toArray⟩] 9)).alloc (.cells #[.int .i64 (K : Int)] 3)).alloc (.cells (hcells zeroH) 40)).heap.size = w1.heap.size + 3 := by rw [World.size_alloc, e2]
  have e4 : ((((w1.alloc (.cells #[.string ⟨p.toArray⟩] 9)).alloc (.cells #[.int .i64 (K : Int)] 3)).alloc (.cells (hcells zeroH) 40)).alloc (.cells (ncells zeroN) 23)).heap.size = w1.heap.size + 4 := by rw [World.size_alloc, e3]
  have b1 := Blk.new (w1.alloc (.cells #[.string ⟨p.toArray⟩] 9)) 3 #[.int .i64 (K : Int)]
  have b2 := Blk.new ((w1.alloc (.cells #[.string ⟨p.toArray⟩] 9)).alloc (.cells #[.int .i64 (K : Int)] 3)) 40 (hcells zeroH)
  have b3 := Blk.new (((w1.alloc (.cells #[.string ⟨p.toArray⟩] 9)).alloc (.cells #[.int .i64 (K : Int)] 3)).alloc (.cells (hcells zeroH) 40)) 23 (ncells zeroN)
  have b4 := Blk.new ((((w1.alloc (.cells #[.string ⟨p.toArray⟩] 9)).alloc (.cells #[.int .i64 (K : Int)] 3)).alloc (.cells (hcells zeroH) 40)).alloc (.cells (ncells zeroN) 23)) 4 #[.bool true]
  rw [e1] at b1
  rw [e2] at b2
  rw [e3] at b3
  rw [e4] at b4
  exact ⟨Stp.alloc (Stp.alloc (Stp.alloc (Stp.alloc (Stp.alloc h0 _) _) _) _) _, by omega, ((((hl.alloc _).alloc _).alloc _).alloc _).alloc _, ((((hr.alloc _).alloc _).alloc _).alloc _).alloc _,
    ((((Blk.new w1 9 #[.string ⟨p.toArray⟩]).alloc _).alloc _).alloc _).alloc _, ((b1.alloc _).alloc _).alloc _, (b2.alloc _).alloc _, b3.alloc _, b4⟩
theorem kok_blk {l : L} (h : codeB l = 0) : mayH (getH l) = true ∧ blk (getH l) = l ∧ l.length = 512 := by
  unfold getH
  rw [if_pos h]
  unfold codeB at h
  split at h
  · rename_i h1
    split at h
    · cases h
    · split at h
      · split at h
        · rename_i h4
          exact ⟨h4.1, h4.2, h1⟩
        · cases h
      · cases h
  · cases h
theorem kgot_small {l : L} (hc : codeB l = 0) (ht : (getH l).ty = 77) : SmallH (getH l) ∧ 0 ≤ (getH l).real := by
  obtain ⟨h1, h2, h3⟩ := kok_blk hc
  refine ⟨by rw [getH, if_pos hc]; exact small_guess h3, ?_⟩
  have hn : numsOk (getH l) = true := by
    unfold mayH at h1
    simp only [Bool.and_eq_true] at h1
    exact h1.2
  unfold numsOk at hn
  rw [ht] at hn
  simp only [Bool.and_eq_true, decide_true, Bool.not_true, Bool.false_or] at hn
  exact (Num.putOk_iff.1 hn.2.2).1
theorem longV_place (ls : List L) : (longV ls).2 ≤ 2 := by
  unfold longV
  split <;> simp
theorem upto_le (x : L) : (upto x).length ≤ x.length := by
  have := congrArg List.length (upto_take x)
  rw [List.length_take] at this
  omega
set_option maxRecDepth 100000 in
set_option maxHeartbeats 4000000 in
theorem cget_s (ls : List L) (z : Nat) (hz : ls.length = z) (hz3 : z < 9223372036854775808) (hsm : ∀ l ∈ ls, l.length < 9223372036854775808) (m : Nd) (off whole k : Int) (b : Bool) (hg : getC ls = (m, off, whole, k, b)) (A : Option Addr) (c : Nat) (w : World) (ha : RdL w A c ls) :
    Calls Tryz.prog 9 #[.slice A z c] w fun e w' => e = .returned (.tuple #[nv m, .int .i64 off, .int .i64 whole, .int .i64 k, .bool b]) ∧ Stp w w' := by
  obtain ⟨p, K, hp⟩ : ∃ p K, longV ls = (p, K) := ⟨_, _, rfl⟩
  have h1 := Stp.alloc (Stp.refl w) (.cells #[.slice A z c] 24)
  have h0 := Stp.alloc h1 (.cells (ncells zeroN) 23)
  have hl := (Blk.new w 24 #[.slice A z c]).alloc (.cells (ncells zeroN) 23)
  have hr := Blk.new (w.alloc (.cells #[.slice A z c] 24)) 23 (ncells zeroN)
  rw [World.size_alloc] at hr
  have HB := Lib.hid hl
  have HZ := Lib.hid hr
  have H0 := Lib.hid h0
  have Hz := Lib.hid hz
  have Hz3 := Lib.hid hz3
  have Hsm := Lib.hid hsm
  have Hg := Lib.hid hg
  have HL := Lib.hid ha
  have Hp := Lib.hid hp
  have q0 : ((w.alloc (.cells #[.slice A z c] 24)).alloc (.cells (ncells zeroN) 23)).cell? ⟨w.heap.size, 0, none⟩ = some (.slice A z c) := by rw [hl.cell]; rfl
  clear h1 h0 hl hr hz hz3 hsm hg ha hp
  go_enter Tryz.func9, Tryz.ntmps9
  go_upto_region 5 with (go_at_call 22; refine (clong_s ls z Hz.out Hsm.out p K Hp.out A c _ (HL.out.keep H0.out)).mono ?_; rintro e w1 ⟨rfl, hs⟩; replace HB := Lib.hid (HB.out.keep hs HB.out.lt); replace HZ := Lib.hid (HZ.out.keep hs HZ.out.lt); replace H0 := Lib.hid (Stp.trans H0.out hs); clear hs q0)
  have hG := gs_new p K H0.out HB.out HZ.out
  change Code.wp _ _ _ _ (getW w1 p K)
  generalize getW w1 p K = W at hG ⊢
  clear H0 HB HZ
  generalize w1.heap.size = G at hG ⊢
  have HS := Lib.hid hG
  have hK : K ≤ 2 := by have := longV_place ls; rw [Hp.out] at this; exact this
  clear hG
  have key : (decide ((K : Int) < (z : Int)) = false ∧ getC ls = none5) ∨ (decide ((K : Int) < (z : Int)) = true ∧ ∃ x H, ls[K]? = some x ∧ getH x = H ∧
      (((decide (H.ty = 77) && decide (H.real ≤ 4000)) = false ∧ getC ls = none5) ∨
       ((decide (H.ty = 77) && decide (H.real ≤ 4000)) = true ∧ ∃ M R N P, nodeC H (nameC H p) = M ∧ H.real = ((R : Nat) : Int) ∧ R ≤ 4000 ∧ withN M R = N ∧ SmallN N ∧ putC N H.off = P ∧
        (((P == ls.take (K + 1)) = false ∧ getC ls = none5) ∨ ((P == ls.take (K + 1)) = true ∧ getC ls = (M, H.off, H.real, ((K + 1 : Nat) : Int), true)))))) := by
    have hz := Hz.out
    have hp := Hp.out
    by_cases hlt : K < z
    · refine .inr ⟨decide_eq_true (by omega), ls[K]'(by omega), _, List.getElem?_eq_getElem (by omega), rfl, ?_⟩
      have hx : ls[K]? = some (ls[K]'(by omega)) := List.getElem?_eq_getElem (by omega)
      generalize ls[K]'(by omega) = x at hx ⊢
      by_cases hb : (getH x).ty = 77 ∧ (getH x).real ≤ 4000
      · refine .inr ⟨by rw [decide_eq_true hb.1, decide_eq_true hb.2]; rfl, ?_⟩
        have hc0 : codeB x = 0 := by
          by_cases h : codeB x = 0
          · exact h
          · exfalso
            have h9 := hb.1
            rw [getH, if_neg h] at h9
            exact absurd h9 (by decide)
        obtain ⟨hsmH, h00⟩ := kgot_small hc0 hb.1
        have hR : (getH x).real = ((getH x).real.toNat : Int) := by omega
        refine ⟨_, (getH x).real.toNat, _, _, rfl, hR, by omega, rfl, ?_, rfl, ?_⟩
        · have hpl : p.length < 9223372036854775808 := by
            have e : p = (longV ls).1 := by rw [hp]
            rw [e, longV]
            split
            · rename_i h2
              have hy : ls[1]? = some (ls[1]'(by omega)) := List.getElem?_eq_getElem (by omega)
              have e1 : ls.getD 1 [] = ls[1]'(by omega) := by rw [List.getD_eq_getElem?_getD, hy]; rfl
              have h3 := Hsm.out _ (List.mem_of_getElem? hy)
              have h4 := upto_le (ls[1]'(by omega))
              rw [e1]
              show (upto (ls[1]'(by omega))).length < _
              omega
            · simp
          constructor
          · show (nameC (getH x) p).length ≤ _
            rw [nameC]
            split
            · exact hsmH.name
            · omega
          · show ([] : L).length ≤ _
            simp
          · exact hsmH.mode
          · exact hsmH.uid
          · exact hsmH.gid
          · exact hsmH.time
          · show (List.replicate (getH x).real.toNat (0 : UInt8)).length ≤ _
            rw [List.length_replicate]
            have := hb.2
            omega
        · by_cases hq : putC (fileV x p) (getH x).off = ls.take (K + 1)
          · exact .inr ⟨beq_iff_eq.2 hq, cget_yes hx hq h00⟩
          · refine .inl ⟨beq_eq_false_iff_ne.2 hq, cget_no fun y hy h1 h2 => ?_⟩
            rw [hp] at hy ⊢
            rw [show y = x from Option.some.inj (hy.symm.trans hx)]
            exact hq
      · refine .inl ⟨?_, cget_no fun y hy h1 h2 => ?_⟩
        · rw [Bool.eq_false_iff]
          intro e
          rw [Bool.and_eq_true, decide_eq_true_eq, decide_eq_true_eq] at e
          exact hb e
        · rw [hp] at hy
          rw [show y = x from Option.some.inj (hy.symm.trans hx)] at h1 h2
          exact absurd ⟨h1, h2⟩ hb
    · refine .inl ⟨decide_eq_false (by omega), cget_no fun y hy h1 h2 => ?_⟩
      rw [hp] at hy
      have := (List.getElem?_eq_some_iff.1 hy).1
      exact absurd (by omega) hlt
  rcases key with ⟨k1, hno⟩ | ⟨k1, x, H, hx, hH, key⟩
  · have Hz5 := Lib.hid (Hg.out.symm.trans hno)
    have K1 := Lib.hid k1
    clear k1 hno
    go_upto_region 9 with (first
      | (go_at_call 23; (with_reducible refine (must_one HS.out (ask_one HS.out K1.out)).mono ?_); rintro e w2 ⟨rfl, hg⟩; have HS2 := Lib.hid hg; clear hg)
      | (go_at_call 23; (with_reducible refine (must_no _ HS2.out).mono ?_); rintro e w3 ⟨rfl, hg⟩; have HS3 := Lib.hid hg; clear hg)
      | (go_at_call 23; (with_reducible refine (must_no _ HS3.out).mono ?_); rintro e w4 ⟨rfl, hg⟩; have HS4 := Lib.hid hg; clear hg))
    have hz5 := Hz5.out
    rw [Prod.mk.injEq, Prod.mk.injEq, Prod.mk.injEq, Prod.mk.injEq] at hz5
    obtain ⟨rfl, rfl, rfl, rfl, rfl⟩ := hz5
    obtain ⟨f0, f1⟩ := HS4.out.flag
    obtain ⟨⟨z0, z1, z2, z3, z4, z5, z6, z7⟩, y0, y1, y2, y3, y4, y5, y6, y7⟩ := nzy HS4.out.r
    go_wp2_with fail
    have hf := filln_blk zeroN HS4.out.r
    have hst := filln_stp zeroN HS4.out.stp (show w.heap.size ≤ w.heap.size + 1 by omega)
    change bodyPost _ _ _ _ _ (fillN w4 (w.heap.size + 1) zeroN)
    generalize fillN w4 (w.heap.size + 1) zeroN = Y at hf hst ⊢
    clear z0 z1 z2 z3 z4 z5 z6 z7 y0 y1 y2 y3 y4 y5 y6 y7 f0 f1
    obtain ⟨z0, z1, z2, z3, z4, z5, z6, z7⟩ := nd_cells hf
    refine bodyPost_ret (v := .tuple #[nv zeroN, .int .i64 0, .int .i64 0, .int .i64 0, .bool false]) (by simp [results, Tryz.results9, go_sem, *]) rfl ⟨rfl, hst⟩
  · have K1 := Lib.hid k1
    have Hx := Lib.hid hx
    have HH := Lib.hid hH
    clear k1 hx hH
    rcases key with ⟨k2, hno⟩ | ⟨k2, M, R, N, P, hM, hR, hR4, hN, hsN, hP, key⟩
    · have Hz5 := Lib.hid (Hg.out.symm.trans hno)
      have K2 := Lib.hid k2
      clear k2 hno
      go_upto_region 9 with (first
        | (go_at_call 23; (with_reducible refine (must_one HS.out (ask_one HS.out K1.out)).mono ?_); rintro e w2 ⟨rfl, hg⟩; have HS2 := Lib.hid hg; clear hg)
        | (go_at_call 23; (with_reducible refine (must_two HS2.out (ask_two HS2.out Hz.out HL.out Hx.out HH.out K2.out)).mono ?_); rintro e w3 ⟨rfl, hg⟩; have HS3 := Lib.hid hg; clear hg)
        | (go_at_call 23; (with_reducible refine (must_no _ HS3.out).mono ?_); rintro e w4 ⟨rfl, hg⟩; have HS4 := Lib.hid hg; clear hg))
      have hz5 := Hz5.out
      rw [Prod.mk.injEq, Prod.mk.injEq, Prod.mk.injEq, Prod.mk.injEq] at hz5
      obtain ⟨rfl, rfl, rfl, rfl, rfl⟩ := hz5
      obtain ⟨f0, f1⟩ := HS4.out.flag
      obtain ⟨⟨z0, z1, z2, z3, z4, z5, z6, z7⟩, y0, y1, y2, y3, y4, y5, y6, y7⟩ := nzy HS4.out.r
      go_wp2_with fail
      have hf := filln_blk zeroN HS4.out.r
      have hst := filln_stp zeroN HS4.out.stp (show w.heap.size ≤ w.heap.size + 1 by omega)
      change bodyPost _ _ _ _ _ (fillN w4 (w.heap.size + 1) zeroN)
      generalize fillN w4 (w.heap.size + 1) zeroN = Y at hf hst ⊢
      clear z0 z1 z2 z3 z4 z5 z6 z7 y0 y1 y2 y3 y4 y5 y6 y7 f0 f1
      obtain ⟨z0, z1, z2, z3, z4, z5, z6, z7⟩ := nd_cells hf
      refine bodyPost_ret (v := .tuple #[nv zeroN, .int .i64 0, .int .i64 0, .int .i64 0, .bool false]) (by simp [results, Tryz.results9, go_sem, *]) rfl ⟨rfl, hst⟩
    · have K2 := Lib.hid k2
      have HM := Lib.hid hM
      have HR := Lib.hid hR
      have HR4 := Lib.hid hR4
      have HN := Lib.hid hN
      have HsN := Lib.hid hsN
      have HP := Lib.hid hP
      clear k2 hM hR hR4 hN hsN hP
      rcases key with ⟨k3, hno⟩ | ⟨k3, hyes⟩
      · have Hz5 := Lib.hid (Hg.out.symm.trans hno)
        have K3 := Lib.hid k3
        clear k3 hno
        go_upto_region 9 with (first
          | (go_at_call 23; (with_reducible refine (must_one HS.out (ask_one HS.out K1.out)).mono ?_); rintro e w2 ⟨rfl, hg⟩; have HS2 := Lib.hid hg; clear hg)
          | (go_at_call 23; (with_reducible refine (must_two HS2.out (ask_two HS2.out Hz.out HL.out Hx.out HH.out K2.out)).mono ?_); rintro e w3 ⟨rfl, hg⟩; have HS3 := Lib.hid hg; clear hg)
          | (go_at_call 23; (with_reducible refine (must_three HS3.out (ask_three HS3.out Hz.out Hz3.out HL.out Hx.out HM.out HR.out HR4.out HN.out HsN.out HP.out K3.out)).mono ?_); rintro e w4 ⟨rfl, hg⟩; have HS4 := Lib.hid hg; clear hg))
        have hz5 := Hz5.out
        rw [Prod.mk.injEq, Prod.mk.injEq, Prod.mk.injEq, Prod.mk.injEq] at hz5
        obtain ⟨rfl, rfl, rfl, rfl, rfl⟩ := hz5
        obtain ⟨f0, f1⟩ := HS4.out.flag
        obtain ⟨⟨z0, z1, z2, z3, z4, z5, z6, z7⟩, y0, y1, y2, y3, y4, y5, y6, y7⟩ := nzy HS4.out.r
        go_wp2_with fail
        have hf := filln_blk zeroN HS4.out.r
        have hst := filln_stp zeroN HS4.out.stp (show w.heap.size ≤ w.heap.size + 1 by omega)
        change bodyPost _ _ _ _ _ (fillN w4 (w.heap.size + 1) zeroN)
        generalize fillN w4 (w.heap.size + 1) zeroN = Y at hf hst ⊢
        clear z0 z1 z2 z3 z4 z5 z6 z7 y0 y1 y2 y3 y4 y5 y6 y7 f0 f1
        obtain ⟨z0, z1, z2, z3, z4, z5, z6, z7⟩ := nd_cells hf
        refine bodyPost_ret (v := .tuple #[nv zeroN, .int .i64 0, .int .i64 0, .int .i64 0, .bool false]) (by simp [results, Tryz.results9, go_sem, *]) rfl ⟨rfl, hst⟩
      · have Hz5 := Lib.hid (Hg.out.symm.trans hyes)
        have K3 := Lib.hid k3
        clear k3 hyes
        go_upto_region 11 with (first
          | (go_at_call 23; (with_reducible refine (must_one HS.out (ask_one HS.out K1.out)).mono ?_); rintro e w2 ⟨rfl, hg⟩; have HS2 := Lib.hid hg; clear hg)
          | (go_at_call 23; (with_reducible refine (must_two HS2.out (ask_two HS2.out Hz.out HL.out Hx.out HH.out K2.out)).mono ?_); rintro e w3 ⟨rfl, hg⟩; have HS3 := Lib.hid hg; clear hg)
          | (go_at_call 23; (with_reducible refine (must_three HS3.out (ask_three HS3.out Hz.out Hz3.out HL.out Hx.out HM.out HR.out HR4.out HN.out HsN.out HP.out K3.out)).mono ?_); rintro e w4 ⟨rfl, hg⟩; have HS4 := Lib.hid hg; clear hg; obtain ⟨f0, f1⟩ := HS4.out.flag))
        have hz5 := Hz5.out
        rw [Prod.mk.injEq, Prod.mk.injEq, Prod.mk.injEq, Prod.mk.injEq] at hz5
        obtain ⟨rfl, rfl, rfl, rfl, rfl⟩ := hz5
        clear f0 f1
        obtain ⟨⟨z0, z1, z2, z3, z4, z5, z6, z7⟩, y0, y1, y2, y3, y4, y5, y6, y7⟩ := nzy HS4.out.r
        obtain ⟨q0, q1, q2, q3, q4, q5, q6, q7⟩ := nd_cells HS4.out.n
        obtain ⟨x0, x1, x2, x3, x4, x5, x6, x7, x8, x9, x10⟩ := hd_cells HS4.out.h
        obtain ⟨-, -, p2⟩ := HS4.out.cells
        clear x0 x1 x2 x3 x4 x5 x6 x7 x8
        have g0 : (K : Int) + 1 ≤ 9223372036854775807 := by omega
        have hge := HS4.out.ge
        have hf := filln_blk m HS4.out.r
        have hst := filln_stp m HS4.out.stp (show w.heap.size ≤ w.heap.size + 1 by omega)
        go_region
        change Exit.then _ _ Exit.normal _ (fillN w4 (w.heap.size + 1) m).drew
        generalize fillN w4 (w.heap.size + 1) m = Y at hf hst ⊢
        clear z0 z1 z2 z3 z4 z5 z6 z7 y0 y1 y2 y3 y4 y5 y6 y7 q0 q1 q2 q3 q4 q5 q6 q7 x9 x10 p2
        obtain ⟨z0, z1, z2, z3, z4, z5, z6, z7⟩ := nd_cells hf.drew
        go_wp2
        refine bodyPost_ret (v := .tuple #[nv m, .int .i64 H.off, .int .i64 H.real, .int .i64 ((K + 1 : Nat) : Int), .bool true]) (by simp [results, Tryz.results9, go_sem, *]) rfl ⟨rfl, hst.drewN 1⟩
/-- The contracts of the four calls. -/
theorem contI : ContI where
  may := fun n v e hn off b hb w => cmay_s n v e hn off b hb w
  many := fun n v e hn m hm w => cmany_s n v e hn m hm w
  put := fun n v e hn off ls hls z hz b hb w => cput_s n v e hn off ls hls z hz b hb w
  get := fun ls z hz hz3 hsm m off whole k b h A c w ha => cget_s ls z hz hz3 hsm m off whole k b h A c w ha
end Go.Proofs.YtagkdodjffhlmaaGreat.Cont
