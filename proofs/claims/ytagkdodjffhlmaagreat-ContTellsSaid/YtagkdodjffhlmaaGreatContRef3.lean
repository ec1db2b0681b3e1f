/-
  The document's own answers for package cont: Get: no statement is proved here.
-/
import Derived.Test.YtagkdodjffhlmaaGreatContRef2
import Derived.Test.YtagkdodjffhlmaaGreatBlockK
namespace Go.Proofs.YtagkdodjffhlmaaGreat.Cont
open Go.RowKit Go.Proofs.YtagkdodjffhlmaaGreat.Str Go.Proofs.YtagkdodjffhlmaaGreat.Base Go.Proofs.YtagkdodjffhlmaaGreat.Node Go.Proofs.YtagkdodjffhlmaaGreat.Head Go.Proofs.YtagkdodjffhlmaaGreat.Long Go.Proofs.YtagkdodjffhlmaaGreat.ContM
open Go.Proofs.YtagkdodjffhlmaaGreat.Tree (oneB)
set_option linter.unusedVariables false

theorem cell_lt {w : World} {a : Addr} {v : Value} (h : w.cell? a = some v) : a.block < w.heap.size := by
  rcases Nat.lt_or_ge a.block w.heap.size with hl | hl
  · exact hl
  · have : w.heap[a.block]? = none := Array.getElem?_eq_none hl
    simp [World.cell?, this] at h
set_option maxRecDepth 100000 in
set_option maxHeartbeats 4000000 in
theorem rcget_nil (A : Option Addr) (c : Nat) (w : World) :
    Calls Tryz.prog 10 #[.slice A 0 c] w fun e w' => e = .returned (.tuple #[nv zeroN, .int .i64 0, .int .i64 0, .int .i64 0, .bool false]) ∧ Stp w w' := by
  have h0 := Stp.alloc (Stp.refl w) (.cells (ncells zeroN) 23)
  have Hz := Lib.hid (Blk.new w 23 (ncells zeroN))
  go_enter Tryz.func10, Tryz.ntmps10
  go_wp2_with fail
  change bodyPost _ _ _ _ _ (w.alloc (.cells (ncells zeroN) 23))
  obtain ⟨W, hW⟩ : ∃ z, w.alloc (.cells (ncells zeroN) 23) = z := ⟨_, rfl⟩
  rw [hW] at h0 Hz ⊢
  obtain ⟨z0, z1, z2, z3, z4, z5, z6, z7⟩ := nd_cells Hz.out
  clear hW
  refine bodyPost_ret (v := .tuple #[nv zeroN, .int .i64 0, .int .i64 0, .int .i64 0, .bool false]) (by simp [results, Tryz.results10, go_sem, *]) rfl ⟨rfl, h0⟩
set_option maxRecDepth 100000 in
set_option maxHeartbeats 4000000 in
theorem rcget_stop (ls : List L) (N : Nat) (hN : ls.length = N) (l : L) (hl : ls[0]? = some l) (A : Option Addr) (c : Nat) (w : World) (ha : RdL w A c ls) (m : Nd) (off whole k : Int) (b : Bool) (h : tryC ls 1 [] = (m, off, whole, k, b))
    (hstop : b = true ∨ N < 3 ∨ ∃ l1 : L, ls[1]? = some l1 ∧ l1.length ≠ 512) :
    Calls Tryz.prog 10 #[.slice A N c] w fun e w' => e = .returned (.tuple #[nv m, .int .i64 off, .int .i64 whole, .int .i64 k, .bool b]) ∧ Stp w w' := by
  have h0 := Stp.alloc (Stp.refl w) (.cells (ncells zeroN) 23)
  have Hz := Lib.hid (Blk.new w 23 (ncells zeroN))
  have HL := Lib.hid ha
  have g0 : 1 ≤ (N : Int) := by
    have := (List.getElem?_eq_some_iff.1 hl).1
    omega
  obtain ⟨b3, k3⟩ : ∃ b, decide ((N : Int) < 3) = b := ⟨_, rfl⟩
  have key : b = true ∨ (b = false ∧ b3 = true) ∨ (b = false ∧ b3 = false ∧ ∃ bb oo A1 n1 c1, A = some ⟨bb, oo, none⟩ ∧ 1 < (N : Int) ∧ w.cell? ⟨bb, oo + 1, none⟩ = some (.slice A1 n1 c1) ∧ bb < w.heap.size ∧ ((n1 : Int) != 512) = true) := by
    cases b
    · cases b3
      · refine .inr (.inr ⟨rfl, rfl, ?_⟩)
        have h3 : ¬ N < 3 := fun e => by rw [decide_eq_false_iff_not] at k3; omega
        obtain ⟨l1, e1, e2⟩ := (hstop.resolve_left (by simp)).resolve_left h3
        obtain ⟨bb, oo, A1, c1, rfl, hc, -⟩ := ha.at_ e1
        exact ⟨bb, oo, A1, l1.length, c1, rfl, by omega, hc, cell_lt hc, by simp; omega⟩
      · exact .inr (.inl ⟨rfl, rfl⟩)
    · exact .inl rfl
  have HN := Lib.hid hN
  have Hl := Lib.hid hl
  have HT := Lib.hid h
  clear ha hN hl hstop h
  rcases key with rfl | ⟨rfl, rfl⟩ | ⟨rfl, rfl, bb, oo, A1, n1, c1, rfl, g3, hc1, hlt, g4⟩
  all_goals
    go_enter Tryz.func10, Tryz.ntmps10
    go_upto_region 4 with (go_at_call 31; refine (rctry_s ls _ c _ (HL.out.keep h0) N HN.out 0 l Hl.out 1 (by omega) (by omega) [] (by simp) m off whole k _ HT.out).mono ?_; rintro e w1 ⟨rfl, hs⟩; have hgz := (Hz.out.keep hs Hz.out.lt).lt; replace h0 := Stp.alloc (Stp.trans h0 hs) (.cells (ncells m) 23); replace Hz := Lib.hid ((Hz.out.keep hs Hz.out.lt).alloc (.cells (ncells m) 23)); have Hm := Lib.hid (Blk.new w1 23 (ncells m)); clear hs)
    obtain ⟨gm, hgm⟩ : ∃ x, w1.heap.size = x := ⟨_, rfl⟩
    obtain ⟨W, hW⟩ : ∃ z, w1.alloc (.cells (ncells m) 23) = z := ⟨_, rfl⟩
    rw [hW] at h0 Hz Hm ⊢
    rw [hgm] at hgz Hm ⊢
    clear hgm hW
    obtain ⟨⟨z0, z1, z2, z3, z4, z5, z6, z7⟩, y0, y1, y2, y3, y4, y5, y6, y7⟩ := nzy Hz.out
    obtain ⟨q0, q1, q2, q3, q4, q5, q6, q7⟩ := nd_cells Hm.out
    (try have hc2 := (h0.cell (p := ⟨bb, oo + 1, none⟩) hlt).trans hc1)
    have hf := filln_blk m Hz.out
    have hst := filln_stp m h0 (Nat.le_refl w.heap.size)
    go_wp2
    change bodyPost _ _ _ _ _ (fillN W w.heap.size m)
    generalize fillN W w.heap.size m = Y at hf hst ⊢
    clear z0 z1 z2 z3 z4 z5 z6 z7 y0 y1 y2 y3 y4 y5 y6 y7 q0 q1 q2 q3 q4 q5 q6 q7
    obtain ⟨z0, z1, z2, z3, z4, z5, z6, z7⟩ := nd_cells hf
    first
      | refine bodyPost_ret (v := .tuple #[nv m, .int .i64 off, .int .i64 whole, .int .i64 k, .bool true]) (by simp [results, Tryz.results10, go_sem, *]) rfl ⟨rfl, hst⟩
      | refine bodyPost_ret (v := .tuple #[nv m, .int .i64 off, .int .i64 whole, .int .i64 k, .bool false]) (by simp [results, Tryz.results10, go_sem, *]) rfl ⟨rfl, hst⟩
theorem upto_at {l : L} {k : Nat} (hk : l[k]? = some 0) (h : (0 : UInt8) ∉ l.take k) : upto l = l.take k := by
  obtain ⟨hlt, he⟩ := List.getElem?_eq_some_iff.1 hk
  have e : l = l.take k ++ (0 :: l.drop (k + 1)) := by
    rw [← he, ← List.drop_eq_getElem_cons hlt, List.take_append_drop]
  unfold upto
  conv => lhs; rw [e]
  rw [List.takeWhile_append_of_pos (by
    intro y hy
    have hy2 : y ≠ 0 := fun e0 => h (by rw [← e0]; exact hy)
    simpa using hy2)]
  rw [List.takeWhile_cons_of_neg (by simp), List.append_nil]
def NmRel (l : L) (nm i : Value) : Prop := ∃ k : Nat, k ≤ 512 ∧ i = .int .i64 (k : Int) ∧ nm = .string ⟨(l.take k).toArray⟩ ∧ Hid ((0 : UInt8) ∉ l.take k)
set_option maxRecDepth 100000 in
set_option maxHeartbeats 4000000 in
theorem rcget_go (ls : List L) (N : Nat) (hN : ls.length = N) (l : L) (hl : ls[0]? = some l) (A : Option Addr) (c : Nat) (w : World) (ha : RdL w A c ls) (m : Nd) (off whole k : Int) (h : tryC ls 1 [] = (m, off, whole, k, false))
    (h3 : 3 ≤ N) (l1 : L) (hl1 : ls[1]? = some l1) (h512 : l1.length = 512) (l2 : L) (hl2 : ls[2]? = some l2) (m3 : Nd) (off3 whole3 k3 : Int) (b3 : Bool) (ht : tryC ls 3 (upto l1) = (m3, off3, whole3, k3, b3)) :
    Calls Tryz.prog 10 #[.slice A N c] w fun e w' => e = .returned (.tuple #[nv m3, .int .i64 off3, .int .i64 whole3, .int .i64 k3, .bool b3]) ∧ Stp w w' := by
  have h0 := Stp.alloc (Stp.refl w) (.cells (ncells zeroN) 23)
  have Hz := Lib.hid (Blk.new w 23 (ncells zeroN))
  have HL := Lib.hid ha
  obtain ⟨bb, oo, A1, c1, rfl, hc1, hR1⟩ := ha.at_ hl1
  rw [h512] at hc1
  have hlt := cell_lt hc1
  have g0 : 1 ≤ (N : Int) := by omega
  have g1 : decide ((N : Int) < 3) = false := decide_eq_false (by omega)
  have g3 : 1 < (N : Int) := by omega
  have HN := Lib.hid hN
  have Hl := Lib.hid hl
  have Hl2 := Lib.hid hl2
  have HT := Lib.hid h
  have HT3 := Lib.hid ht
  have H512 := Lib.hid h512
  have HR1 := Lib.hid hR1
  have Hup := Lib.hid (show (upto l1).length ≤ 1000 by
    have := congrArg List.length (upto_take l1)
    rw [List.length_take] at this
    omega)
  have HCL : Hid True := Lib.hid trivial
  clear ha hN hl hl1 hl2 h ht h512 hR1 h3
  go_enter Tryz.func10, Tryz.ntmps10
  go_upto_region 4 with (go_at_call 31; refine (rctry_s ls _ c _ (HL.out.keep h0) N HN.out 0 l Hl.out 1 (by omega) (by omega) [] (by simp) m off whole k _ HT.out).mono ?_; rintro e w1 ⟨rfl, hs⟩; have hgz := (Hz.out.keep hs Hz.out.lt).lt; replace h0 := Stp.alloc (Stp.trans h0 hs) (.cells (ncells m) 23); replace Hz := Lib.hid ((Hz.out.keep hs Hz.out.lt).alloc (.cells (ncells m) 23)); clear hs)
  obtain ⟨gm, hgm⟩ : ∃ x, w1.heap.size = x := ⟨_, rfl⟩
  obtain ⟨W, hW⟩ : ∃ z, w1.alloc (.cells (ncells m) 23) = z := ⟨_, rfl⟩
  rw [hW] at h0 Hz ⊢
  rw [hgm] at hgz ⊢
  clear hgm hW
  have hc2 := (h0.cell (p := ⟨bb, oo + 1, none⟩) hlt).trans hc1
  replace HR1 := Lib.hid (HR1.out.keep h0)
  clear hc1
  go_wp2_with fail
  go_loop [12, 13] (fun nm i => NmRel l1 nm i) (fun _ i => 512 - (intOf i).toNat)
  case atStart => exact ⟨0, by omega, rfl, rfl, Lib.hid (by simp)⟩
  case round =>
    obtain ⟨j, hj, rfl, rfl, Hj⟩ := hrel
    by_cases hlt2 : j < 512
    · have hjl : j < l1.length := by rw [H512.out]; exact hlt2
      obtain ⟨x, hx⟩ : ∃ x, l1[j]? = some x := ⟨_, List.getElem?_eq_getElem hjl⟩
      obtain ⟨b1, o1, rfl, hcell⟩ := HR1.out.at_ (j := j) (by rw [bs_length]; exact hjl)
      have ca := hcell j (.int .u8 (x.toNat : Int)) (by rw [bs_at hjl, ← (List.getElem?_eq_some_iff.1 hx).2])
      have hjc : j + 1 ≤ c1 := by have := HR1.out.length_le; rw [bs_length, H512.out] at this; omega
      have e1 : (j : Int) < 512 := by omega
      by_cases h5 : x = 0
      · subst h5
        have hu := (upto_at hx Hj.out).symm
        replace ca : W.cell? ⟨b1, o1 + j, none⟩ = some (.int .u8 0) := ca
        rw [hu]
        clear hx hu hcell hjl
        clear H512 HR1 Hj HCL
        go_upto_region 12 with (go_at_call 31; refine (rctry_s ls _ c _ (HL.out.keep h0) N HN.out 2 l2 Hl2.out 3 (by omega) (by omega) (upto l1) Hup.out m3 off3 whole3 k3 b3 HT3.out).mono ?_; rintro e w3 ⟨rfl, hs⟩; have hgy := (Hz.out.keep hs Hz.out.lt).lt; replace h0 := Stp.alloc (Stp.trans h0 hs) (.cells (ncells m3) 23); replace Hz := Lib.hid ((Hz.out.keep hs Hz.out.lt).alloc (.cells (ncells m3) 23)); have Hm := Lib.hid (Blk.new w3 23 (ncells m3)); clear hs)
        obtain ⟨gy, hgm⟩ : ∃ x, w3.heap.size = x := ⟨_, rfl⟩
        obtain ⟨Y, hW⟩ : ∃ z, w3.alloc (.cells (ncells m3) 23) = z := ⟨_, rfl⟩
        rw [hW] at h0 Hz Hm ⊢
        rw [hgm] at hgy Hm ⊢
        clear hgm hW
        obtain ⟨⟨z0, z1, z2, z3, z4, z5, z6, z7⟩, y0, y1, y2, y3, y4, y5, y6, y7⟩ := nzy Hz.out
        obtain ⟨q0, q1, q2, q3, q4, q5, q6, q7⟩ := nd_cells Hm.out
        have hf := filln_blk m3 Hz.out
        have hst := filln_stp m3 h0 (Nat.le_refl w.heap.size)
        go_wp2
        change bodyPost _ _ _ _ _ (fillN Y w.heap.size m3)
        generalize fillN Y w.heap.size m3 = X at hf hst ⊢
        clear z0 z1 z2 z3 z4 z5 z6 z7 y0 y1 y2 y3 y4 y5 y6 y7 q0 q1 q2 q3 q4 q5 q6 q7
        obtain ⟨z0, z1, z2, z3, z4, z5, z6, z7⟩ := nd_cells hf
        refine bodyPost_ret (v := .tuple #[nv m3, .int .i64 off3, .int .i64 whole3, .int .i64 k3, .bool b3]) (by simp [results, Tryz.results10, go_sem, *]) rfl ⟨rfl, hst⟩
      · have g5 : ((x.toNat : Int) != 0) = true := by
          rw [bne_iff_ne]
          intro e
          exact h5 (UInt8.toNat_inj.1 (by show x.toNat = 0; omega))
        have R := Lib.hid (show (0 : UInt8) ∉ l1.take (j + 1) by
          rw [List.take_add_one, hx]
          intro h
          rcases List.mem_append.1 h with h | h
          · exact Hj.out h
          · simp at h; exact h5 h.symm)
        have hsl := slice_lh b1 o1 512 c1 j 1 (by omega) (by omega)
        replace hsl : ∀ w, (Instr.slice 36 (.slice (some ⟨b1, o1, none⟩) 512 c1) (some (.int .i64 (j : Int))) (some (.int .i64 ((j : Int) + 1))) none).run Tryz.prog w = .ok (.slice (some ⟨b1, o1 + j, none⟩) 1 (c1 - j)) w := hsl
        have hcv : (convert 36 9 (.slice (some ⟨b1, o1 + j, none⟩) 1 (c1 - j))).run Tryz.prog W = .ok (.string ⟨[x].toArray⟩) W := by
          have h1 := rd_sub HR1.out (i := j) (n := 1) (by omega)
          have e2 : sub l1 j 1 = [x] := by
            unfold sub
            rw [List.drop_eq_getElem_cons hjl, (List.getElem?_eq_some_iff.1 hx).2]
            rfl
          rw [e2] at h1
          exact run_string_rd (P := Tryz.prog) W 36 9 5 Tryz.underlying36 Tryz.underlying5 Tryz.underlying9 _ _ _ h1
        have hadd := fun w => add_ll (l1.take j) [x] (by rw [List.length_take, H512.out]; simp; omega) w
        rw [show l1.take j ++ [x] = l1.take (j + 1) by rw [List.take_add_one, hx]; rfl] at hadd
        obtain ⟨u, hu⟩ : ∃ u, l1.take j = u := ⟨_, rfl⟩
        obtain ⟨v, hv⟩ : ∃ v, l1.take (j + 1) = v := ⟨_, rfl⟩
        rw [hu, hv] at hadd
        rw [hv] at R
        have Hv := Lib.hid hv
        rw [hu]
        clear hx hcell hjl h5 hu hv
        go_wp2_with fail
        go_round
        · exact ⟨j + 1, by omega, by go_num, by rw [Hv.out], by rw [Hv.out]; exact R⟩
        · simp [intOf]; omega
    · obtain rfl : j = 512 := by omega
      have hu : l1.take 512 = upto l1 := by
        have h1 := Hj.out
        rw [List.take_of_length_le (by rw [H512.out]; exact Nat.le_refl _)] at h1 ⊢
        exact (upto_none h1).symm
      rw [hu]
      clear hu hlt2
      · skip
        clear H512 HR1 Hj HCL
        go_upto_region 12 with (go_at_call 31; refine (rctry_s ls _ c _ (HL.out.keep h0) N HN.out 2 l2 Hl2.out 3 (by omega) (by omega) (upto l1) Hup.out m3 off3 whole3 k3 b3 HT3.out).mono ?_; rintro e w3 ⟨rfl, hs⟩; have hgy := (Hz.out.keep hs Hz.out.lt).lt; replace h0 := Stp.alloc (Stp.trans h0 hs) (.cells (ncells m3) 23); replace Hz := Lib.hid ((Hz.out.keep hs Hz.out.lt).alloc (.cells (ncells m3) 23)); have Hm := Lib.hid (Blk.new w3 23 (ncells m3)); clear hs)
        obtain ⟨gy, hgm⟩ : ∃ x, w3.heap.size = x := ⟨_, rfl⟩
        obtain ⟨Y, hW⟩ : ∃ z, w3.alloc (.cells (ncells m3) 23) = z := ⟨_, rfl⟩
        rw [hW] at h0 Hz Hm ⊢
        rw [hgm] at hgy Hm ⊢
        clear hgm hW
        obtain ⟨⟨z0, z1, z2, z3, z4, z5, z6, z7⟩, y0, y1, y2, y3, y4, y5, y6, y7⟩ := nzy Hz.out
        obtain ⟨q0, q1, q2, q3, q4, q5, q6, q7⟩ := nd_cells Hm.out
        have hf := filln_blk m3 Hz.out
        have hst := filln_stp m3 h0 (Nat.le_refl w.heap.size)
        go_wp2
        change bodyPost _ _ _ _ _ (fillN Y w.heap.size m3)
        generalize fillN Y w.heap.size m3 = X at hf hst ⊢
        clear z0 z1 z2 z3 z4 z5 z6 z7 y0 y1 y2 y3 y4 y5 y6 y7 q0 q1 q2 q3 q4 q5 q6 q7
        obtain ⟨z0, z1, z2, z3, z4, z5, z6, z7⟩ := nd_cells hf
        refine bodyPost_ret (v := .tuple #[nv m3, .int .i64 off3, .int .i64 whole3, .int .i64 k3, .bool b3]) (by simp [results, Tryz.results10, go_sem, *]) rfl ⟨rfl, hst⟩

theorem rcget_s (ls : List L) (z : Nat) (hz : ls.length = z) (m : Nd) (off whole k : Int) (b : Bool) (h : getC ls = (m, off, whole, k, b)) (A : Option Addr) (c : Nat) (w : World) (ha : RdL w A c ls) :
    Calls Tryz.prog 10 #[.slice A z c] w fun e w' => e = .returned (.tuple #[nv m, .int .i64 off, .int .i64 whole, .int .i64 k, .bool b]) ∧ Stp w w' := by
  by_cases hn : ls = []
  · rw [getC, if_pos hn, none5] at h
    rw [Prod.mk.injEq, Prod.mk.injEq, Prod.mk.injEq, Prod.mk.injEq] at h
    obtain ⟨rfl, rfl, rfl, rfl, rfl⟩ := h
    rw [hn] at hz
    obtain rfl : z = 0 := hz.symm
    exact rcget_nil A c w
  · rw [getC, if_neg hn] at h
    have h1 : 0 < ls.length := List.length_pos_iff.2 hn
    have e0 : ls[0]? = some ls[0] := List.getElem?_eq_getElem h1
    obtain ⟨r, hr⟩ : ∃ r, tryC ls 1 [] = r := ⟨_, rfl⟩
    obtain ⟨m1, off1, wh1, k1, b1⟩ := r
    rw [hr] at h
    by_cases hs : b1 = true ∨ ls.length < 3 ∨ (ls.getD 1 []).length ≠ 512
    · rw [if_pos hs] at h
      rw [Prod.mk.injEq, Prod.mk.injEq, Prod.mk.injEq, Prod.mk.injEq] at h
      obtain ⟨rfl, rfl, rfl, rfl, rfl⟩ := h
      refine rcget_stop ls z hz _ e0 A c w ha _ _ _ _ _ hr ?_
      rcases hs with e | e | e
      · exact .inl e
      · exact .inr (.inl (by omega))
      · by_cases h3 : ls.length < 3
        · exact .inr (.inl (by omega))
        · refine .inr (.inr ⟨ls[1], List.getElem?_eq_getElem (by omega), ?_⟩)
          rw [List.getD_eq_getElem?_getD, List.getElem?_eq_getElem (by omega)] at e
          exact e
    · rw [if_neg hs] at h
      rw [not_or, not_or] at hs
      obtain ⟨f1, f2, f3⟩ := hs
      have hb1 : b1 = false := by simpa using f1
      subst hb1
      have e1 : ls[1]? = some ls[1] := List.getElem?_eq_getElem (by omega)
      have e2 : ls[2]? = some ls[2] := List.getElem?_eq_getElem (by omega)
      have hg : ls.getD 1 [] = ls[1] := by rw [List.getD_eq_getElem?_getD, e1]; rfl
      rw [hg] at h f3
      exact rcget_go ls z hz _ e0 A c w ha _ _ _ _ hr (by omega) _ e1 (by simpa using f3) _ e2 _ _ _ _ _ h
end Go.Proofs.YtagkdodjffhlmaaGreat.Cont
