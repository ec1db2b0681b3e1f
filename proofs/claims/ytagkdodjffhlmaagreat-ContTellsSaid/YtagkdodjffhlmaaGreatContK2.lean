/-
  Contracts of package cont's own functions: what stands as a long name, the file of a header, a file with so many bytes; and that what Get answers is what the document asks: no statement is proved here.
-/
import Derived.Test.YtagkdodjffhlmaaGreatContK
import Derived.Test.YtagkdodjffhlmaaGreatEntrySl
import Derived.Test.YtagkdodjffhlmaaGreatHeadHlp
import Derived.Test.YtagkdodjffhlmaaGreatShelf
namespace Go.Proofs.YtagkdodjffhlmaaGreat.Cont
open Go.RowKit Go.Proofs.YtagkdodjffhlmaaGreat.Str Go.Proofs.YtagkdodjffhlmaaGreat.Base Go.Proofs.YtagkdodjffhlmaaGreat.Node Go.Proofs.YtagkdodjffhlmaaGreat.Head Go.Proofs.YtagkdodjffhlmaaGreat.Long Go.Proofs.YtagkdodjffhlmaaGreat.ContM
open Go.Proofs.YtagkdodjffhlmaaGreat.Tree (oneB)
set_option linter.unusedVariables false

/-- What stands ahead as a long name, and in how many blocks. -/
def longV (ls : List L) : L × Nat := if 2 ≤ ls.length ∧ (getH (ls.getD 0 [])).ty = 76 then (upto (ls.getD 1 []), 2) else ([], 0)
/-- The file that the block at a place tells of. -/
def fileV (x p : L) : Nd := withN (nodeC (getH x) (nameC (getH x) p)) (getH x).real.toNat
theorem cget_yes {ls : List L} {x p : L} {k : Nat} (hx : ls[k]? = some x) (hs : putC (fileV x p) (getH x).off = ls.take (k + 1)) (hr : 0 ≤ (getH x).real) :
    getC ls = (nodeC (getH x) (nameC (getH x) p), (getH x).off, (getH x).real, ((k + 1 : Nat) : Int), true) := by
  have hk : k < ls.length := (List.getElem?_eq_some_iff.1 hx).1
  have hl : (putC (fileV x p) (getH x).off).length = k + 1 := by rw [hs, List.length_take]; omega
  have hm : mayC (fileV x p) (getH x).off = true := by
    cases h : mayC (fileV x p) (getH x).off
    · rw [putC_no h] at hl
      simp at hl
    · rfl
  have h := get_of (l := ls) hm (by rw [hl]; exact hs.symm)
  rw [h, hl]
  have e1 : bare (fileV x p) = nodeC (getH x) (nameC (getH x) p) := rfl
  have e2 : ((fileV x p).data.length : Int) = (getH x).real := by
    show ((List.replicate (getH x).real.toNat (0 : UInt8)).length : Int) = _
    rw [List.length_replicate]
    omega
  rw [e1, e2]
theorem file_of {n : Nd} {off : Int} (h : mayC n off = true) (hd : n.data = List.replicate n.data.length 0) {p : L} (hp : nameC (headC n off) p = n.path) : fileV (blk (headC n off)) p = n := by
  obtain ⟨h1, h2⟩ := getH_put h
  have f := Entry.oneF (isFile_iff.1 (mayC_iff.1 h).1).1
  rw [fileV, h2, hp, bare_is h]
  have e1 : (headC n off).real.toNat = n.data.length := by show ((n.data.length : Int)).toNat = _; omega
  rw [e1, withN, ← hd]
  rfl
theorem cget_no {ls : List L} (h : ∀ x, ls[(longV ls).2]? = some x → (getH x).ty = 77 → (getH x).real ≤ 4000 → putC (fileV x (longV ls).1) (getH x).off ≠ ls.take ((longV ls).2 + 1)) : getC ls = none5 := by
  rcases get_yes ls with e | ⟨n, off, hm, hd, hl, ht, -⟩
  · exact e
  · exfalso
    have hf := (mayC_iff.1 hm).1
    have hx := textL_iff.1 (path_text hf)
    have h4 := (Entry.oneF (isFile_iff.1 hf).1).data
    obtain ⟨h1, h2⟩ := getH_put hm
    by_cases hl3 : 100 < n.path.length
    · have e : putC n off = [blk (llH 76 n.path), BlockM.blk (n.path ++ [0]), blk (headC n off)] := by rw [putC_yes hm, aheadC, if_pos hl3]; rfl
      have e3 : (putC n off).length = 3 := by rw [e]; rfl
      rw [e3] at hl ht
      obtain ⟨a, b, c, r, rfl⟩ : ∃ a b c r, ls = a :: b :: c :: r := by
        match ls, hl with
        | a :: b :: c :: r, _ => exact ⟨a, b, c, r, rfl⟩
      have hh : a = blk (llH 76 n.path) ∧ b = BlockM.blk (n.path ++ [0]) ∧ c = blk (headC n off) := by
        rw [e] at ht
        have h1 : [a, b, c] = [blk (llH 76 n.path), BlockM.blk (n.path ++ [0]), blk (headC n off)] := ht
        rw [List.cons.injEq, List.cons.injEq, List.cons.injEq] at h1
        exact ⟨h1.1, h1.2.1, h1.2.2.1⟩
      obtain ⟨e11, e12, e13⟩ := hh
      obtain ⟨k1, k2, k3⟩ := Entry.llH_ok (ahead_ok hf)
      have el : longV (a :: b :: c :: r) = (n.path, 2) := by
        rw [longV, if_pos]
        · show (upto b, 2) = _
          rw [e12, upto_text hx.2.2 hx.2.1]
        · refine ⟨by simp, ?_⟩
          show (getH a).ty = 76
          rw [e11, get_blk k1 k2, k3]
      rw [el] at h
      have hp : nameC (headC n off) n.path = n.path := by rw [nameC, if_neg (by rintro e; rw [e] at hl3; simp at hl3)]
      refine h c rfl ?_ ?_ ?_
      · rw [e13, h2]; rfl
      · rw [e13, h2]; show (n.data.length : Int) ≤ 4000; omega
      · show putC (fileV c n.path) (getH c).off = _
        rw [e13, file_of hm hd hp, h2]
        show putC n off = _
        rw [← e13]
        exact ht.symm
    · have e : putC n off = [blk (headC n off)] := by rw [putC_yes hm, aheadC, if_neg hl3]; rfl
      have e1 : (putC n off).length = 1 := by rw [e]; rfl
      rw [e1] at hl ht
      obtain ⟨a, r, rfl⟩ : ∃ a r, ls = a :: r := by
        match ls, hl with
        | a :: r, _ => exact ⟨a, r, rfl⟩
      have hh : a = blk (headC n off) := by
        rw [e] at ht
        have h1 : [a] = [blk (headC n off)] := ht
        rw [List.cons.injEq] at h1
        exact h1.1
      have el : longV (a :: r) = ([], 0) := by
        rw [longV, if_neg]
        rintro ⟨-, h7⟩
        have h8 : (getH a).ty = 76 := h7
        rw [hh, h2] at h8
        have h9 : (77 : UInt8) = 76 := h8
        exact absurd h9 (by decide)
      rw [el] at h
      have hp : nameC (headC n off) [] = n.path := by rw [nameC, if_pos rfl]; exact List.take_of_length_le (by omega)
      refine h a rfl ?_ ?_ ?_
      · rw [hh, h2]; rfl
      · rw [hh, h2]; show (n.data.length : Int) ≤ 4000; omega
      · show putC (fileV a []) (getH a).off = _
        rw [hh, file_of hm hd hp, h2]
        show putC n off = _
        rw [← hh]
        exact ht.symm

theorem repeat_noughts (R : Nat) (hR : R ≤ 4000) (t : L) (ht : List.replicate R 0 = t) (w : World) :
    Calls Tryz.prog 53 #[.string ⟨#[0]⟩, .int .i64 (R : Int)] w fun e w' => e = .returned (.string ⟨t.toArray⟩) ∧ Stp w w' := by
  refine (Tryz.strings_Repeat ⟨#[0]⟩ R w (by omega) (by show 1 * R ≤ _; omega)).mono ?_
  rintro e w' ⟨rfl, hs⟩
  refine ⟨?_, hs⟩
  have := Lib.repeatL_replicate 0 1 R
  rw [Nat.mul_one] at this
  rw [← ht]
  show Ending.returned (.string ⟨(Lib.repeatL [0] R).toArray⟩) = _
  rw [← this]
  rfl
set_option maxRecDepth 100000 in
set_option maxHeartbeats 2000000 in
theorem filled_s (n : Nd) (v : Value) (hv : v = nv n) (R : Nat) (hR : R ≤ 4000) (r : Int) (hr : r = (R : Int)) (m : Nd) (hm : withN n R = m) (w : World) :
    Calls Tryz.prog 29 #[v, .int .i64 r] w fun e w' => e = .returned (nv m) ∧ Stp w w' := by
  subst hv hr
  have h1 := Stp.alloc (Stp.refl w) (.cells (ncells n) 23)
  have h0 := Stp.alloc h1 (.cells (ncells zeroN) 23)
  have hw1 := h1.size
  have hb := (Blk.new w 23 (ncells n)).alloc (.cells (ncells zeroN) 23)
  obtain ⟨gz, hgz⟩ : ∃ x, (w.alloc (.cells (ncells n) 23)).heap.size = x := ⟨_, rfl⟩
  have Hz0 := Blk.new (w.alloc (.cells (ncells n) 23)) 23 (ncells zeroN)
  have hgl : w.heap.size < gz := by rw [← hgz, World.size_alloc]; omega
  rw [hgz] at Hz0 hw1
  obtain ⟨t, ht⟩ : ∃ t : L, List.replicate R 0 = t := ⟨_, rfl⟩
  have hmt : (ncells n).setIfInBounds 7 (.string ⟨t.toArray⟩) = ncells m := by rw [← hm, ← ht]; rfl
  have Hb := Lib.hid hb
  have Hz := Lib.hid Hz0
  have Ht := Lib.hid ht
  have HR := Lib.hid hR
  have Hmt := Lib.hid hmt
  obtain ⟨q0, q1, q2, q3, q4, q5, q6, q7⟩ := nd_cells hb
  clear hb Hz0 h1 ht hR hm hmt
  go_enter Tryz.func29, Tryz.ntmps29
  go_upto_region 2 with (go_at_call 53; refine (repeat_noughts R HR.out t Ht.out _).mono ?_; rintro e w1 ⟨rfl, hs⟩; replace Hb := Lib.hid (Hb.out.keep hs Hb.out.lt); replace Hz := Lib.hid (Hz.out.keep hs Hz.out.lt); replace h0 := Stp.trans h0 hs; have hfr := Hb.out.free 7; clear hs q0 q1 q2 q3 q4 q5 q6 q7; obtain ⟨q0, q1, q2, q3, q4, q5, q6, q7⟩ := nd_cells Hb.out)
  have x1 := Hb.out.put 7 (.string ⟨t.toArray⟩)
  rw [Hmt.out] at x1
  have x2 := Hz.out.far (p := ⟨w.heap.size, 7, none⟩) (by show gz ≠ w.heap.size; omega) (.string ⟨t.toArray⟩)
  have x3 := set_stp h0 (Nat.le_refl w.heap.size) 7 (.string ⟨t.toArray⟩)
  clear q0 q1 q2 q3 q4 q5 q6 q7 hfr h0
  generalize w1.setCell ⟨w.heap.size, 7, none⟩ (.string ⟨t.toArray⟩) = W at x1 x2 x3 ⊢
  have X2 := Lib.hid x2
  obtain ⟨q0, q1, q2, q3, q4, q5, q6, q7⟩ := nd_cells x1
  obtain ⟨⟨z0, z1, z2, z3, z4, z5, z6, z7⟩, y0, y1, y2, y3, y4, y5, y6, y7⟩ := nzy x2
  clear x1 x2
  go_wp2_with fail
  have hf := filln_blk m X2.out
  have hst := filln_stp m x3 hw1
  change bodyPost _ _ _ _ _ (fillN W gz m)
  generalize fillN W gz m = Y at hf hst ⊢
  clear z0 z1 z2 z3 z4 z5 z6 z7 y0 y1 y2 y3 y4 y5 y6 y7 q0 q1 q2 q3 q4 q5 q6 q7
  obtain ⟨z0, z1, z2, z3, z4, z5, z6, z7⟩ := nd_cells hf
  refine bodyPost_ret (v := nv m) (by simp [results, Tryz.results29, go_sem, *]) rfl ⟨rfl, hst⟩
set_option maxRecDepth 100000 in
set_option maxHeartbeats 2000000 in
theorem fileof_s (h : Hd) (v : Value) (hv : v = Head.hv h) (p u : L) (hu : nameC h p = u) (m : Nd) (hm : nodeC h u = m) (w : World) :
    Calls Tryz.prog 28 #[v, .string ⟨p.toArray⟩] w fun e w' => e = .returned (nv m) ∧ Stp w w' := by
  subst hv
  have h1 := Stp.alloc (Stp.refl w) (.cells (hcells h) 40)
  have h0 := Stp.alloc h1 (.cells (ncells zeroN) 23)
  have hw1 := h1.size
  have hb := (Blk.new w 40 (hcells h)).alloc (.cells (ncells zeroN) 23)
  obtain ⟨gz, hgz⟩ : ∃ x, (w.alloc (.cells (hcells h) 40)).heap.size = x := ⟨_, rfl⟩
  have Hz0 := Blk.new (w.alloc (.cells (hcells h) 40)) 23 (ncells zeroN)
  have hgl : w.heap.size < gz := by rw [← hgz, World.size_alloc]; omega
  rw [hgz] at Hz0 hw1
  have Hz := Lib.hid Hz0
  have Hm := Lib.hid hm
  have key : ((p == []) = true ∧ h.name = u) ∨ ((p == []) = false ∧ p = u) := by
    rw [nameC] at hu
    split at hu
    · rename_i e
      exact .inl ⟨by simp [e], hu⟩
    · rename_i e
      exact .inr ⟨by simpa using e, hu⟩
  obtain ⟨q0, q1, q2, q3, q4, q5, q6, q7, q8, q9, q10⟩ := hd_cells hb
  obtain ⟨⟨z0, z1, z2, z3, z4, z5, z6, z7⟩, y0, y1, y2, y3, y4, y5, y6, y7⟩ := nzy Hz0
  clear hb Hz0 h1 hu hm
  obtain ⟨W, hW⟩ : ∃ W, (w.alloc (.cells (hcells h) 40)).alloc (.cells (ncells zeroN) 23) = W := ⟨_, rfl⟩
  rcases key with ⟨k1, k2⟩ | ⟨k1, rfl⟩
  all_goals
    go_enter Tryz.func28, Tryz.ntmps28
    go_upto_region 1 with fail
    change Code.wp _ _ _ _ ((w.alloc (.cells (hcells h) 40)).alloc (.cells (ncells zeroN) 23))
    rw [hW] at h0 Hz q0 q1 q2 q3 q4 q5 q6 q7 q8 q9 q10 z0 z1 z2 z3 z4 z5 z6 z7 y0 y1 y2 y3 y4 y5 y6 y7 ⊢
    clear hW
    go_wp2_with fail
    have hf := filln_blk m Hz.out
    have hst := filln_stp m h0 hw1
    have hm2 := Hm.out
    try subst k2
    subst hm2
  · change bodyPost _ _ _ _ _ (fillN W gz (nodeC h h.name))
    generalize fillN W gz (nodeC h h.name) = Y at hf hst ⊢
    clear z0 z1 z2 z3 z4 z5 z6 z7 y0 y1 y2 y3 y4 y5 y6 y7 q0 q1 q2 q3 q4 q5 q6 q7 q8 q9 q10
    obtain ⟨z0, z1, z2, z3, z4, z5, z6, z7⟩ := nd_cells hf
    refine bodyPost_ret (v := nv (nodeC h h.name)) (by simp [results, Tryz.results28, go_sem, *]) rfl ⟨rfl, hst⟩
  · change bodyPost _ _ _ _ _ (fillN W gz (nodeC h p))
    generalize fillN W gz (nodeC h p) = Y at hf hst ⊢
    clear z0 z1 z2 z3 z4 z5 z6 z7 y0 y1 y2 y3 y4 y5 y6 y7 q0 q1 q2 q3 q4 q5 q6 q7 q8 q9 q10
    obtain ⟨z0, z1, z2, z3, z4, z5, z6, z7⟩ := nd_cells hf
    refine bodyPost_ret (v := nv (nodeC h p)) (by simp [results, Tryz.results28, go_sem, *]) rfl ⟨rfl, hst⟩
set_option maxRecDepth 100000 in
set_option maxHeartbeats 2000000 in
theorem clong_s (ls : List L) (z : Nat) (hz : ls.length = z) (hsm : ∀ l ∈ ls, l.length < 9223372036854775808) (p : L) (k : Nat) (hp : longV ls = (p, k)) (A : Option Addr) (c : Nat) (w : World) (ha : RdL w A c ls) :
    Calls Tryz.prog 22 #[.slice A z c] w fun e w' => e = .returned (.tuple #[.string ⟨p.toArray⟩, .int .i64 (k : Int)]) ∧ Stp w w' := by
  have h0 := Stp.refl w
  by_cases h2 : 2 ≤ z
  · obtain ⟨x, hx⟩ : ∃ x, ls[0]? = some x := ⟨_, List.getElem?_eq_getElem (by omega)⟩
    obtain ⟨y, hy⟩ : ∃ y, ls[1]? = some y := ⟨_, List.getElem?_eq_getElem (by omega)⟩
    obtain ⟨b, o, A1, c1, rfl, hc1, hR1⟩ := ha.at_ hx
    obtain ⟨b', o', A2, c2, hbo, hc2, hR2⟩ := ha.at_ hy
    obtain ⟨rfl, rfl⟩ : b = b' ∧ o = o' := by cases hbo; exact ⟨rfl, rfl⟩
    have hcb : b < w.heap.size := World.block_lt_of_cell? w _ hc1
    rw [Nat.add_zero] at hc1
    have ey : ls.getD 1 [] = y := by rw [List.getD_eq_getElem?_getD, hy]; rfl
    have ex : ls.getD 0 [] = x := by rw [List.getD_eq_getElem?_getD, hx]; rfl
    have k1 : decide ((z : Int) < 2) = false := decide_eq_false (by omega)
    have g0 : (0 : Int) < (z : Int) := by omega
    have g1 : (1 : Int) < (z : Int) := by omega
    have hylen : y.length ≤ 9223372036854775807 := by have := hsm y (List.mem_of_getElem? hy); omega
    obtain ⟨G, hG⟩ : ∃ G, getH x = G := ⟨_, rfl⟩
    have e76 : ((G.ty.toNat : Int) == 76) = decide (G.ty = 76) := ty_eq G.ty 76 (by omega)
    rw [longV, ex, ey, hG] at hp
    have HG := Lib.hid hG
    have HR1 := Lib.hid hR1
    have HR2 := Lib.hid hR2
    have Hy := Lib.hid hylen
    by_cases ht : G.ty = 76
    · rw [if_pos ⟨by omega, ht⟩, Prod.mk.injEq] at hp
      obtain ⟨rfl, rfl⟩ := hp
      have k2 : ((G.ty.toNat : Int) != 76) = false := by rw [bne, e76, decide_eq_true ht]; rfl
      obtain ⟨u, hu⟩ : ∃ u, upto y = u := ⟨_, rfl⟩
      have Hu := Lib.hid hu
      rw [hu]
      clear ha hx hy hsm hR1 hR2 hG e76 ht hylen hu ey ex hz h2
      go_enter Tryz.func22, Tryz.ntmps22
      go_wp2_with (first
        | (go_at_call 26; refine (hget_s x A1 c1 _ HR1.out).mono ?_; rintro e w1 ⟨rfl, hs⟩; rw [HG.out]; replace hs := Stp.alloc hs (.cells (hcells G) 40); replace h0 := Stp.trans h0 hs; obtain ⟨x0, x1, x2, x3, x4, x5, x6, x7, x8, x9, x10⟩ := hd_cells (Blk.new w1 40 (hcells G)); have hcv := run_string_rd (P := Tryz.prog) (w1.alloc (.cells (hcells G) 40)) 36 9 5 Tryz.underlying36 Tryz.underlying5 Tryz.underlying9 _ _ _ (HR2.out.keep hs); rw [bs_length] at hcv; have hc3 := (hs.cell (p := ⟨b, o + 1, none⟩) hcb).trans hc2; clear hs)
        | (go_at_call 49; refine (cut_any y _ Hy.out).mono ?_; rintro e w2 ⟨b2, b3, rfl, nd, rfl⟩; rw [Hu.out]; replace h0 := Stp.drewN h0 nd))
      go_ret2
      exact ⟨rfl, h0⟩
    · rw [if_neg (by rintro ⟨-, h⟩; exact ht h), Prod.mk.injEq] at hp
      obtain ⟨rfl, rfl⟩ := hp
      have k2 : ((G.ty.toNat : Int) != 76) = true := by rw [bne, e76, decide_eq_false ht]; rfl
      clear ha hx hy hsm hR1 hR2 hG e76 ht hylen ey ex hz h2 hc2
      go_enter Tryz.func22, Tryz.ntmps22
      go_wp2_with (go_at_call 26; refine (hget_s x A1 c1 _ HR1.out).mono ?_; rintro e w1 ⟨rfl, hs⟩; rw [HG.out]; replace hs := Stp.alloc hs (.cells (hcells G) 40); replace h0 := Stp.trans h0 hs; obtain ⟨x0, x1, x2, x3, x4, x5, x6, x7, x8, x9, x10⟩ := hd_cells (Blk.new w1 40 (hcells G)); clear hs)
      go_ret2
      exact ⟨rfl, h0⟩
  · rw [longV, if_neg (by rintro ⟨h, -⟩; omega), Prod.mk.injEq] at hp
    obtain ⟨rfl, rfl⟩ := hp
    have k1 : decide ((z : Int) < 2) = true := decide_eq_true (by omega)
    clear ha hsm hz h2
    go_enter Tryz.func22, Tryz.ntmps22
    go_wp2_with fail
    go_ret2
    exact ⟨rfl, h0⟩
end Go.Proofs.YtagkdodjffhlmaaGreat.Cont
