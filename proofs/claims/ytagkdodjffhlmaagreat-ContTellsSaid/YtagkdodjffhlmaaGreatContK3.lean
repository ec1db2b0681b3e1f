/-
  Package cont: what Get keeps in memory, what it asks one behind the other, and the closure that asks: no statement is proved here.
-/
import Derived.Test.YtagkdodjffhlmaaGreatContK2
namespace Go.Proofs.YtagkdodjffhlmaaGreat.Cont
open Go.RowKit Go.Proofs.YtagkdodjffhlmaaGreat.Str Go.Proofs.YtagkdodjffhlmaaGreat.Base Go.Proofs.YtagkdodjffhlmaaGreat.Node Go.Proofs.YtagkdodjffhlmaaGreat.Head Go.Proofs.YtagkdodjffhlmaaGreat.Long Go.Proofs.YtagkdodjffhlmaaGreat.ContM
open Go.Proofs.YtagkdodjffhlmaaGreat.Tree (oneB)
set_option linter.unusedVariables false

theorem fillw_far {w : World} {g g' : Nat} {t : TypeId} {cs : Array Value} (h : Hd) (hb : Blk w g' t cs) (hne : g' ≠ g) : Blk (fillW w g h) g' t cs :=
  ((((((((((hb.far (p := ⟨g, 0, none⟩) hne _).far (p := ⟨g, 1, none⟩) hne _).far (p := ⟨g, 2, none⟩) hne _).far (p := ⟨g, 3, none⟩) hne _).far (p := ⟨g, 4, none⟩) hne _).far (p := ⟨g, 5, none⟩) hne _).far (p := ⟨g, 6, none⟩) hne _).far (p := ⟨g, 7, none⟩) hne _).far (p := ⟨g, 8, none⟩) hne _).far (p := ⟨g, 9, none⟩) hne _).far (p := ⟨g, 10, none⟩) hne _
theorem fillc_far {g g' : Nat} {t : TypeId} {cs : Array Value} (hne : g' ≠ g) : ∀ (vs : List Value) (i : Nat) (w : World), Blk w g' t cs → Blk (fillC g vs i w) g' t cs
  | [], _, _, h => h
  | v :: vs, i, w, h => fillc_far hne vs (i + 1) _ (h.far (p := ⟨g, i, none⟩) hne v)
theorem filln_far {w : World} {g g' : Nat} {t : TypeId} {cs : Array Value} (n : Nd) (hb : Blk w g' t cs) (hne : g' ≠ g) : Blk (fillN w g n) g' t cs := fillc_far hne (ncells n).toList 0 w hb

/-- What Get keeps: the blocks, its answer's place, the name, the place, the header, the file, and whether all was so. -/
structure GS (w0 w : World) (A : Option Addr) (z c G : Nat) (p : L) (k : Nat) (H : Hd) (M : Nd) (b : Bool) : Prop where
  stp : Stp w0 w
  ge : w0.heap.size + 2 ≤ G
  l : Blk w w0.heap.size 24 #[.slice A z c]
  r : Blk w (w0.heap.size + 1) 23 (ncells zeroN)
  nm : Blk w G 9 #[.string ⟨p.toArray⟩]
  pl : Blk w (G + 1) 3 #[.int .i64 (k : Int)]
  h : Blk w (G + 2) 40 (hcells H)
  n : Blk w (G + 3) 23 (ncells M)
  s : Blk w (G + 4) 4 #[.bool b]
section
variable {w0 w w' : World} {A : Option Addr} {z c G : Nat} {p : L} {k : Nat} {H : Hd} {M : Nd} {b : Bool}
theorem GS.keep (h : GS w0 w A z c G p k H M b) (hs : Stp w w') : GS w0 w' A z c G p k H M b :=
  ⟨Stp.trans h.stp hs, h.ge, h.l.keep hs h.l.lt, h.r.keep hs h.r.lt, h.nm.keep hs h.nm.lt, h.pl.keep hs h.pl.lt, h.h.keep hs h.h.lt, h.n.keep hs h.n.lt, h.s.keep hs h.s.lt⟩
theorem GS.sets (h : GS w0 w A z c G p k H M b) (b' : Bool) : GS w0 (w.setCell ⟨G + 4, 0, none⟩ (.bool b')) A z c G p k H M b' := by
  have g := h.ge
  exact ⟨set_stp h.stp (by omega) 0 _, g, h.l.far (by show w0.heap.size ≠ G + 4; omega) _, h.r.far (by show w0.heap.size + 1 ≠ G + 4; omega) _, h.nm.far (by show G ≠ G + 4; omega) _, h.pl.far (by show G + 1 ≠ G + 4; omega) _,
    h.h.far (by show G + 2 ≠ G + 4; omega) _, h.n.far (by show G + 3 ≠ G + 4; omega) _, h.s.put 0 _⟩
theorem GS.fillh (h : GS w0 w A z c G p k H M b) (H' : Hd) : GS w0 (fillW w (G + 2) H') A z c G p k H' M b := by
  have g := h.ge
  exact ⟨fill_stp H' h.stp (by omega), g, fillw_far H' h.l (by omega), fillw_far H' h.r (by omega), fillw_far H' h.nm (by omega), fillw_far H' h.pl (by omega), fill_blk H' h.h, fillw_far H' h.n (by omega), fillw_far H' h.s (by omega)⟩
theorem GS.filln (h : GS w0 w A z c G p k H M b) (M' : Nd) : GS w0 (fillN w (G + 3) M') A z c G p k H M' b := by
  have g := h.ge
  exact ⟨filln_stp M' h.stp (by omega), g, filln_far M' h.l (by omega), filln_far M' h.r (by omega), filln_far M' h.nm (by omega), filln_far M' h.pl (by omega), filln_far M' h.h (by omega), filln_blk M' h.n, filln_far M' h.s (by omega)⟩
theorem GS.cells (h : GS w0 w A z c G p k H M b) : w.cell? ⟨w0.heap.size, 0, none⟩ = some (.slice A z c) ∧ w.cell? ⟨G, 0, none⟩ = some (.string ⟨p.toArray⟩) ∧ w.cell? ⟨G + 1, 0, none⟩ = some (.int .i64 (k : Int)) :=
  ⟨by rw [h.l.cell]; rfl, by rw [h.nm.cell]; rfl, by rw [h.pl.cell]; rfl⟩
theorem GS.flag (h : GS w0 w A z c G p k H M b) : w.cell? ⟨G + 4, 0, none⟩ = some (.bool b) ∧ w.frozen? ⟨G + 4, 0, none⟩ = false := ⟨by rw [h.s.cell]; rfl, h.s.free 0⟩
end

set_option maxRecDepth 100000 in
/-- Is there a block at the place? -/
theorem ask_one {w0 w : World} {A : Option Addr} {z c G : Nat} {p : L} {k : Nat} {H : Hd} {M : Nd} {b b1 : Bool} (h : GS w0 w A z c G p k H M b) (hb : decide ((k : Int) < (z : Int)) = b1) :
    Calls Tryz.prog 24 #[.pointer (some ⟨G + 1, 0, none⟩), .pointer (some ⟨w0.heap.size, 0, none⟩)] w fun e w' => e = .returned (.bool b1) ∧ GS w0 w' A z c G p k H M b := by
  obtain ⟨q0, q1, q2⟩ := h.cells
  have HS := Lib.hid h
  clear h
  go_enter Tryz.func24, Tryz.ntmps24
  go_wp2_with fail
  go_ret
  exact ⟨by simp [← hb], HS.out⟩
set_option maxRecDepth 100000 in
set_option maxHeartbeats 2000000 in
/-- Is it a header of the kind? -/
theorem ask_two {w0 w : World} {A : Option Addr} {z c G : Nat} {p : L} {k : Nat} {M : Nd} {b b2 : Bool} (h : GS w0 w A z c G p k zeroH M b) {ls : List L} (hz : ls.length = z) (ha : RdL w0 A c ls) {x : L} (hx : ls[k]? = some x) {H : Hd} (hH : getH x = H)
    (hb : (decide (H.ty = 77) && decide (H.real ≤ 4000)) = b2) :
    Calls Tryz.prog 25 #[.pointer (some ⟨w0.heap.size, 0, none⟩), .pointer (some ⟨G + 1, 0, none⟩), .pointer (some ⟨G + 2, 0, none⟩)] w fun e w' => e = .returned (.bool b2) ∧ GS w0 w' A z c G p k H M b := by
  obtain ⟨bb, o, A1, c1, rfl, hc1, hR1⟩ := (ha.keep h.stp).at_ hx
  have hk : k < z := by rw [← hz]; exact (List.getElem?_eq_some_iff.1 hx).1
  have g0 : (0 : Int) ≤ (k : Int) := by omega
  have g1 : (k : Int) < (z : Int) := by omega
  have e77 : ((H.ty.toNat : Int) == 77) = decide (H.ty = 77) := ty_eq H.ty 77 (by omega)
  rw [← e77] at hb
  obtain ⟨q0, q1, q2⟩ := h.cells
  obtain ⟨t1, ht1⟩ : ∃ t, ((H.ty.toNat : Int) == 77) = t := ⟨_, rfl⟩
  obtain ⟨t2, ht2⟩ : ∃ t, decide (H.real ≤ 4000) = t := ⟨_, rfl⟩
  rw [ht1, ht2] at hb
  have HS := Lib.hid h
  have HH := Lib.hid hH
  have HR1 := Lib.hid hR1
  have Hb := Lib.hid hb
  clear h hz ha hx hH hR1 hk hb e77
  go_enter Tryz.func25, Tryz.ntmps25
  go_upto_region 2 with (go_at_call 26; refine (hget_s x A1 c1 _ HR1.out).mono ?_; rintro e w1 ⟨rfl, hs⟩; rw [HH.out]; replace HS := Lib.hid (HS.out.keep hs); clear hs q0 q1 q2 hc1; obtain ⟨⟨z0, z1, z2, z3, z4, z5, z6, z7, z8, z9, z10⟩, y0, y1, y2, y3, y4, y5, y6, y7, y8, y9, y10⟩ := zy HS.out.h)
  have hf := HS.out.fillh H
  change Code.wp _ _ _ _ (fillW w1 (G + 2) H)
  generalize fillW w1 (G + 2) H = W at hf ⊢
  clear HS z0 z1 z2 z3 z4 z5 z6 z7 z8 z9 z10 y0 y1 y2 y3 y4 y5 y6 y7 y8 y9 y10
  have HS := Lib.hid hf
  obtain ⟨x0, x1, x2, x3, x4, x5, x6, x7, x8, x9, x10⟩ := hd_cells hf.h
  clear hf
  cases t1
  all_goals
    go_wp2_with fail
    go_ret
    exact ⟨by rw [← Hb.out]; simp, HS.out⟩
theorem same_v (ls ms : List L) (j k : Nat) (hj : ls.length = j) (hk : ms.length = k) (A B : Option Addr) (c d : Nat) (w : World) (ha : RdL w A c ls) (hb : RdL w B d ms) (hl : j < 9223372036854775808) (hm : k < 9223372036854775808) (b : Bool) (hb' : (ls == ms) = b) :
    Calls Tryz.prog 30 #[.slice A j c, .slice B k d] w fun e w' => e = .returned (.bool b) ∧ Stp w w' := by
  subst hj hk hb'
  exact Block.same_s ls ms A B c d w ha hb hl hm
set_option maxRecDepth 100000 in
set_option maxHeartbeats 4000000 in
/-- Has the file just these blocks? -/
theorem ask_three {w0 w : World} {A : Option Addr} {z c G : Nat} {p : L} {k : Nat} {H : Hd} {b b3 : Bool} (h : GS w0 w A z c G p k H zeroN b) {ls : List L} (hz : ls.length = z) (hz3 : z < 9223372036854775808) (ha : RdL w0 A c ls) {x : L} (hx : ls[k]? = some x)
    {M : Nd} (hM : nodeC H (nameC H p) = M) {R : Nat} (hR : H.real = (R : Int)) (hR4 : R ≤ 4000) {N : Nd} (hN : withN M R = N) (hsN : SmallN N) {P : List L} (hP : putC N H.off = P) (hb : (P == ls.take (k + 1)) = b3) :
    Calls Tryz.prog 27 #[.pointer (some ⟨G + 2, 0, none⟩), .pointer (some ⟨G, 0, none⟩), .pointer (some ⟨G + 3, 0, none⟩), .pointer (some ⟨w0.heap.size, 0, none⟩), .pointer (some ⟨G + 1, 0, none⟩)] w fun e w' =>
      e = .returned (.bool b3) ∧ GS w0 w' A z c G p k H M b := by
  obtain ⟨bb, o, A1, c1, hA, -, -⟩ := ha.at_ hx
  have hk : k < z := by rw [← hz]; exact (List.getElem?_eq_some_iff.1 hx).1
  have hzc : z ≤ c := by
    obtain ⟨us, e1, e2, -⟩ := ha
    have := RdA.length_le e2
    omega
  subst hA
  have g0 : (0 : Int) ≤ (k : Int) + 1 := by omega
  have g1 : (k : Int) + 1 ≤ 9223372036854775807 := by omega
  have csl : ∀ w, (Instr.slice 24 (.slice (some ⟨bb, o, none⟩) z c) none (some (.int .i64 ((k : Int) + 1))) none).run Tryz.prog w = .ok (.slice (some ⟨bb, o, none⟩) (k + 1) c) w := fun w => by
    have := Entry.slice_to bb o z c (k + 1) (by omega) w
    exact this
  obtain ⟨q0, q1, q2⟩ := h.cells
  obtain ⟨x0, x1, x2, x3, x4, x5, x6, x7, x8, x9, x10⟩ := hd_cells h.h
  have hPl : P.length < 9223372036854775808 := by
    rw [← hP, putC]
    split
    · rw [List.length_append, aheadC_length]
      split <;> simp
    · simp
  obtain ⟨zp, hzp⟩ : ∃ zp, P.length = zp := ⟨_, rfl⟩
  obtain ⟨mb, hmb⟩ : ∃ mb, mayC N H.off = mb := ⟨_, rfl⟩
  rw [hzp] at hPl
  have HS := Lib.hid h
  have HM := Lib.hid hM
  have HR := Lib.hid hR
  have HR4 := Lib.hid hR4
  have HN := Lib.hid hN
  have HsN := Lib.hid hsN
  have HP := Lib.hid hP
  have HPl := Lib.hid hPl
  have HZ := Lib.hid hzp
  have Hmb := Lib.hid hmb
  have Hb := Lib.hid hb
  have HL := Lib.hid ha
  have Hk := Lib.hid (show (ls.take (k + 1)).length = k + 1 by rw [List.length_take]; omega)
  have Hk2 := Lib.hid (show k + 1 < 9223372036854775808 by omega)
  clear h hz ha hx hM hR hR4 hN hsN hP hPl hzp hmb hb hk hzc hz3
  go_enter Tryz.func27, Tryz.ntmps27
  go_upto_region 2 with (go_at_call 28; refine (fileof_s H _ rfl p _ rfl M HM.out _).mono ?_; rintro e w1 ⟨rfl, hs⟩; replace HS := Lib.hid (HS.out.keep hs); clear hs q0 q1 q2 x0 x1 x2 x3 x4 x5 x6 x7 x8 x9 x10; obtain ⟨⟨z0, z1, z2, z3, z4, z5, z6, z7⟩, y0, y1, y2, y3, y4, y5, y6, y7⟩ := nzy HS.out.n)
  have hf := HS.out.filln M
  change Code.wp _ _ _ _ (fillN w1 (G + 3) M)
  generalize fillN w1 (G + 3) M = W at hf ⊢
  clear HS z0 z1 z2 z3 z4 z5 z6 z7 y0 y1 y2 y3 y4 y5 y6 y7
  have hf2 : GS w0 W.drew (some ⟨bb, o, none⟩) z c G p k H M b := hf.keep (Stp.drewN (Stp.refl W) 1)
  have HS := Lib.hid hf2
  clear hf hf2
  obtain ⟨u0, u1, u2, u3, u4, u5, u6, u7⟩ := nd_cells HS.out.n
  obtain ⟨x0, x1, x2, x3, x4, x5, x6, x7, x8, x9, x10⟩ := hd_cells HS.out.h
  rw [HR.out] at x10
  clear x0 x1 x2 x3 x4 x5 x6 x7 x8
  go_region_with (first
    | (go_at_call 29; (with_reducible refine (filled_s M _ rfl R HR4.out _ rfl N HN.out _).mono ?_); rintro e w2 ⟨rfl, hs⟩; replace HS := Lib.hid (HS.out.keep hs); clear hs u0 u1 u2 u3 u4 u5 u6 u7 x9 x10; obtain ⟨x0, x1, x2, x3, x4, x5, x6, x7, x8, x9, x10⟩ := hd_cells HS.out.h; clear x0 x1 x2 x3 x4 x5 x6 x7 x8 x10)
    | (go_at_call 7; (with_reducible refine (cput_s N _ rfl HsN.out H.off P HP.out zp HZ.out mb Hmb.out _).mono ?_); rintro e w3 ⟨A3, c3, rfl, hr, hs⟩; replace HS := Lib.hid (HS.out.keep hs); have H3 := Lib.hid hr; clear hs hr x9; obtain ⟨q0, q1, q2⟩ := HS.out.cells))
  all_goals
    go_wp2_with (go_at_call 30; refine (same_v P (ls.take (k + 1)) zp (k + 1) HZ.out Hk.out A3 _ c3 c _ H3.out (Entry.rdL_take (HL.out.keep HS.out.stp) (k + 1)) HPl.out Hk2.out b3 Hb.out).mono ?_; rintro e w4 ⟨rfl, hs⟩; replace HS := Lib.hid (HS.out.keep hs); clear hs q0 q1 q2)
    go_ret
    exact ⟨rfl, HS.out⟩

set_option maxRecDepth 100000 in
theorem must_no {w0 w : World} {A : Option Addr} {z c G : Nat} {p : L} {k : Nat} {H : Hd} {M : Nd} (fv : Value) (h : GS w0 w A z c G p k H M false) :
    Calls Tryz.prog 23 #[fv, .pointer (some ⟨G + 4, 0, none⟩)] w fun e w' => e = .returned (.tuple #[]) ∧ GS w0 w' A z c G p k H M false := by
  obtain ⟨f0, f1⟩ := h.flag
  have HS := Lib.hid h
  clear h
  go_enter Tryz.func23, Tryz.ntmps23
  go_wp2_with fail
  go_end0
  exact ⟨rfl, HS.out.sets false⟩
set_option maxRecDepth 100000 in
theorem must_one {w0 w : World} {A : Option Addr} {z c G : Nat} {p : L} {k : Nat} {H H' : Hd} {M M' : Nd} {b : Bool} (h : GS w0 w A z c G p k H M true)
    (hc : Calls Tryz.prog 24 #[.pointer (some ⟨G + 1, 0, none⟩), .pointer (some ⟨w0.heap.size, 0, none⟩)] w fun e w' => e = .returned (.bool b) ∧ GS w0 w' A z c G p k H' M' true) :
    Calls Tryz.prog 23 #[.func (.func 24) #[] #[.pointer (some ⟨G + 1, 0, none⟩), .pointer (some ⟨w0.heap.size, 0, none⟩)], .pointer (some ⟨G + 4, 0, none⟩)] w fun e w' => e = .returned (.tuple #[]) ∧ GS w0 w' A z c G p k H' M' b := by
  obtain ⟨f0, f1⟩ := h.flag
  have HC := Lib.hid hc
  clear h hc
  go_enter Tryz.func23, Tryz.ntmps23
  go_wp2_with (go_at_call 24; refine HC.out.mono ?_; rintro e w1 ⟨rfl, hg⟩; have HG := Lib.hid hg; clear f0 f1 hg; obtain ⟨f0, f1⟩ := HG.out.flag)
  go_end0
  exact ⟨rfl, HG.out.sets b⟩
set_option maxRecDepth 100000 in
theorem must_two {w0 w : World} {A : Option Addr} {z c G : Nat} {p : L} {k : Nat} {H H' : Hd} {M M' : Nd} {b : Bool} (h : GS w0 w A z c G p k H M true)
    (hc : Calls Tryz.prog 25 #[.pointer (some ⟨w0.heap.size, 0, none⟩), .pointer (some ⟨G + 1, 0, none⟩), .pointer (some ⟨G + 2, 0, none⟩)] w fun e w' => e = .returned (.bool b) ∧ GS w0 w' A z c G p k H' M' true) :
    Calls Tryz.prog 23 #[.func (.func 25) #[] #[.pointer (some ⟨w0.heap.size, 0, none⟩), .pointer (some ⟨G + 1, 0, none⟩), .pointer (some ⟨G + 2, 0, none⟩)], .pointer (some ⟨G + 4, 0, none⟩)] w fun e w' => e = .returned (.tuple #[]) ∧ GS w0 w' A z c G p k H' M' b := by
  obtain ⟨f0, f1⟩ := h.flag
  have HC := Lib.hid hc
  clear h hc
  go_enter Tryz.func23, Tryz.ntmps23
  go_wp2_with (go_at_call 25; refine HC.out.mono ?_; rintro e w1 ⟨rfl, hg⟩; have HG := Lib.hid hg; clear f0 f1 hg; obtain ⟨f0, f1⟩ := HG.out.flag)
  go_end0
  exact ⟨rfl, HG.out.sets b⟩
set_option maxRecDepth 100000 in
theorem must_three {w0 w : World} {A : Option Addr} {z c G : Nat} {p : L} {k : Nat} {H H' : Hd} {M M' : Nd} {b : Bool} (h : GS w0 w A z c G p k H M true)
    (hc : Calls Tryz.prog 27 #[.pointer (some ⟨G + 2, 0, none⟩), .pointer (some ⟨G, 0, none⟩), .pointer (some ⟨G + 3, 0, none⟩), .pointer (some ⟨w0.heap.size, 0, none⟩), .pointer (some ⟨G + 1, 0, none⟩)] w fun e w' => e = .returned (.bool b) ∧ GS w0 w' A z c G p k H' M' true) :
    Calls Tryz.prog 23 #[.func (.func 27) #[] #[.pointer (some ⟨G + 2, 0, none⟩), .pointer (some ⟨G, 0, none⟩), .pointer (some ⟨G + 3, 0, none⟩), .pointer (some ⟨w0.heap.size, 0, none⟩), .pointer (some ⟨G + 1, 0, none⟩)], .pointer (some ⟨G + 4, 0, none⟩)] w fun e w' => e = .returned (.tuple #[]) ∧ GS w0 w' A z c G p k H' M' b := by
  obtain ⟨f0, f1⟩ := h.flag
  have HC := Lib.hid hc
  clear h hc
  go_enter Tryz.func23, Tryz.ntmps23
  go_wp2_with (go_at_call 27; refine HC.out.mono ?_; rintro e w1 ⟨rfl, hg⟩; have HG := Lib.hid hg; clear f0 f1 hg; obtain ⟨f0, f1⟩ := HG.out.flag)
  go_end0
  exact ⟨rfl, HG.out.sets b⟩
end Go.Proofs.YtagkdodjffhlmaaGreat.Cont
