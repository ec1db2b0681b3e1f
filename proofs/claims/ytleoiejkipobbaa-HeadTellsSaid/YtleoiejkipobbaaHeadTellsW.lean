/-
  The walk of HeadTells: no statement is proved here.
-/
import Derived.Test.YtleoiejkipobbaaHeadRef6
namespace Go.Proofs.Ytleoiejkipobbaa.Head
open Go.RowKit Go.Proofs.Ytleoiejkipobbaa.Base Go.Proofs.Ytleoiejkipobbaa.NumM Go.Proofs.Ytleoiejkipobbaa.Num

theorem rGet_n (l : L) (A : Option Addr) (n c : Nat) (w : World) (ha : RdA w A c (bs l)) (hn : l.length = n) :
    Calls Try.prog 16 #[.slice A n c] w fun e w' => e = .returned (.tuple #[hv (getH l), .int .i64 (codeB l)]) ∧ Stp w w' := by
  subst hn
  exact rGet_s l A c w ha

set_option linter.unusedSimpArgs false in
set_option maxHeartbeats 2000000 in
set_option maxRecDepth 100000 in
theorem htells_walk (h : Hd) (hs : SmallH h) (l : L) (A : Option Addr) (c : Nat) (w : World) (ha : RdA w A c (bs l)) (hbig : l.length < 9223372036854775808) :
    Calls Try.prog 3 #[hv h, .slice A l.length c] w fun e w' => e = .returned (.bool true) ∧ Stp w w' := by
  have h0 := Stp.refl w
  have Hs := Lib.hid hs
  have Hbig := Lib.hid hbig
  have Hb0 := Lib.hid (Blk.new w 23 (hcells h))
  have H0 := Lib.hid (Stp.alloc h0 (.cells (hcells h) 23))
  have Ha0 := Lib.hid (ha.keep H0.out)
  obtain ⟨fw, hf⟩ : ∃ b, fewB h = b := ⟨_, rfl⟩
  have Hf := Lib.hid hf
  obtain ⟨P, hP⟩ : ∃ x, putB h = x := ⟨_, rfl⟩
  obtain ⟨m, hm⟩ : ∃ x, mayH h = x := ⟨_, rfl⟩
  obtain ⟨G, hG⟩ : ∃ x, getH l = x := ⟨_, rfl⟩
  obtain ⟨e, he⟩ : ∃ x, codeB l = x := ⟨_, rfl⟩
  obtain ⟨si, hsi⟩ : ∃ x, sumI l = x := ⟨_, rfl⟩
  have HP := Lib.hid hP
  have Hm := Lib.hid hm
  have HG := Lib.hid hG
  have He := Lib.hid he
  have Hsi := Lib.hid hsi
  have hng := noGuard
  have heq := eq_heads G G
  rw [decide_eq_true rfl] at heq
  clear hf hP hm hG he hsi hs ha
  go_enter Try.func3, Try.ntmps3
  go_wp2_with (first
    | (go_at_call 11; refine (awake_s _).mono ?_; rintro e1 w1 ⟨rfl, hs⟩; have Hb := Lib.hid (Hb0.out.keep hs Hb0.out.lt); have H := Lib.hid (Stp.trans H0.out hs); have Ha := Lib.hid (Ha0.out.keep hs); clear hs; obtain ⟨x0, x1, x2, x3, x4, x5, x6, x7, x8, x9, x10⟩ := hd_cells Hb.out)
    | (go_at_call 12; refine (few_s h _).mono ?_; rintro e1 w2 ⟨rfl, hs⟩; rw [Hf.out]; replace Hb := Lib.hid (Hb.out.keep hs Hb.out.lt); replace H := Lib.hid (Stp.trans H.out hs); replace Ha := Lib.hid (Ha.out.keep hs); clear hs x0 x1 x2 x3 x4 x5 x6 x7 x8 x9 x10; obtain ⟨x0, x1, x2, x3, x4, x5, x6, x7, x8, x9, x10⟩ := hd_cells Hb.out; rcases fw)
    | (go_at_call 13; refine (put_s h Hs.out _).mono ?_; rintro e1 w3 ⟨A3, c3, rfl, hr, hs⟩; rw [HP.out] at hr; rw [HP.out, Hm.out]; replace Hb := Lib.hid (Hb.out.keep hs Hb.out.lt); replace H := Lib.hid (Stp.trans H.out hs); replace Ha := Lib.hid (Ha.out.keep hs); have Hr3 := Lib.hid hr; clear hr hs x0 x1 x2 x3 x4 x5 x6 x7 x8 x9 x10; obtain ⟨x0, x1, x2, x3, x4, x5, x6, x7, x8, x9, x10⟩ := hd_cells Hb.out)
    | (go_at_call 14; refine (rputH_s h Hs.out _).mono ?_; rintro e1 w4 ⟨A4, c4, rfl, hr, hs⟩; rw [HP.out] at hr; rw [HP.out, Hm.out]; replace Hb := Lib.hid (Hb.out.keep hs Hb.out.lt); replace H := Lib.hid (Stp.trans H.out hs); replace Ha := Lib.hid (Ha.out.keep hs); replace Hr3 := Lib.hid (Hr3.out.keep hs); have Hr4 := Lib.hid hr; clear hr hs x0 x1 x2 x3 x4 x5 x6 x7 x8 x9 x10)
    | (go_at_call 15; refine (hget_s l A c _ Ha.out).mono ?_; rintro e1 w5 ⟨rfl, hs⟩; rw [HG.out, He.out]; replace Hb := Lib.hid ((Hb.out.keep hs Hb.out.lt).alloc (.cells (hcells G) 23)); replace hs := Stp.alloc hs (.cells (hcells G) 23); replace H := Lib.hid (Stp.trans H.out hs); replace Ha := Lib.hid (Ha.out.keep hs); replace Hr3 := Lib.hid (Hr3.out.keep hs); replace Hr4 := Lib.hid (Hr4.out.keep hs); have Hg := Lib.hid (Blk.new w5 23 (hcells G)); clear hs)
    | (go_at_call 16; (with_reducible refine (rGet_n l A _ c _ Ha.out rfl).mono ?_); rintro e1 w6 ⟨rfl, hs⟩; rw [HG.out, He.out]; replace Hb := Lib.hid ((Hb.out.keep hs Hb.out.lt).alloc (.cells (hcells G) 23)); have Hg2 := Lib.hid ((Hg.out.keep hs Hg.out.lt).alloc (.cells (hcells G) 23)); replace hs := Stp.alloc hs (.cells (hcells G) 23); replace H := Lib.hid (Stp.trans H.out hs); replace Ha := Lib.hid (Ha.out.keep hs); replace Hr3 := Lib.hid (Hr3.out.keep hs); replace Hr4 := Lib.hid (Hr4.out.keep hs); have Hg3 := Lib.hid (Blk.new w6 23 (hcells G)); clear hs Hg; obtain ⟨x0, x1, x2, x3, x4, x5, x6, x7, x8, x9, x10⟩ := hd_cells Hb.out)
    | (go_at_call 17; refine (rmay_any h Hs.out _).mono ?_; rintro e1 w7 ⟨rfl, hs⟩; rw [Hm.out]; replace Hb := Lib.hid (Hb.out.keep hs Hb.out.lt); have Hg4 := Lib.hid (Hg2.out.keep hs Hg2.out.lt); have Hg5 := Lib.hid (Hg3.out.keep hs Hg3.out.lt); replace H := Lib.hid (Stp.trans H.out hs); replace Ha := Lib.hid (Ha.out.keep hs); have hcp := Block.str_rd (Hr3.out.keep hs); have hcq := Block.str_rd (Hr4.out.keep hs); clear hs x0 x1 x2 x3 x4 x5 x6 x7 x8 x9 x10 Hg2 Hg3 Hr3 Hr4; obtain ⟨x0, x1, x2, x3, x4, x5, x6, x7, x8, x9, x10⟩ := hd_cells Hb.out; obtain ⟨y0, y1, y2, y3, y4, y5, y6, y7, y8, y9, y10⟩ := hd_cells Hg4.out; obtain ⟨z0, z1, z2, z3, z4, z5, z6, z7, z8, z9, z10⟩ := hd_cells Hg5.out)
    | (go_at_call 18; refine (may_any h Hs.out _).mono ?_; rintro e1 w8 ⟨rfl, hs⟩; rw [Hm.out]; replace H := Lib.hid (Stp.trans H.out hs); replace Ha := Lib.hid (Ha.out.keep hs); clear hs x0 x1 x2 x3 x4 x5 x6 x7 x8 x9 x10 y0 y1 y2 y3 y4 y5 y6 y7 y8 y9 y10 z0 z1 z2 z3 z4 z5 z6 z7 z8 z9 z10 hcp hcq Hb Hg4 Hg5)
    | (go_at_call 19; (with_reducible refine (sum_n l A _ c _ Ha.out rfl Hbig.out).mono ?_); rintro e1 w9 ⟨rfl, hs⟩; rw [Hsi.out]; replace H := Lib.hid (Stp.trans H.out hs); replace Ha := Lib.hid (Ha.out.keep hs); clear hs)
    | (go_at_call 20; (with_reducible refine (rsum_i l _ rfl A c _ Ha.out).mono ?_); rintro e1 w10 ⟨rfl, hs⟩; rw [Hsi.out]; replace H := Lib.hid (Stp.trans H.out hs); clear hs))
  all_goals go_ret
  all_goals exact ⟨rfl, H.out⟩
theorem htells_any (h : Hd) (hs : SmallH h) (l : L) (v : Value) (w : World) (hv' : Rd w w.heap.size v (bs l)) (hbig : l.length < 9223372036854775808) :
    Calls Try.prog 3 #[hv h, v] w fun e w' => e = .returned (.bool true) ∧ Below w.heap.size w w' := by
  obtain ⟨A, cap, rfl, ha⟩ := RdA.of hv'
  rw [bs_length]
  exact htells_walk h hs l A cap w ha hbig
end Go.Proofs.Ytleoiejkipobbaa.Head
