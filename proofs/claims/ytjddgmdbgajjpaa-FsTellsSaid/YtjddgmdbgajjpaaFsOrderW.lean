/-
  The law FsOrder, walked over the contracts: no statement is proved here.
-/
import Derived.Test.YtjddgmdbgajjpaaFsI
import Derived.Deep.RegionWith
import Derived.Deep.RegionLaw
import Derived.BigQuiet
import Derived.Deep.Cut
import Derived.Deep.CutRange
namespace Go.Proofs.Ytjddgmdbgajjpaa.Fs
open Go.Sort Go.RowKit Go.Proofs.Ytjddgmdbgajjpaa.Str Go.Proofs.Ytjddgmdbgajjpaa.Base Go.Proofs.Ytjddgmdbgajjpaa.Node Go.Proofs.Ytjddgmdbgajjpaa.Long Go.Proofs.Ytjddgmdbgajjpaa.FsM
open Go.Proofs.Ytjddgmdbgajjpaa.Tree (oneB mayT fewT nodeA nodeB)
set_option linter.unusedVariables false

set_option maxRecDepth 100000 in
set_option maxHeartbeats 4000000 in
theorem order_out (I : FsI) (hA : ∀ w : World, Calls Try.prog 9 #[] w fun e w' => e = .returned (.bool true) ∧ Stp w w') (ns : List Nd) (m : Nat) (hm : ns.length = m) (hm9 : m < 9223372036854775808) (hs : ∀ x ∈ ns, SmallN x) (A : Option Addr) (k : Nat) (n q : Nd) (hn : SmallN n) (hq : SmallN q) (w : World) (ha : RdN w A k ns) (f1 f2 f5 f3 : Bool) (h1 : fewT ns = f1) (h2 : fewN n = f2) (h5 : fewN q = f5) (h3 : mayF ns = f3) (h : f1 = false ∨ (f1 = true ∧ f2 = false) ∨ (f1 = true ∧ f2 = true ∧ f5 = false) ∨ (f1 = true ∧ f2 = true ∧ f5 = true ∧ f3 = false)) :
    Calls Try.prog 8 #[fv A m k, nv n, nv q] w fun e w' => e = .returned (.bool true) ∧ Stp w w' := by
  have HI := Lib.hid I
  have HA := Lib.hid hA
  have Hm := Lib.hid hm
  have Hs := Lib.hid hs
  have HR := Lib.hid ha
  have Hl : Hid (f1 = true → m ≤ 1000) := Lib.hid fun h => by rw [h] at h1; have := (Tree.fewT_iff.1 h1).1; omega
  have h0 := Lib.hid (Stp.alloc (Stp.refl w) (.cells (fcs A m k) 24))
  have HF := Lib.hid (Blk.new w 24 (fcs A m k))
  have HN := Lib.hid (by have h := Blk.new (w.alloc (.cells (fcs A m k) 24)) 26 (ncells n); simp only [World.size_alloc] at h; exact h)
  replace HF := Lib.hid (HF.out.alloc (.cells (ncells n) 26))
  replace h0 := Lib.hid (Stp.alloc h0.out (.cells (ncells n) 26))
  have HQ := Lib.hid (by have h := Blk.new ((w.alloc (.cells (fcs A m k) 24)).alloc (.cells (ncells n) 26)) 26 (ncells q); simp only [World.size_alloc] at h; exact h)
  replace HF := Lib.hid (HF.out.alloc (.cells (ncells q) 26))
  replace HN := Lib.hid (HN.out.alloc (.cells (ncells q) 26))
  replace h0 := Lib.hid (Stp.alloc h0.out (.cells (ncells q) 26))
  have f := fs_cell HF.out
  obtain ⟨n0, n1, n2, n3, n4, n5, n6, n7⟩ := nd_cells HN.out
  obtain ⟨j0, j1, j2, j3, j4, j5, j6, j7⟩ := nd_cells HQ.out
  have F1 := Lib.hid h1
  have F2 := Lib.hid h2
  have F3 := Lib.hid h3
  have F5 := Lib.hid h5
  clear I hA hm hs ha h1 h2 h3 h5
  rcases h with rfl | ⟨rfl, rfl⟩ | ⟨rfl, rfl, rfl⟩ | ⟨rfl, rfl, rfl, rfl⟩
  all_goals try replace Hl := Lib.hid (Hl.out rfl)
  all_goals
    go_enter Try.func8, Try.ntmps8
    go_wp2_with (first
      | (go_at_call 9; (refine (HA.out _).mono ?_); rintro e wn ⟨rfl, hs⟩; replace h0 := Lib.hid (Stp.trans h0.out hs); replace HF := Lib.hid (HF.out.keep hs HF.out.lt); replace HN := Lib.hid (HN.out.keep hs HN.out.lt); replace HQ := Lib.hid (HQ.out.keep hs HQ.out.lt); clear hs f n0 n1 n2 n3 n4 n5 n6 n7 j0 j1 j2 j3 j4 j5 j6 j7; have f := fs_cell HF.out; obtain ⟨n0, n1, n2, n3, n4, n5, n6, n7⟩ := nd_cells HN.out; obtain ⟨j0, j1, j2, j3, j4, j5, j6, j7⟩ := nd_cells HQ.out)
      | (go_at_call 10; (with_reducible refine (fewt_n ns m Hm.out hm9 _ F1.out A k _ (HR.out.keep h0.out)).mono ?_); rintro e wn ⟨rfl, hs⟩; replace h0 := Lib.hid (Stp.trans h0.out hs); replace HF := Lib.hid (HF.out.keep hs HF.out.lt); replace HN := Lib.hid (HN.out.keep hs HN.out.lt); replace HQ := Lib.hid (HQ.out.keep hs HQ.out.lt); clear hs f n0 n1 n2 n3 n4 n5 n6 n7 j0 j1 j2 j3 j4 j5 j6 j7; have f := fs_cell HF.out; obtain ⟨n0, n1, n2, n3, n4, n5, n6, n7⟩ := nd_cells HN.out; obtain ⟨j0, j1, j2, j3, j4, j5, j6, j7⟩ := nd_cells HQ.out)
      | (go_at_call 11; (with_reducible refine (fewn_n n _ rfl _ F2.out _).mono ?_); rintro e wn ⟨rfl, hs⟩; replace h0 := Lib.hid (Stp.trans h0.out hs); replace HF := Lib.hid (HF.out.keep hs HF.out.lt); replace HN := Lib.hid (HN.out.keep hs HN.out.lt); replace HQ := Lib.hid (HQ.out.keep hs HQ.out.lt); clear hs f n0 n1 n2 n3 n4 n5 n6 n7 j0 j1 j2 j3 j4 j5 j6 j7; have f := fs_cell HF.out; obtain ⟨n0, n1, n2, n3, n4, n5, n6, n7⟩ := nd_cells HN.out; obtain ⟨j0, j1, j2, j3, j4, j5, j6, j7⟩ := nd_cells HQ.out)
      | (go_at_call 11; (with_reducible refine (fewn_n q _ rfl _ F5.out _).mono ?_); rintro e wn ⟨rfl, hs⟩; replace h0 := Lib.hid (Stp.trans h0.out hs); replace HF := Lib.hid (HF.out.keep hs HF.out.lt); replace HN := Lib.hid (HN.out.keep hs HN.out.lt); replace HQ := Lib.hid (HQ.out.keep hs HQ.out.lt); clear hs f n0 n1 n2 n3 n4 n5 n6 n7 j0 j1 j2 j3 j4 j5 j6 j7; have f := fs_cell HF.out; obtain ⟨n0, n1, n2, n3, n4, n5, n6, n7⟩ := nd_cells HN.out; obtain ⟨j0, j1, j2, j3, j4, j5, j6, j7⟩ := nd_cells HQ.out)
      | (go_at_call 22; (with_reducible refine (HI.out.may ns m Hm.out Hl.out Hs.out _ F3.out A k _ (HR.out.keep h0.out)).mono ?_); rintro e wn ⟨rfl, hs⟩; replace h0 := Lib.hid (Stp.trans h0.out hs); replace HF := Lib.hid (HF.out.keep hs HF.out.lt); replace HN := Lib.hid (HN.out.keep hs HN.out.lt); replace HQ := Lib.hid (HQ.out.keep hs HQ.out.lt); clear hs f n0 n1 n2 n3 n4 n5 n6 n7 j0 j1 j2 j3 j4 j5 j6 j7; have f := fs_cell HF.out; obtain ⟨n0, n1, n2, n3, n4, n5, n6, n7⟩ := nd_cells HN.out; obtain ⟨j0, j1, j2, j3, j4, j5, j6, j7⟩ := nd_cells HQ.out))
    go_ret
    exact ⟨rfl, h0.out⟩
set_option maxRecDepth 100000 in
set_option maxHeartbeats 16000000 in
theorem order_in (I : FsI) (hA : ∀ w : World, Calls Try.prog 9 #[] w fun e w' => e = .returned (.bool true) ∧ Stp w w') (ns : List Nd) (m : Nat) (hm : ns.length = m) (hm9 : m < 9223372036854775808) (hs : ∀ x ∈ ns, SmallN x) (A : Option Addr) (k : Nat) (n q : Nd) (hn : SmallN n) (hq : SmallN q) (w : World) (ha : RdN w A k ns) (h1 : fewT ns = true) (h2 : fewN n = true) (h5 : fewN q = true) (h3 : mayF ns = true) :
    Calls Try.prog 8 #[fv A m k, nv n, nv q] w fun e w' => e = .returned (.bool true) ∧ Stp w w' := by
  have HI := Lib.hid I
  have HA := Lib.hid hA
  have Hm := Lib.hid hm
  have Hs := Lib.hid hs
  have HR := Lib.hid ha
  have F1 := Lib.hid h1
  have F2 := Lib.hid h2
  have F3 := Lib.hid h3
  have F5 := Lib.hid h5
  have hm30 : m ≤ 30 := by have := (Tree.fewT_iff.1 h1).1; omega
  have Hl : Hid (m ≤ 1000) := Lib.hid (by omega)
  have Hsn := Lib.hid hn
  have Hsq := Lib.hid hq
  obtain ⟨xs, e0, hx⟩ : ∃ ms e0, putF ns n = (ms, e0) := ⟨_, _, rfl⟩
  obtain ⟨zs, e1, hz⟩ : ∃ ms e0, putF ns q = (ms, e0) := ⟨_, _, rfl⟩
  obtain ⟨nx, hnx⟩ : ∃ z, xs.length = z := ⟨_, rfl⟩
  obtain ⟨nz, hnz⟩ : ∃ z, zs.length = z := ⟨_, rfl⟩
  obtain ⟨sx, lx⟩ := put_small hx hs hn
  obtain ⟨sz, lz⟩ := put_small hz hs hq
  rw [hnx, hm] at lx
  rw [hnz, hm] at lz
  obtain ⟨ys, e2, hy⟩ : ∃ ms e0, putF xs q = (ms, e0) := ⟨_, _, rfl⟩
  obtain ⟨ws, e3, hw⟩ : ∃ ms e0, putF zs n = (ms, e0) := ⟨_, _, rfl⟩
  obtain ⟨ny, hny⟩ : ∃ z, ys.length = z := ⟨_, rfl⟩
  obtain ⟨nw, hnw⟩ : ∃ z, ws.length = z := ⟨_, rfl⟩
  have ly := (put_small hy sx hq).2
  have lw := (put_small hw sz hn).2
  rw [hny, hnx] at ly
  rw [hnw, hnz] at lw
  obtain ⟨b, hb⟩ : ∃ b, (n.path == q.path) = b := ⟨_, rfl⟩
  obtain ⟨c0, hc0⟩ : ∃ b, (e0 != 0) = b := ⟨_, rfl⟩
  obtain ⟨c1, hc1⟩ : ∃ b, (e1 != 0) = b := ⟨_, rfl⟩
  obtain ⟨c2, hc2⟩ : ∃ b, (e2 != 0) = b := ⟨_, rfl⟩
  obtain ⟨ds, hds⟩ : ∃ b, decide (ys = ws) = b := ⟨_, rfl⟩
  have key : c0 = true ∨ (c0 = false ∧ c1 = true) ∨ (c0 = false ∧ c1 = false ∧ b = true) ∨ (c0 = false ∧ c1 = false ∧ b = false ∧ (e2 == e3) = true ∧ (c2 = true ∨ (c2 = false ∧ ds = true))) := by
    cases c0
    · cases c1
      · cases b
        · refine .inr (.inr (.inr ⟨rfl, rfl, rfl, ?_⟩))
          have q0 : (putF ns n).2 = 0 := by rw [hx]; simpa using hc0
          have q1 : (putF ns q).2 = 0 := by rw [hz]; simpa using hc1
          obtain ⟨-, -, -, -, -, a6⟩ := put_ok q0
          obtain ⟨-, -, -, -, -, b6⟩ := put_ok q1
          rw [hx] at a6
          rw [hz] at b6
          dsimp only at a6 b6
          obtain ⟨t1, t2⟩ := two_order q0 q1 (by simpa using hb)
          rw [← a6, ← b6, hy, hw] at t1 t2
          dsimp only at t1 t2
          refine ⟨by rw [t1]; simp, ?_⟩
          cases c2
          · exact .inr ⟨rfl, by rw [← hds]; exact decide_eq_true (t2 (by simpa using hc2))⟩
          · exact .inl rfl
        · exact .inr (.inr (.inl ⟨rfl, rfl, rfl⟩))
      · exact .inr (.inl ⟨rfl, rfl⟩)
    · exact .inl rfl
  have HX := Lib.hid hx
  have HZ := Lib.hid hz
  have HY := Lib.hid hy
  have HW := Lib.hid hw
  have Hnx := Lib.hid hnx
  have Hnz := Lib.hid hnz
  have Hny := Lib.hid hny
  have Hnw := Lib.hid hnw
  have Hsx := Lib.hid sx
  have Hsz := Lib.hid sz
  have Hlx : Hid (nx ≤ 1000) := Lib.hid (by omega)
  have Hlz : Hid (nz ≤ 1000) := Lib.hid (by omega)
  have Hly : Hid (ny ≤ 1000) := Lib.hid (by omega)
  have Hlw : Hid (nw ≤ 1000) := Lib.hid (by omega)
  have Hds := Lib.hid hds
  have h0 := Lib.hid (Stp.alloc (Stp.refl w) (.cells (fcs A m k) 24))
  have HF := Lib.hid (Blk.new w 24 (fcs A m k))
  have HN := Lib.hid (by have h := Blk.new (w.alloc (.cells (fcs A m k) 24)) 26 (ncells n); simp only [World.size_alloc] at h; exact h)
  replace HF := Lib.hid (HF.out.alloc (.cells (ncells n) 26))
  replace h0 := Lib.hid (Stp.alloc h0.out (.cells (ncells n) 26))
  have HQ := Lib.hid (by have h := Blk.new ((w.alloc (.cells (fcs A m k) 24)).alloc (.cells (ncells n) 26)) 26 (ncells q); simp only [World.size_alloc] at h; exact h)
  replace HF := Lib.hid (HF.out.alloc (.cells (ncells q) 26))
  replace HN := Lib.hid (HN.out.alloc (.cells (ncells q) 26))
  replace h0 := Lib.hid (Stp.alloc h0.out (.cells (ncells q) 26))
  have f := fs_cell HF.out
  obtain ⟨n0, n1, n2, n3, n4, n5, n6, n7⟩ := nd_cells HN.out
  obtain ⟨j0, j1, j2, j3, j4, j5, j6, j7⟩ := nd_cells HQ.out
  clear I hA hm hs ha h1 h2 h3 h5 hx hz hy hw hnx hnz hny hnw sx sz lx lz ly lw hds hm30 hn hq
  go_enter Try.func8, Try.ntmps8
  go_upto_region 8 with (first
    | (go_at_call 9; (refine (HA.out _).mono ?_); rintro e wn ⟨rfl, hs⟩; replace h0 := Lib.hid (Stp.trans h0.out hs); replace HF := Lib.hid (HF.out.keep hs HF.out.lt); replace HN := Lib.hid (HN.out.keep hs HN.out.lt); replace HQ := Lib.hid (HQ.out.keep hs HQ.out.lt); clear hs f n0 n1 n2 n3 n4 n5 n6 n7 j0 j1 j2 j3 j4 j5 j6 j7; have f := fs_cell HF.out; obtain ⟨n0, n1, n2, n3, n4, n5, n6, n7⟩ := nd_cells HN.out; obtain ⟨j0, j1, j2, j3, j4, j5, j6, j7⟩ := nd_cells HQ.out)
    | (go_at_call 10; (with_reducible refine (fewt_n ns m Hm.out hm9 _ F1.out A k _ (HR.out.keep h0.out)).mono ?_); rintro e wn ⟨rfl, hs⟩; replace h0 := Lib.hid (Stp.trans h0.out hs); replace HF := Lib.hid (HF.out.keep hs HF.out.lt); replace HN := Lib.hid (HN.out.keep hs HN.out.lt); replace HQ := Lib.hid (HQ.out.keep hs HQ.out.lt); clear hs f n0 n1 n2 n3 n4 n5 n6 n7 j0 j1 j2 j3 j4 j5 j6 j7; have f := fs_cell HF.out; obtain ⟨n0, n1, n2, n3, n4, n5, n6, n7⟩ := nd_cells HN.out; obtain ⟨j0, j1, j2, j3, j4, j5, j6, j7⟩ := nd_cells HQ.out)
    | (go_at_call 11; (with_reducible refine (fewn_n n _ rfl _ F2.out _).mono ?_); rintro e wn ⟨rfl, hs⟩; replace h0 := Lib.hid (Stp.trans h0.out hs); replace HF := Lib.hid (HF.out.keep hs HF.out.lt); replace HN := Lib.hid (HN.out.keep hs HN.out.lt); replace HQ := Lib.hid (HQ.out.keep hs HQ.out.lt); clear hs f n0 n1 n2 n3 n4 n5 n6 n7 j0 j1 j2 j3 j4 j5 j6 j7; have f := fs_cell HF.out; obtain ⟨n0, n1, n2, n3, n4, n5, n6, n7⟩ := nd_cells HN.out; obtain ⟨j0, j1, j2, j3, j4, j5, j6, j7⟩ := nd_cells HQ.out)
    | (go_at_call 11; (with_reducible refine (fewn_n q _ rfl _ F5.out _).mono ?_); rintro e wn ⟨rfl, hs⟩; replace h0 := Lib.hid (Stp.trans h0.out hs); replace HF := Lib.hid (HF.out.keep hs HF.out.lt); replace HN := Lib.hid (HN.out.keep hs HN.out.lt); replace HQ := Lib.hid (HQ.out.keep hs HQ.out.lt); clear hs f n0 n1 n2 n3 n4 n5 n6 n7 j0 j1 j2 j3 j4 j5 j6 j7; have f := fs_cell HF.out; obtain ⟨n0, n1, n2, n3, n4, n5, n6, n7⟩ := nd_cells HN.out; obtain ⟨j0, j1, j2, j3, j4, j5, j6, j7⟩ := nd_cells HQ.out)
    | (go_at_call 22; (with_reducible refine (HI.out.may ns m Hm.out Hl.out Hs.out _ F3.out A k _ (HR.out.keep h0.out)).mono ?_); rintro e wn ⟨rfl, hs⟩; replace h0 := Lib.hid (Stp.trans h0.out hs); replace HF := Lib.hid (HF.out.keep hs HF.out.lt); replace HN := Lib.hid (HN.out.keep hs HN.out.lt); replace HQ := Lib.hid (HQ.out.keep hs HQ.out.lt); clear hs f n0 n1 n2 n3 n4 n5 n6 n7 j0 j1 j2 j3 j4 j5 j6 j7; have f := fs_cell HF.out; obtain ⟨n0, n1, n2, n3, n4, n5, n6, n7⟩ := nd_cells HN.out; obtain ⟨j0, j1, j2, j3, j4, j5, j6, j7⟩ := nd_cells HQ.out)
    | (go_at_call 12; (with_reducible refine (HI.out.put ns m Hm.out Hl.out Hs.out n _ rfl Hsn.out xs e0 HX.out nx Hnx.out A k _ (HR.out.keep h0.out)).mono ?_); rintro e wn ⟨B1, d1, rfl, hr, hs⟩; replace h0 := Lib.hid (Stp.trans h0.out hs); replace HF := Lib.hid (HF.out.keep hs HF.out.lt); replace HN := Lib.hid (HN.out.keep hs HN.out.lt); replace HQ := Lib.hid (HQ.out.keep hs HQ.out.lt); clear hr; clear hs f n0 n1 n2 n3 n4 n5 n6 n7 j0 j1 j2 j3 j4 j5 j6 j7; have f := fs_cell HF.out; obtain ⟨n0, n1, n2, n3, n4, n5, n6, n7⟩ := nd_cells HN.out; obtain ⟨j0, j1, j2, j3, j4, j5, j6, j7⟩ := nd_cells HQ.out))
  have hal := Stp.alloc (Stp.refl wn) (.cells (fcs B1 nx d1) 24)
  have HG := Lib.hid (Blk.new wn 24 (fcs B1 nx d1))
  clear f n0 n1 n2 n3 n4 n5 n6 n7 j0 j1 j2 j3 j4 j5 j6 j7
  replace h0 := Lib.hid (Stp.trans h0.out hal)
  replace HF := Lib.hid (HF.out.keep hal HF.out.lt)
  replace HN := Lib.hid (HN.out.keep hal HN.out.lt)
  replace HQ := Lib.hid (HQ.out.keep hal HQ.out.lt)
  change Code.wp _ _ _ _ (wn.alloc (.cells (fcs B1 nx d1) 24))
  obtain ⟨gHG, hgHG⟩ : ∃ g, wn.heap.size = g := ⟨_, rfl⟩
  rw [hgHG] at HG ⊢
  clear hal hgHG
  generalize wn.alloc (.cells (fcs B1 nx d1) 24) = WHG at h0 HG HF HN HQ ⊢
  have f := fs_cell HF.out
  obtain ⟨n0, n1, n2, n3, n4, n5, n6, n7⟩ := nd_cells HN.out
  obtain ⟨j0, j1, j2, j3, j4, j5, j6, j7⟩ := nd_cells HQ.out
  have g := fs_cell HG.out
  go_upto_region 9 with ((go_at_call 12; (with_reducible refine (HI.out.put ns m Hm.out Hl.out Hs.out q _ rfl Hsq.out zs e1 HZ.out nz Hnz.out A k _ (HR.out.keep h0.out)).mono ?_); rintro e wn ⟨B2, d2, rfl, hr, hs⟩; replace h0 := Lib.hid (Stp.trans h0.out hs); replace HF := Lib.hid (HF.out.keep hs HF.out.lt); replace HN := Lib.hid (HN.out.keep hs HN.out.lt); replace HQ := Lib.hid (HQ.out.keep hs HQ.out.lt); replace HG := Lib.hid (HG.out.keep hs HG.out.lt); clear hr; clear hs f n0 n1 n2 n3 n4 n5 n6 n7 j0 j1 j2 j3 j4 j5 j6 j7 g; have f := fs_cell HF.out; obtain ⟨n0, n1, n2, n3, n4, n5, n6, n7⟩ := nd_cells HN.out; obtain ⟨j0, j1, j2, j3, j4, j5, j6, j7⟩ := nd_cells HQ.out; have g := fs_cell HG.out))
  have hal := Stp.alloc (Stp.refl wn) (.cells (fcs B2 nz d2) 24)
  have HH := Lib.hid (Blk.new wn 24 (fcs B2 nz d2))
  clear f n0 n1 n2 n3 n4 n5 n6 n7 j0 j1 j2 j3 j4 j5 j6 j7 g
  replace h0 := Lib.hid (Stp.trans h0.out hal)
  replace HF := Lib.hid (HF.out.keep hal HF.out.lt)
  replace HN := Lib.hid (HN.out.keep hal HN.out.lt)
  replace HQ := Lib.hid (HQ.out.keep hal HQ.out.lt)
  replace HG := Lib.hid (HG.out.keep hal HG.out.lt)
  change Code.wp _ _ _ _ (wn.alloc (.cells (fcs B2 nz d2) 24))
  obtain ⟨gHH, hgHH⟩ : ∃ g, wn.heap.size = g := ⟨_, rfl⟩
  rw [hgHH] at HH ⊢
  clear hal hgHH
  generalize wn.alloc (.cells (fcs B2 nz d2) 24) = WHH at h0 HH HF HN HQ HG ⊢
  have f := fs_cell HF.out
  obtain ⟨n0, n1, n2, n3, n4, n5, n6, n7⟩ := nd_cells HN.out
  obtain ⟨j0, j1, j2, j3, j4, j5, j6, j7⟩ := nd_cells HQ.out
  have g := fs_cell HG.out
  have i := fs_cell HH.out
  rcases key with rfl | ⟨rfl, rfl⟩ | ⟨rfl, rfl, rfl⟩ | ⟨rfl, rfl, rfl, ke, key⟩
  · go_wp2
    go_ret
    exact ⟨rfl, h0.out⟩
  · go_wp2
    go_ret
    exact ⟨rfl, h0.out⟩
  · go_wp2
    go_ret
    exact ⟨rfl, h0.out⟩
  go_upto_region 12 with ((go_at_call 12; (with_reducible refine (HI.out.put ns m Hm.out Hl.out Hs.out n _ rfl Hsn.out xs e0 HX.out nx Hnx.out A k _ (HR.out.keep h0.out)).mono ?_); rintro e wn ⟨B3, d3, rfl, hr, hs⟩; replace h0 := Lib.hid (Stp.trans h0.out hs); replace HF := Lib.hid (HF.out.keep hs HF.out.lt); replace HN := Lib.hid (HN.out.keep hs HN.out.lt); replace HQ := Lib.hid (HQ.out.keep hs HQ.out.lt); replace HG := Lib.hid (HG.out.keep hs HG.out.lt); replace HH := Lib.hid (HH.out.keep hs HH.out.lt); have HMx := Lib.hid hr; clear hr; clear hs f n0 n1 n2 n3 n4 n5 n6 n7 j0 j1 j2 j3 j4 j5 j6 j7 g i; have f := fs_cell HF.out; obtain ⟨n0, n1, n2, n3, n4, n5, n6, n7⟩ := nd_cells HN.out; obtain ⟨j0, j1, j2, j3, j4, j5, j6, j7⟩ := nd_cells HQ.out; have g := fs_cell HG.out; have i := fs_cell HH.out))
  have hal := Stp.alloc (Stp.refl wn) (.cells (fcs B3 nx d3) 24)
  have HG3 := Lib.hid (Blk.new wn 24 (fcs B3 nx d3))
  clear f n0 n1 n2 n3 n4 n5 n6 n7 j0 j1 j2 j3 j4 j5 j6 j7 g i
  replace h0 := Lib.hid (Stp.trans h0.out hal)
  replace HF := Lib.hid (HF.out.keep hal HF.out.lt)
  replace HN := Lib.hid (HN.out.keep hal HN.out.lt)
  replace HQ := Lib.hid (HQ.out.keep hal HQ.out.lt)
  replace HG := Lib.hid (HG.out.keep hal HG.out.lt)
  replace HH := Lib.hid (HH.out.keep hal HH.out.lt)
  replace HMx := Lib.hid (HMx.out.keep hal)
  change Code.wp _ _ _ _ (wn.alloc (.cells (fcs B3 nx d3) 24))
  obtain ⟨gHG3, hgHG3⟩ : ∃ g, wn.heap.size = g := ⟨_, rfl⟩
  rw [hgHG3] at HG3 ⊢
  clear hal hgHG3
  generalize wn.alloc (.cells (fcs B3 nx d3) 24) = WHG3 at h0 HG3 HF HN HQ HG HH HMx ⊢
  have f := fs_cell HF.out
  obtain ⟨n0, n1, n2, n3, n4, n5, n6, n7⟩ := nd_cells HN.out
  obtain ⟨j0, j1, j2, j3, j4, j5, j6, j7⟩ := nd_cells HQ.out
  have g := fs_cell HG.out
  have i := fs_cell HH.out
  have ya := fs_cell HG3.out
  go_upto_region 13 with ((go_at_call 12; (with_reducible refine (HI.out.put xs nx Hnx.out Hlx.out Hsx.out q _ rfl Hsq.out ys e2 HY.out ny Hny.out B3 d3 _ HMx.out).mono ?_); rintro e wn ⟨B4, d4, rfl, hr, hs⟩; replace h0 := Lib.hid (Stp.trans h0.out hs); replace HF := Lib.hid (HF.out.keep hs HF.out.lt); replace HN := Lib.hid (HN.out.keep hs HN.out.lt); replace HQ := Lib.hid (HQ.out.keep hs HQ.out.lt); replace HG := Lib.hid (HG.out.keep hs HG.out.lt); replace HH := Lib.hid (HH.out.keep hs HH.out.lt); replace HG3 := Lib.hid (HG3.out.keep hs HG3.out.lt); replace HMx := Lib.hid (HMx.out.keep hs); have HMy := Lib.hid hr; clear hr; clear hs f n0 n1 n2 n3 n4 n5 n6 n7 j0 j1 j2 j3 j4 j5 j6 j7 g i ya; have f := fs_cell HF.out; obtain ⟨n0, n1, n2, n3, n4, n5, n6, n7⟩ := nd_cells HN.out; obtain ⟨j0, j1, j2, j3, j4, j5, j6, j7⟩ := nd_cells HQ.out; have g := fs_cell HG.out; have i := fs_cell HH.out; have ya := fs_cell HG3.out))
  have hal := Stp.alloc (Stp.refl wn) (.cells (fcs B4 ny d4) 24)
  have HG4 := Lib.hid (Blk.new wn 24 (fcs B4 ny d4))
  clear f n0 n1 n2 n3 n4 n5 n6 n7 j0 j1 j2 j3 j4 j5 j6 j7 g i ya
  replace h0 := Lib.hid (Stp.trans h0.out hal)
  replace HF := Lib.hid (HF.out.keep hal HF.out.lt)
  replace HN := Lib.hid (HN.out.keep hal HN.out.lt)
  replace HQ := Lib.hid (HQ.out.keep hal HQ.out.lt)
  replace HG := Lib.hid (HG.out.keep hal HG.out.lt)
  replace HH := Lib.hid (HH.out.keep hal HH.out.lt)
  replace HG3 := Lib.hid (HG3.out.keep hal HG3.out.lt)
  replace HMx := Lib.hid (HMx.out.keep hal)
  replace HMy := Lib.hid (HMy.out.keep hal)
  change Code.wp _ _ _ _ (wn.alloc (.cells (fcs B4 ny d4) 24))
  obtain ⟨gHG4, hgHG4⟩ : ∃ g, wn.heap.size = g := ⟨_, rfl⟩
  rw [hgHG4] at HG4 ⊢
  clear hal hgHG4
  generalize wn.alloc (.cells (fcs B4 ny d4) 24) = WHG4 at h0 HG4 HF HN HQ HG HH HG3 HMx HMy ⊢
  have f := fs_cell HF.out
  obtain ⟨n0, n1, n2, n3, n4, n5, n6, n7⟩ := nd_cells HN.out
  obtain ⟨j0, j1, j2, j3, j4, j5, j6, j7⟩ := nd_cells HQ.out
  have g := fs_cell HG.out
  have i := fs_cell HH.out
  have ya := fs_cell HG3.out
  have yb := fs_cell HG4.out
  go_upto_region 14 with ((go_at_call 12; (with_reducible refine (HI.out.put ns m Hm.out Hl.out Hs.out q _ rfl Hsq.out zs e1 HZ.out nz Hnz.out A k _ (HR.out.keep h0.out)).mono ?_); rintro e wn ⟨B5, d5, rfl, hr, hs⟩; replace h0 := Lib.hid (Stp.trans h0.out hs); replace HF := Lib.hid (HF.out.keep hs HF.out.lt); replace HN := Lib.hid (HN.out.keep hs HN.out.lt); replace HQ := Lib.hid (HQ.out.keep hs HQ.out.lt); replace HG := Lib.hid (HG.out.keep hs HG.out.lt); replace HH := Lib.hid (HH.out.keep hs HH.out.lt); replace HG3 := Lib.hid (HG3.out.keep hs HG3.out.lt); replace HG4 := Lib.hid (HG4.out.keep hs HG4.out.lt); replace HMx := Lib.hid (HMx.out.keep hs); replace HMy := Lib.hid (HMy.out.keep hs); have HMz := Lib.hid hr; clear hr; clear hs f n0 n1 n2 n3 n4 n5 n6 n7 j0 j1 j2 j3 j4 j5 j6 j7 g i ya yb; have f := fs_cell HF.out; obtain ⟨n0, n1, n2, n3, n4, n5, n6, n7⟩ := nd_cells HN.out; obtain ⟨j0, j1, j2, j3, j4, j5, j6, j7⟩ := nd_cells HQ.out; have g := fs_cell HG.out; have i := fs_cell HH.out; have ya := fs_cell HG3.out; have yb := fs_cell HG4.out))
  have hal := Stp.alloc (Stp.refl wn) (.cells (fcs B5 nz d5) 24)
  have HG5 := Lib.hid (Blk.new wn 24 (fcs B5 nz d5))
  clear f n0 n1 n2 n3 n4 n5 n6 n7 j0 j1 j2 j3 j4 j5 j6 j7 g i ya yb
  replace h0 := Lib.hid (Stp.trans h0.out hal)
  replace HF := Lib.hid (HF.out.keep hal HF.out.lt)
  replace HN := Lib.hid (HN.out.keep hal HN.out.lt)
  replace HQ := Lib.hid (HQ.out.keep hal HQ.out.lt)
  replace HG := Lib.hid (HG.out.keep hal HG.out.lt)
  replace HH := Lib.hid (HH.out.keep hal HH.out.lt)
  replace HG3 := Lib.hid (HG3.out.keep hal HG3.out.lt)
  replace HG4 := Lib.hid (HG4.out.keep hal HG4.out.lt)
  replace HMx := Lib.hid (HMx.out.keep hal)
  replace HMy := Lib.hid (HMy.out.keep hal)
  replace HMz := Lib.hid (HMz.out.keep hal)
  change Code.wp _ _ _ _ (wn.alloc (.cells (fcs B5 nz d5) 24))
  obtain ⟨gHG5, hgHG5⟩ : ∃ g, wn.heap.size = g := ⟨_, rfl⟩
  rw [hgHG5] at HG5 ⊢
  clear hal hgHG5
  generalize wn.alloc (.cells (fcs B5 nz d5) 24) = WHG5 at h0 HG5 HF HN HQ HG HH HG3 HG4 HMx HMy HMz ⊢
  have f := fs_cell HF.out
  obtain ⟨n0, n1, n2, n3, n4, n5, n6, n7⟩ := nd_cells HN.out
  obtain ⟨j0, j1, j2, j3, j4, j5, j6, j7⟩ := nd_cells HQ.out
  have g := fs_cell HG.out
  have i := fs_cell HH.out
  have ya := fs_cell HG3.out
  have yb := fs_cell HG4.out
  have yc := fs_cell HG5.out
  go_upto_region 15 with ((go_at_call 12; (with_reducible refine (HI.out.put zs nz Hnz.out Hlz.out Hsz.out n _ rfl Hsn.out ws e3 HW.out nw Hnw.out B5 d5 _ HMz.out).mono ?_); rintro e wn ⟨B6, d6, rfl, hr, hs⟩; replace h0 := Lib.hid (Stp.trans h0.out hs); replace HF := Lib.hid (HF.out.keep hs HF.out.lt); replace HN := Lib.hid (HN.out.keep hs HN.out.lt); replace HQ := Lib.hid (HQ.out.keep hs HQ.out.lt); replace HG := Lib.hid (HG.out.keep hs HG.out.lt); replace HH := Lib.hid (HH.out.keep hs HH.out.lt); replace HG3 := Lib.hid (HG3.out.keep hs HG3.out.lt); replace HG4 := Lib.hid (HG4.out.keep hs HG4.out.lt); replace HG5 := Lib.hid (HG5.out.keep hs HG5.out.lt); replace HMx := Lib.hid (HMx.out.keep hs); replace HMy := Lib.hid (HMy.out.keep hs); replace HMz := Lib.hid (HMz.out.keep hs); have HMw := Lib.hid hr; clear hr; clear hs f n0 n1 n2 n3 n4 n5 n6 n7 j0 j1 j2 j3 j4 j5 j6 j7 g i ya yb yc; have f := fs_cell HF.out; obtain ⟨n0, n1, n2, n3, n4, n5, n6, n7⟩ := nd_cells HN.out; obtain ⟨j0, j1, j2, j3, j4, j5, j6, j7⟩ := nd_cells HQ.out; have g := fs_cell HG.out; have i := fs_cell HH.out; have ya := fs_cell HG3.out; have yb := fs_cell HG4.out; have yc := fs_cell HG5.out))
  have hal := Stp.alloc (Stp.refl wn) (.cells (fcs B6 nw d6) 24)
  have HG6 := Lib.hid (Blk.new wn 24 (fcs B6 nw d6))
  clear f n0 n1 n2 n3 n4 n5 n6 n7 j0 j1 j2 j3 j4 j5 j6 j7 g i ya yb yc
  replace h0 := Lib.hid (Stp.trans h0.out hal)
  replace HF := Lib.hid (HF.out.keep hal HF.out.lt)
  replace HN := Lib.hid (HN.out.keep hal HN.out.lt)
  replace HQ := Lib.hid (HQ.out.keep hal HQ.out.lt)
  replace HG := Lib.hid (HG.out.keep hal HG.out.lt)
  replace HH := Lib.hid (HH.out.keep hal HH.out.lt)
  replace HG3 := Lib.hid (HG3.out.keep hal HG3.out.lt)
  replace HG4 := Lib.hid (HG4.out.keep hal HG4.out.lt)
  replace HG5 := Lib.hid (HG5.out.keep hal HG5.out.lt)
  replace HMx := Lib.hid (HMx.out.keep hal)
  replace HMy := Lib.hid (HMy.out.keep hal)
  replace HMz := Lib.hid (HMz.out.keep hal)
  replace HMw := Lib.hid (HMw.out.keep hal)
  change Code.wp _ _ _ _ (wn.alloc (.cells (fcs B6 nw d6) 24))
  obtain ⟨gHG6, hgHG6⟩ : ∃ g, wn.heap.size = g := ⟨_, rfl⟩
  rw [hgHG6] at HG6 ⊢
  clear hal hgHG6
  generalize wn.alloc (.cells (fcs B6 nw d6) 24) = WHG6 at h0 HG6 HF HN HQ HG HH HG3 HG4 HG5 HMx HMy HMz HMw ⊢
  have f := fs_cell HF.out
  obtain ⟨n0, n1, n2, n3, n4, n5, n6, n7⟩ := nd_cells HN.out
  obtain ⟨j0, j1, j2, j3, j4, j5, j6, j7⟩ := nd_cells HQ.out
  have g := fs_cell HG.out
  have i := fs_cell HH.out
  have ya := fs_cell HG3.out
  have yb := fs_cell HG4.out
  have yc := fs_cell HG5.out
  have yd := fs_cell HG6.out
  rcases key with rfl | ⟨rfl, rfl⟩
  all_goals
    go_wp2_with ((go_at_call 23; (with_reducible refine (HI.out.same ys ws ny nw Hny.out Hnw.out Hly.out Hlw.out _ Hds.out B4 B6 d4 d6 _ HMy.out HMw.out).mono ?_); rintro e wn ⟨rfl, hs⟩; replace h0 := Lib.hid (Stp.trans h0.out hs); replace HF := Lib.hid (HF.out.keep hs HF.out.lt); replace HN := Lib.hid (HN.out.keep hs HN.out.lt); replace HQ := Lib.hid (HQ.out.keep hs HQ.out.lt); replace HG := Lib.hid (HG.out.keep hs HG.out.lt); replace HH := Lib.hid (HH.out.keep hs HH.out.lt); replace HG3 := Lib.hid (HG3.out.keep hs HG3.out.lt); replace HG4 := Lib.hid (HG4.out.keep hs HG4.out.lt); replace HG5 := Lib.hid (HG5.out.keep hs HG5.out.lt); replace HG6 := Lib.hid (HG6.out.keep hs HG6.out.lt); replace HMx := Lib.hid (HMx.out.keep hs); replace HMy := Lib.hid (HMy.out.keep hs); replace HMz := Lib.hid (HMz.out.keep hs); replace HMw := Lib.hid (HMw.out.keep hs); clear hs f n0 n1 n2 n3 n4 n5 n6 n7 j0 j1 j2 j3 j4 j5 j6 j7 g i ya yb yc yd; have f := fs_cell HF.out; obtain ⟨n0, n1, n2, n3, n4, n5, n6, n7⟩ := nd_cells HN.out; obtain ⟨j0, j1, j2, j3, j4, j5, j6, j7⟩ := nd_cells HQ.out; have g := fs_cell HG.out; have i := fs_cell HH.out; have ya := fs_cell HG3.out; have yb := fs_cell HG4.out; have yc := fs_cell HG5.out; have yd := fs_cell HG6.out))
    go_ret
    exact ⟨rfl, h0.out⟩
theorem order_walk (I : FsI) (hA : ∀ w : World, Calls Try.prog 9 #[] w fun e w' => e = .returned (.bool true) ∧ Stp w w') (ns : List Nd) (m : Nat) (hm : ns.length = m) (hm9 : m < 9223372036854775808) (hs : ∀ x ∈ ns, SmallN x) (A : Option Addr) (k : Nat) (n q : Nd) (hn : SmallN n) (hq : SmallN q) (w : World) (ha : RdN w A k ns) :
    Calls Try.prog 8 #[fv A m k, nv n, nv q] w fun e w' => e = .returned (.bool true) ∧ Stp w w' := by
  by_cases h : fewT ns = true ∧ fewN n = true ∧ fewN q = true ∧ mayF ns = true
  · exact order_in I hA ns m hm hm9 hs A k n q hn hq w ha h.1 h.2.1 h.2.2.1 h.2.2.2
  · refine order_out I hA ns m hm hm9 hs A k n q hn hq w ha _ _ _ _ rfl rfl rfl rfl ?_
    cases h1 : fewT ns <;> cases h2 : fewN n <;> cases h5 : fewN q <;> cases h3 : mayF ns <;> simp_all
end Go.Proofs.Ytjddgmdbgajjpaa.Fs
