/-
  The law FsTells, walked over the contracts: no statement is proved here.
-/
import Derived.Test.YtjddgmdbgajjpaaFsRef3
import Derived.Deep.RegionWith
import Derived.Deep.RegionLaw
import Derived.BigQuiet
import Derived.Deep.Cut
import Derived.Deep.CutRange
namespace Go.Proofs.Ytjddgmdbgajjpaa.Fs
open Go.Sort Go.RowKit Go.Proofs.Ytjddgmdbgajjpaa.Str Go.Proofs.Ytjddgmdbgajjpaa.Base Go.Proofs.Ytjddgmdbgajjpaa.Node Go.Proofs.Ytjddgmdbgajjpaa.Long Go.Proofs.Ytjddgmdbgajjpaa.FsM
open Go.Proofs.Ytjddgmdbgajjpaa.Tree (oneB mayT fewT nodeA nodeB)
set_option linter.unusedVariables false

set_option maxRecDepth 100000 in
set_option maxHeartbeats 8000000 in
theorem tells_out (I : FsI) (hA : ∀ w : World, Calls Try.prog 9 #[] w fun e w' => e = .returned (.bool true) ∧ Stp w w') (ns : List Nd) (m : Nat) (hm : ns.length = m) (hm9 : m < 9223372036854775808) (hs : ∀ x ∈ ns, SmallN x) (A : Option Addr) (k : Nat) (ns2 : List Nd) (m2 : Nat) (hm2 : ns2.length = m2) (hm29 : m2 < 9223372036854775808) (A2 : Option Addr) (k2 : Nat) (n : Nd) (hn : SmallN n) (p : List UInt8) (hpl : p.length ≤ 9223372036854775807) (dd : List UInt8) (hdl : dd.length ≤ 9223372036854775807) (w : World) (ha : RdN w A k ns) (ha2 : RdN w A2 k2 ns2) (f1 f4 f2 f5 f6 : Bool) (h1 : fewT ns = f1) (h4 : fewT ns2 = f4) (h2 : fewN n = f2) (h5 : decide ((400 : Int) < (p.length : Int)) = f5) (h6 : decide ((5000 : Int) < (dd.length : Int)) = f6)
    (h : f1 = false ∨ (f1 = true ∧ f4 = false) ∨ (f1 = true ∧ f4 = true ∧ f2 = false) ∨ (f1 = true ∧ f4 = true ∧ f2 = true ∧ f5 = true) ∨ (f1 = true ∧ f4 = true ∧ f2 = true ∧ f5 = false ∧ f6 = true)) :
    Calls Try.prog 3 #[fv A m k, fv A2 m2 k2, nv n, .string ⟨p.toArray⟩, .string ⟨dd.toArray⟩] w fun e w' => e = .returned (.bool true) ∧ Stp w w' := by
  have HI := Lib.hid I
  have HA := Lib.hid hA
  have Hm := Lib.hid hm
  have Hs := Lib.hid hs
  have HR := Lib.hid ha
  have Hm2 := Lib.hid hm2
  have HR2 := Lib.hid ha2
  have h0 := Lib.hid (Stp.alloc (Stp.refl w) (.cells (fcs A m k) 24))
  have HF := Lib.hid (Blk.new w 24 (fcs A m k))
  have HG := Lib.hid (by have h := Blk.new (w.alloc (.cells (fcs A m k) 24)) 24 (fcs A2 m2 k2); simp only [World.size_alloc] at h; exact h)
  replace HF := Lib.hid (HF.out.alloc (.cells (fcs A2 m2 k2) 24))
  replace h0 := Lib.hid (Stp.alloc h0.out (.cells (fcs A2 m2 k2) 24))
  have HN := Lib.hid (by have h := Blk.new ((w.alloc (.cells (fcs A m k) 24)).alloc (.cells (fcs A2 m2 k2) 24)) 26 (ncells n); simp only [World.size_alloc, Nat.add_assoc, Nat.reduceAdd] at h; exact h)
  replace HF := Lib.hid (HF.out.alloc (.cells (ncells n) 26))
  replace HG := Lib.hid (HG.out.alloc (.cells (ncells n) 26))
  replace h0 := Lib.hid (Stp.alloc h0.out (.cells (ncells n) 26))
  have f := fs_cell HF.out
  have g := fs_cell HG.out
  obtain ⟨n0, n1, n2, n3, n4, n5, n6, n7⟩ := nd_cells HN.out
  have F1 := Lib.hid h1
  have F2 := Lib.hid h2
  have F4 := Lib.hid h4
  clear I hA hm hs ha ha2 h1 h2 h4 hm2
  rcases h with rfl | ⟨rfl, rfl⟩ | ⟨rfl, rfl, rfl⟩ | ⟨rfl, rfl, rfl, rfl⟩ | ⟨rfl, rfl, rfl, rfl, rfl⟩
  all_goals
    go_enter Try.func3, Try.ntmps3
    go_wp2_with (first
      | (go_at_call 9; (refine (HA.out _).mono ?_); rintro e wn ⟨rfl, hs⟩; replace h0 := Lib.hid (Stp.trans h0.out hs); replace HF := Lib.hid (HF.out.keep hs HF.out.lt); replace HG := Lib.hid (HG.out.keep hs HG.out.lt); replace HN := Lib.hid (HN.out.keep hs HN.out.lt); clear hs f g n0 n1 n2 n3 n4 n5 n6 n7; have f := fs_cell HF.out; have g := fs_cell HG.out; obtain ⟨n0, n1, n2, n3, n4, n5, n6, n7⟩ := nd_cells HN.out)
      | (go_at_call 10; (with_reducible refine (fewt_n ns m Hm.out hm9 _ F1.out A k _ (HR.out.keep h0.out)).mono ?_); rintro e wn ⟨rfl, hs⟩; replace h0 := Lib.hid (Stp.trans h0.out hs); replace HF := Lib.hid (HF.out.keep hs HF.out.lt); replace HG := Lib.hid (HG.out.keep hs HG.out.lt); replace HN := Lib.hid (HN.out.keep hs HN.out.lt); clear hs f g n0 n1 n2 n3 n4 n5 n6 n7; have f := fs_cell HF.out; have g := fs_cell HG.out; obtain ⟨n0, n1, n2, n3, n4, n5, n6, n7⟩ := nd_cells HN.out)
      | (go_at_call 10; (with_reducible refine (fewt_n ns2 m2 Hm2.out hm29 _ F4.out A2 k2 _ (HR2.out.keep h0.out)).mono ?_); rintro e wn ⟨rfl, hs⟩; replace h0 := Lib.hid (Stp.trans h0.out hs); replace HF := Lib.hid (HF.out.keep hs HF.out.lt); replace HG := Lib.hid (HG.out.keep hs HG.out.lt); replace HN := Lib.hid (HN.out.keep hs HN.out.lt); clear hs f g n0 n1 n2 n3 n4 n5 n6 n7; have f := fs_cell HF.out; have g := fs_cell HG.out; obtain ⟨n0, n1, n2, n3, n4, n5, n6, n7⟩ := nd_cells HN.out)
      | (go_at_call 11; (with_reducible refine (fewn_n n _ rfl _ F2.out _).mono ?_); rintro e wn ⟨rfl, hs⟩; replace h0 := Lib.hid (Stp.trans h0.out hs); replace HF := Lib.hid (HF.out.keep hs HF.out.lt); replace HG := Lib.hid (HG.out.keep hs HG.out.lt); replace HN := Lib.hid (HN.out.keep hs HN.out.lt); clear hs f g n0 n1 n2 n3 n4 n5 n6 n7; have f := fs_cell HF.out; have g := fs_cell HG.out; obtain ⟨n0, n1, n2, n3, n4, n5, n6, n7⟩ := nd_cells HN.out))
    go_ret
    exact ⟨rfl, h0.out⟩
set_option maxRecDepth 100000 in
set_option maxHeartbeats 16000000 in
theorem tells_in (I : FsI) (hA : ∀ w : World, Calls Try.prog 9 #[] w fun e w' => e = .returned (.bool true) ∧ Stp w w') (ns : List Nd) (m : Nat) (hm : ns.length = m) (hm9 : m < 9223372036854775808) (hs : ∀ x ∈ ns, SmallN x) (A : Option Addr) (k : Nat) (ns2 : List Nd) (m2 : Nat) (hm2 : ns2.length = m2) (hm29 : m2 < 9223372036854775808) (A2 : Option Addr) (k2 : Nat) (n : Nd) (hn : SmallN n) (p : List UInt8) (hpl : p.length ≤ 9223372036854775807) (dd : List UInt8) (hdl : dd.length ≤ 9223372036854775807) (w : World) (ha : RdN w A k ns) (ha2 : RdN w A2 k2 ns2) (h1 : fewT ns = true) (h4 : fewT ns2 = true) (h2 : fewN n = true) (h5 : decide ((400 : Int) < (p.length : Int)) = false) (h6 : decide ((5000 : Int) < (dd.length : Int)) = false) :
    Calls Try.prog 3 #[fv A m k, fv A2 m2 k2, nv n, .string ⟨p.toArray⟩, .string ⟨dd.toArray⟩] w fun e w' => e = .returned (.bool true) ∧ Stp w w' := by
  have m30 : m ≤ 30 := by have := (Tree.fewT_iff.1 h1).1; omega
  have m230 : m2 ≤ 30 := by have := (Tree.fewT_iff.1 h4).1; omega
  have hd5 : dd.length ≤ 5000 := by have := of_decide_eq_false h6; omega
  obtain ⟨ms, e0, hp⟩ : ∃ ms e, putF ns n = (ms, e) := ⟨_, _, rfl⟩
  obtain ⟨xs, x0, hg⟩ : ∃ ms e, growF ns p dd = (ms, e) := ⟨_, _, rfl⟩
  obtain ⟨y, y0, hy⟩ : ∃ x e, getF ns p = (x, e) := ⟨_, _, rfl⟩
  obtain ⟨t, t0, ht⟩ : ∃ x e, textF ns p = (x, e) := ⟨_, _, rfl⟩
  obtain ⟨mb, hmb⟩ : ∃ b, mayF ns = b := ⟨_, rfl⟩
  obtain ⟨sb, hsb⟩ : ∃ b, (ns == ns2) = b := ⟨_, rfl⟩
  have hsd : decide (ns = ns2) = sb := by rw [← hsb, Bool.eq_iff_iff]; simp
  obtain ⟨z, hz⟩ : ∃ z, ms.length = z := ⟨_, rfl⟩
  obtain ⟨zx, hzx⟩ : ∃ z, xs.length = z := ⟨_, rfl⟩
  have z1 : z ≤ 31 := by have := (put_small hp hs hn).2; omega
  have zx1 : zx ≤ 30 := by have := (grow_small hg hs).2; omega
  have HI := Lib.hid I
  have HA := Lib.hid hA
  have Hm := Lib.hid hm
  have Hs := Lib.hid hs
  have HR := Lib.hid ha
  have Hm2 := Lib.hid hm2
  have HR2 := Lib.hid ha2
  have h0 := Lib.hid (Stp.alloc (Stp.refl w) (.cells (fcs A m k) 24))
  have HF := Lib.hid (Blk.new w 24 (fcs A m k))
  have HG := Lib.hid (by have h := Blk.new (w.alloc (.cells (fcs A m k) 24)) 24 (fcs A2 m2 k2); simp only [World.size_alloc] at h; exact h)
  replace HF := Lib.hid (HF.out.alloc (.cells (fcs A2 m2 k2) 24))
  replace h0 := Lib.hid (Stp.alloc h0.out (.cells (fcs A2 m2 k2) 24))
  have HN := Lib.hid (by have h := Blk.new ((w.alloc (.cells (fcs A m k) 24)).alloc (.cells (fcs A2 m2 k2) 24)) 26 (ncells n); simp only [World.size_alloc, Nat.add_assoc, Nat.reduceAdd] at h; exact h)
  replace HF := Lib.hid (HF.out.alloc (.cells (ncells n) 26))
  replace HG := Lib.hid (HG.out.alloc (.cells (ncells n) 26))
  replace h0 := Lib.hid (Stp.alloc h0.out (.cells (ncells n) 26))
  have f := fs_cell HF.out
  have g := fs_cell HG.out
  obtain ⟨n0, n1, n2, n3, n4, n5, n6, n7⟩ := nd_cells HN.out
  have F1 := Lib.hid h1
  have F2 := Lib.hid h2
  have F4 := Lib.hid h4
  have Hl : Hid (m ≤ 1000) := Lib.hid (by omega)
  have Hl2 : Hid (m2 ≤ 1000) := Lib.hid (by omega)
  have Hz9 : Hid (z < 9223372036854775808) := Lib.hid (by omega)
  have Hzx9 : Hid (zx < 9223372036854775808) := Lib.hid (by omega)
  have Hd6 : Hid (dd.length ≤ 5000) := Lib.hid hd5
  have Hd : Hid (dd.length ≤ 1000000) := Lib.hid (by omega)
  have Hpl := Lib.hid hpl
  have Hsn := Lib.hid hn
  have HP := Lib.hid hp
  have HW := Lib.hid hg
  have HY := Lib.hid hy
  have HT := Lib.hid ht
  have HM := Lib.hid hmb
  have HS := Lib.hid hsb
  have HSd := Lib.hid hsd
  have Hz := Lib.hid hz
  have Hzx := Lib.hid hzx
  have Hms : Hid ((ms == ms) = true) := Lib.hid (by simp)
  have Hxs : Hid ((xs == xs) = true) := Lib.hid (by simp)
  have heq : ∀ w : World, (Op.equalIn 10000 26 (nv y) (nv y)).run Try.prog w = .ok true w := fun w => by rw [Tree.eq_nodes, decide_eq_true rfl]
  have hng := Tree.noGuardN
  clear I hA hm hs ha ha2 h1 h2 h4 hm2 hp hg hy ht hmb hsb hsd hz hzx hn hd5 h6 z1 zx1
  have g6 : decide ((5000 : Int) < (dd.length : Int)) = false := decide_eq_false (by have := Hd6.out; omega)
  go_enter Try.func3, Try.ntmps3
  go_upto_region 8 with (first
    | (go_at_call 9; (refine (HA.out _).mono ?_); rintro e wn ⟨rfl, hs⟩; replace h0 := Lib.hid (Stp.trans h0.out hs); replace HF := Lib.hid (HF.out.keep hs HF.out.lt); replace HG := Lib.hid (HG.out.keep hs HG.out.lt); replace HN := Lib.hid (HN.out.keep hs HN.out.lt); clear hs f g n0 n1 n2 n3 n4 n5 n6 n7; have f := fs_cell HF.out; have g := fs_cell HG.out; obtain ⟨n0, n1, n2, n3, n4, n5, n6, n7⟩ := nd_cells HN.out)
    | (go_at_call 10; (with_reducible refine (fewt_n ns m Hm.out hm9 _ F1.out A k _ (HR.out.keep h0.out)).mono ?_); rintro e wn ⟨rfl, hs⟩; replace h0 := Lib.hid (Stp.trans h0.out hs); replace HF := Lib.hid (HF.out.keep hs HF.out.lt); replace HG := Lib.hid (HG.out.keep hs HG.out.lt); replace HN := Lib.hid (HN.out.keep hs HN.out.lt); clear hs f g n0 n1 n2 n3 n4 n5 n6 n7; have f := fs_cell HF.out; have g := fs_cell HG.out; obtain ⟨n0, n1, n2, n3, n4, n5, n6, n7⟩ := nd_cells HN.out)
    | (go_at_call 10; (with_reducible refine (fewt_n ns2 m2 Hm2.out hm29 _ F4.out A2 k2 _ (HR2.out.keep h0.out)).mono ?_); rintro e wn ⟨rfl, hs⟩; replace h0 := Lib.hid (Stp.trans h0.out hs); replace HF := Lib.hid (HF.out.keep hs HF.out.lt); replace HG := Lib.hid (HG.out.keep hs HG.out.lt); replace HN := Lib.hid (HN.out.keep hs HN.out.lt); clear hs f g n0 n1 n2 n3 n4 n5 n6 n7; have f := fs_cell HF.out; have g := fs_cell HG.out; obtain ⟨n0, n1, n2, n3, n4, n5, n6, n7⟩ := nd_cells HN.out)
    | (go_at_call 11; (with_reducible refine (fewn_n n _ rfl _ F2.out _).mono ?_); rintro e wn ⟨rfl, hs⟩; replace h0 := Lib.hid (Stp.trans h0.out hs); replace HF := Lib.hid (HF.out.keep hs HF.out.lt); replace HG := Lib.hid (HG.out.keep hs HG.out.lt); replace HN := Lib.hid (HN.out.keep hs HN.out.lt); clear hs f g n0 n1 n2 n3 n4 n5 n6 n7; have f := fs_cell HF.out; have g := fs_cell HG.out; obtain ⟨n0, n1, n2, n3, n4, n5, n6, n7⟩ := nd_cells HN.out)
    | (go_at_call 12; (with_reducible refine (HI.out.put ns m Hm.out Hl.out Hs.out n _ rfl Hsn.out ms e0 HP.out z Hz.out A k _ (HR.out.keep h0.out)).mono ?_); rintro e wn ⟨B1, d1, rfl, hr, hs⟩; replace h0 := Lib.hid (Stp.trans h0.out hs); replace HF := Lib.hid (HF.out.keep hs HF.out.lt); replace HG := Lib.hid (HG.out.keep hs HG.out.lt); replace HN := Lib.hid (HN.out.keep hs HN.out.lt); have HM1 := Lib.hid hr; clear hr; clear hs f g n0 n1 n2 n3 n4 n5 n6 n7; have f := fs_cell HF.out; have g := fs_cell HG.out; obtain ⟨n0, n1, n2, n3, n4, n5, n6, n7⟩ := nd_cells HN.out))
  have hal := Stp.alloc (Stp.refl wn) (.cells (fcs B1 z d1) 24)
  have HA1 := Lib.hid (Blk.new wn 24 (fcs B1 z d1))
  clear f g n0 n1 n2 n3 n4 n5 n6 n7
  replace h0 := Lib.hid (Stp.trans h0.out hal)
  replace HF := Lib.hid (HF.out.keep hal HF.out.lt)
  replace HG := Lib.hid (HG.out.keep hal HG.out.lt)
  replace HN := Lib.hid (HN.out.keep hal HN.out.lt)
  replace HM1 := Lib.hid (HM1.out.keep hal)
  change Code.wp _ _ _ _ (wn.alloc (.cells (fcs B1 z d1) 24))
  obtain ⟨gHA1, hgHA1⟩ : ∃ g, wn.heap.size = g := ⟨_, rfl⟩
  rw [hgHA1] at HA1 ⊢
  clear hal hgHA1
  generalize wn.alloc (.cells (fcs B1 z d1) 24) = WHA1 at h0 HA1 HF HG HN HM1 ⊢
  have f := fs_cell HF.out
  have g := fs_cell HG.out
  obtain ⟨n0, n1, n2, n3, n4, n5, n6, n7⟩ := nd_cells HN.out
  have a1 := fs_cell HA1.out
  go_upto_region 9 with ((go_at_call 13; (with_reducible refine (rput_s ns m Hm.out hm9 Hs.out n Hsn.out ms e0 HP.out z Hz.out A k _ (HR.out.keep h0.out)).mono ?_); rintro e wn ⟨B2, d2, rfl, hr, hs⟩; replace h0 := Lib.hid (Stp.trans h0.out hs); replace HF := Lib.hid (HF.out.keep hs HF.out.lt); replace HG := Lib.hid (HG.out.keep hs HG.out.lt); replace HN := Lib.hid (HN.out.keep hs HN.out.lt); replace HA1 := Lib.hid (HA1.out.keep hs HA1.out.lt); replace HM1 := Lib.hid (HM1.out.keep hs); have HM2 := Lib.hid hr; clear hr; clear hs f g n0 n1 n2 n3 n4 n5 n6 n7 a1; have f := fs_cell HF.out; have g := fs_cell HG.out; obtain ⟨n0, n1, n2, n3, n4, n5, n6, n7⟩ := nd_cells HN.out; have a1 := fs_cell HA1.out))
  have hal := Stp.alloc (Stp.refl wn) (.cells (fcs B2 z d2) 24)
  have HA2 := Lib.hid (Blk.new wn 24 (fcs B2 z d2))
  clear f g n0 n1 n2 n3 n4 n5 n6 n7 a1
  replace h0 := Lib.hid (Stp.trans h0.out hal)
  replace HF := Lib.hid (HF.out.keep hal HF.out.lt)
  replace HG := Lib.hid (HG.out.keep hal HG.out.lt)
  replace HN := Lib.hid (HN.out.keep hal HN.out.lt)
  replace HA1 := Lib.hid (HA1.out.keep hal HA1.out.lt)
  replace HM1 := Lib.hid (HM1.out.keep hal)
  replace HM2 := Lib.hid (HM2.out.keep hal)
  change Code.wp _ _ _ _ (wn.alloc (.cells (fcs B2 z d2) 24))
  obtain ⟨gHA2, hgHA2⟩ : ∃ g, wn.heap.size = g := ⟨_, rfl⟩
  rw [hgHA2] at HA2 ⊢
  clear hal hgHA2
  generalize wn.alloc (.cells (fcs B2 z d2) 24) = WHA2 at h0 HA2 HF HG HN HA1 HM1 HM2 ⊢
  have f := fs_cell HF.out
  have g := fs_cell HG.out
  obtain ⟨n0, n1, n2, n3, n4, n5, n6, n7⟩ := nd_cells HN.out
  have a1 := fs_cell HA1.out
  have a2 := fs_cell HA2.out
  go_upto_region 10 with ((go_at_call 14; (with_reducible refine (HI.out.grow ns m Hm.out Hl.out Hs.out p _ rfl Hpl.out dd _ rfl Hd.out xs x0 HW.out zx Hzx.out A k _ (HR.out.keep h0.out)).mono ?_); rintro e wn ⟨B3, d3, rfl, hr, hs⟩; replace h0 := Lib.hid (Stp.trans h0.out hs); replace HF := Lib.hid (HF.out.keep hs HF.out.lt); replace HG := Lib.hid (HG.out.keep hs HG.out.lt); replace HN := Lib.hid (HN.out.keep hs HN.out.lt); replace HA1 := Lib.hid (HA1.out.keep hs HA1.out.lt); replace HA2 := Lib.hid (HA2.out.keep hs HA2.out.lt); replace HM1 := Lib.hid (HM1.out.keep hs); replace HM2 := Lib.hid (HM2.out.keep hs); have HM3 := Lib.hid hr; clear hr; clear hs f g n0 n1 n2 n3 n4 n5 n6 n7 a1 a2; have f := fs_cell HF.out; have g := fs_cell HG.out; obtain ⟨n0, n1, n2, n3, n4, n5, n6, n7⟩ := nd_cells HN.out; have a1 := fs_cell HA1.out; have a2 := fs_cell HA2.out))
  have hal := Stp.alloc (Stp.refl wn) (.cells (fcs B3 zx d3) 24)
  have HA3 := Lib.hid (Blk.new wn 24 (fcs B3 zx d3))
  clear f g n0 n1 n2 n3 n4 n5 n6 n7 a1 a2
  replace h0 := Lib.hid (Stp.trans h0.out hal)
  replace HF := Lib.hid (HF.out.keep hal HF.out.lt)
  replace HG := Lib.hid (HG.out.keep hal HG.out.lt)
  replace HN := Lib.hid (HN.out.keep hal HN.out.lt)
  replace HA1 := Lib.hid (HA1.out.keep hal HA1.out.lt)
  replace HA2 := Lib.hid (HA2.out.keep hal HA2.out.lt)
  replace HM1 := Lib.hid (HM1.out.keep hal)
  replace HM2 := Lib.hid (HM2.out.keep hal)
  replace HM3 := Lib.hid (HM3.out.keep hal)
  change Code.wp _ _ _ _ (wn.alloc (.cells (fcs B3 zx d3) 24))
  obtain ⟨gHA3, hgHA3⟩ : ∃ g, wn.heap.size = g := ⟨_, rfl⟩
  rw [hgHA3] at HA3 ⊢
  clear hal hgHA3
  generalize wn.alloc (.cells (fcs B3 zx d3) 24) = WHA3 at h0 HA3 HF HG HN HA1 HA2 HM1 HM2 HM3 ⊢
  have f := fs_cell HF.out
  have g := fs_cell HG.out
  obtain ⟨n0, n1, n2, n3, n4, n5, n6, n7⟩ := nd_cells HN.out
  have a1 := fs_cell HA1.out
  have a2 := fs_cell HA2.out
  have a3 := fs_cell HA3.out
  go_upto_region 11 with ((go_at_call 15; (with_reducible refine (rgrow_s ns m Hm.out hm9 Hs.out p dd Hd.out xs x0 HW.out zx Hzx.out A k _ (HR.out.keep h0.out)).mono ?_); rintro e wn ⟨B4, d4, rfl, hr, hs⟩; replace h0 := Lib.hid (Stp.trans h0.out hs); replace HF := Lib.hid (HF.out.keep hs HF.out.lt); replace HG := Lib.hid (HG.out.keep hs HG.out.lt); replace HN := Lib.hid (HN.out.keep hs HN.out.lt); replace HA1 := Lib.hid (HA1.out.keep hs HA1.out.lt); replace HA2 := Lib.hid (HA2.out.keep hs HA2.out.lt); replace HA3 := Lib.hid (HA3.out.keep hs HA3.out.lt); replace HM1 := Lib.hid (HM1.out.keep hs); replace HM2 := Lib.hid (HM2.out.keep hs); replace HM3 := Lib.hid (HM3.out.keep hs); have HM4 := Lib.hid hr; clear hr; clear hs f g n0 n1 n2 n3 n4 n5 n6 n7 a1 a2 a3; have f := fs_cell HF.out; have g := fs_cell HG.out; obtain ⟨n0, n1, n2, n3, n4, n5, n6, n7⟩ := nd_cells HN.out; have a1 := fs_cell HA1.out; have a2 := fs_cell HA2.out; have a3 := fs_cell HA3.out))
  have hal := Stp.alloc (Stp.refl wn) (.cells (fcs B4 zx d4) 24)
  have HA4 := Lib.hid (Blk.new wn 24 (fcs B4 zx d4))
  clear f g n0 n1 n2 n3 n4 n5 n6 n7 a1 a2 a3
  replace h0 := Lib.hid (Stp.trans h0.out hal)
  replace HF := Lib.hid (HF.out.keep hal HF.out.lt)
  replace HG := Lib.hid (HG.out.keep hal HG.out.lt)
  replace HN := Lib.hid (HN.out.keep hal HN.out.lt)
  replace HA1 := Lib.hid (HA1.out.keep hal HA1.out.lt)
  replace HA2 := Lib.hid (HA2.out.keep hal HA2.out.lt)
  replace HA3 := Lib.hid (HA3.out.keep hal HA3.out.lt)
  replace HM1 := Lib.hid (HM1.out.keep hal)
  replace HM2 := Lib.hid (HM2.out.keep hal)
  replace HM3 := Lib.hid (HM3.out.keep hal)
  replace HM4 := Lib.hid (HM4.out.keep hal)
  change Code.wp _ _ _ _ (wn.alloc (.cells (fcs B4 zx d4) 24))
  obtain ⟨gHA4, hgHA4⟩ : ∃ g, wn.heap.size = g := ⟨_, rfl⟩
  rw [hgHA4] at HA4 ⊢
  clear hal hgHA4
  generalize wn.alloc (.cells (fcs B4 zx d4) 24) = WHA4 at h0 HA4 HF HG HN HA1 HA2 HA3 HM1 HM2 HM3 HM4 ⊢
  have f := fs_cell HF.out
  have g := fs_cell HG.out
  obtain ⟨n0, n1, n2, n3, n4, n5, n6, n7⟩ := nd_cells HN.out
  have a1 := fs_cell HA1.out
  have a2 := fs_cell HA2.out
  have a3 := fs_cell HA3.out
  have a4 := fs_cell HA4.out
  go_upto_region 12 with ((go_at_call 16; (with_reducible refine (HI.out.get ns m Hm.out Hl.out Hs.out p _ rfl Hpl.out y y0 HY.out A k _ (HR.out.keep h0.out)).mono ?_); rintro e wn ⟨rfl, hs⟩; replace h0 := Lib.hid (Stp.trans h0.out hs); replace HF := Lib.hid (HF.out.keep hs HF.out.lt); replace HG := Lib.hid (HG.out.keep hs HG.out.lt); replace HN := Lib.hid (HN.out.keep hs HN.out.lt); replace HA1 := Lib.hid (HA1.out.keep hs HA1.out.lt); replace HA2 := Lib.hid (HA2.out.keep hs HA2.out.lt); replace HA3 := Lib.hid (HA3.out.keep hs HA3.out.lt); replace HA4 := Lib.hid (HA4.out.keep hs HA4.out.lt); replace HM1 := Lib.hid (HM1.out.keep hs); replace HM2 := Lib.hid (HM2.out.keep hs); replace HM3 := Lib.hid (HM3.out.keep hs); replace HM4 := Lib.hid (HM4.out.keep hs); clear hs f g n0 n1 n2 n3 n4 n5 n6 n7 a1 a2 a3 a4; have f := fs_cell HF.out; have g := fs_cell HG.out; obtain ⟨n0, n1, n2, n3, n4, n5, n6, n7⟩ := nd_cells HN.out; have a1 := fs_cell HA1.out; have a2 := fs_cell HA2.out; have a3 := fs_cell HA3.out; have a4 := fs_cell HA4.out))
  have hal := Stp.alloc (Stp.refl wn) (.cells (ncells y) 26)
  have HX1 := Lib.hid (Blk.new wn 26 (ncells y))
  clear f g n0 n1 n2 n3 n4 n5 n6 n7 a1 a2 a3 a4
  replace h0 := Lib.hid (Stp.trans h0.out hal)
  replace HF := Lib.hid (HF.out.keep hal HF.out.lt)
  replace HG := Lib.hid (HG.out.keep hal HG.out.lt)
  replace HN := Lib.hid (HN.out.keep hal HN.out.lt)
  replace HA1 := Lib.hid (HA1.out.keep hal HA1.out.lt)
  replace HA2 := Lib.hid (HA2.out.keep hal HA2.out.lt)
  replace HA3 := Lib.hid (HA3.out.keep hal HA3.out.lt)
  replace HA4 := Lib.hid (HA4.out.keep hal HA4.out.lt)
  replace HM1 := Lib.hid (HM1.out.keep hal)
  replace HM2 := Lib.hid (HM2.out.keep hal)
  replace HM3 := Lib.hid (HM3.out.keep hal)
  replace HM4 := Lib.hid (HM4.out.keep hal)
  change Code.wp _ _ _ _ (wn.alloc (.cells (ncells y) 26))
  obtain ⟨gHX1, hgHX1⟩ : ∃ g, wn.heap.size = g := ⟨_, rfl⟩
  rw [hgHX1] at HX1 ⊢
  clear hal hgHX1
  generalize wn.alloc (.cells (ncells y) 26) = WHX1 at h0 HX1 HF HG HN HA1 HA2 HA3 HA4 HM1 HM2 HM3 HM4 ⊢
  have f := fs_cell HF.out
  have g := fs_cell HG.out
  obtain ⟨n0, n1, n2, n3, n4, n5, n6, n7⟩ := nd_cells HN.out
  have a1 := fs_cell HA1.out
  have a2 := fs_cell HA2.out
  have a3 := fs_cell HA3.out
  have a4 := fs_cell HA4.out
  obtain ⟨x0, x1, x2, x3, x4, x5, x6, x7⟩ := nd_cells HX1.out
  go_upto_region 13 with ((go_at_call 17; (with_reducible refine (rget_s ns m Hm.out hm9 Hs.out p y y0 HY.out A k _ (HR.out.keep h0.out)).mono ?_); rintro e wn ⟨rfl, hs⟩; replace h0 := Lib.hid (Stp.trans h0.out hs); replace HF := Lib.hid (HF.out.keep hs HF.out.lt); replace HG := Lib.hid (HG.out.keep hs HG.out.lt); replace HN := Lib.hid (HN.out.keep hs HN.out.lt); replace HA1 := Lib.hid (HA1.out.keep hs HA1.out.lt); replace HA2 := Lib.hid (HA2.out.keep hs HA2.out.lt); replace HA3 := Lib.hid (HA3.out.keep hs HA3.out.lt); replace HA4 := Lib.hid (HA4.out.keep hs HA4.out.lt); replace HX1 := Lib.hid (HX1.out.keep hs HX1.out.lt); replace HM1 := Lib.hid (HM1.out.keep hs); replace HM2 := Lib.hid (HM2.out.keep hs); replace HM3 := Lib.hid (HM3.out.keep hs); replace HM4 := Lib.hid (HM4.out.keep hs); clear hs f g n0 n1 n2 n3 n4 n5 n6 n7 a1 a2 a3 a4 x0 x1 x2 x3 x4 x5 x6 x7; have f := fs_cell HF.out; have g := fs_cell HG.out; obtain ⟨n0, n1, n2, n3, n4, n5, n6, n7⟩ := nd_cells HN.out; have a1 := fs_cell HA1.out; have a2 := fs_cell HA2.out; have a3 := fs_cell HA3.out; have a4 := fs_cell HA4.out; obtain ⟨x0, x1, x2, x3, x4, x5, x6, x7⟩ := nd_cells HX1.out))
  have hal := Stp.alloc (Stp.refl wn) (.cells (ncells y) 26)
  have HX2 := Lib.hid (Blk.new wn 26 (ncells y))
  clear f g n0 n1 n2 n3 n4 n5 n6 n7 a1 a2 a3 a4 x0 x1 x2 x3 x4 x5 x6 x7
  replace h0 := Lib.hid (Stp.trans h0.out hal)
  replace HF := Lib.hid (HF.out.keep hal HF.out.lt)
  replace HG := Lib.hid (HG.out.keep hal HG.out.lt)
  replace HN := Lib.hid (HN.out.keep hal HN.out.lt)
  replace HA1 := Lib.hid (HA1.out.keep hal HA1.out.lt)
  replace HA2 := Lib.hid (HA2.out.keep hal HA2.out.lt)
  replace HA3 := Lib.hid (HA3.out.keep hal HA3.out.lt)
  replace HA4 := Lib.hid (HA4.out.keep hal HA4.out.lt)
  replace HX1 := Lib.hid (HX1.out.keep hal HX1.out.lt)
  replace HM1 := Lib.hid (HM1.out.keep hal)
  replace HM2 := Lib.hid (HM2.out.keep hal)
  replace HM3 := Lib.hid (HM3.out.keep hal)
  replace HM4 := Lib.hid (HM4.out.keep hal)
  change Code.wp _ _ _ _ (wn.alloc (.cells (ncells y) 26))
  obtain ⟨gHX2, hgHX2⟩ : ∃ g, wn.heap.size = g := ⟨_, rfl⟩
  rw [hgHX2] at HX2 ⊢
  clear hal hgHX2
  generalize wn.alloc (.cells (ncells y) 26) = WHX2 at h0 HX2 HF HG HN HA1 HA2 HA3 HA4 HX1 HM1 HM2 HM3 HM4 ⊢
  have f := fs_cell HF.out
  have g := fs_cell HG.out
  obtain ⟨n0, n1, n2, n3, n4, n5, n6, n7⟩ := nd_cells HN.out
  have a1 := fs_cell HA1.out
  have a2 := fs_cell HA2.out
  have a3 := fs_cell HA3.out
  have a4 := fs_cell HA4.out
  obtain ⟨x0, x1, x2, x3, x4, x5, x6, x7⟩ := nd_cells HX1.out
  obtain ⟨u0, u1, u2, u3, u4, u5, u6, u7⟩ := nd_cells HX2.out
  go_wp2_with (first
    | (go_at_call 18; (with_reducible refine (HI.out.text ns m Hm.out Hl.out Hs.out p _ rfl Hpl.out t t0 HT.out A k _ (HR.out.keep h0.out)).mono ?_); rintro e wn ⟨rfl, hs⟩; replace h0 := Lib.hid (Stp.trans h0.out hs); replace HF := Lib.hid (HF.out.keep hs HF.out.lt); replace HG := Lib.hid (HG.out.keep hs HG.out.lt); replace HN := Lib.hid (HN.out.keep hs HN.out.lt); replace HA1 := Lib.hid (HA1.out.keep hs HA1.out.lt); replace HA2 := Lib.hid (HA2.out.keep hs HA2.out.lt); replace HA3 := Lib.hid (HA3.out.keep hs HA3.out.lt); replace HA4 := Lib.hid (HA4.out.keep hs HA4.out.lt); replace HX1 := Lib.hid (HX1.out.keep hs HX1.out.lt); replace HX2 := Lib.hid (HX2.out.keep hs HX2.out.lt); replace HM1 := Lib.hid (HM1.out.keep hs); replace HM2 := Lib.hid (HM2.out.keep hs); replace HM3 := Lib.hid (HM3.out.keep hs); replace HM4 := Lib.hid (HM4.out.keep hs); clear hs f g n0 n1 n2 n3 n4 n5 n6 n7 a1 a2 a3 a4 x0 x1 x2 x3 x4 x5 x6 x7 u0 u1 u2 u3 u4 u5 u6 u7; have f := fs_cell HF.out; have g := fs_cell HG.out; obtain ⟨n0, n1, n2, n3, n4, n5, n6, n7⟩ := nd_cells HN.out; have a1 := fs_cell HA1.out; have a2 := fs_cell HA2.out; have a3 := fs_cell HA3.out; have a4 := fs_cell HA4.out; obtain ⟨x0, x1, x2, x3, x4, x5, x6, x7⟩ := nd_cells HX1.out; obtain ⟨u0, u1, u2, u3, u4, u5, u6, u7⟩ := nd_cells HX2.out)
    | (go_at_call 19; (with_reducible refine (rtext_s ns m Hm.out hm9 Hs.out p t t0 HT.out A k _ (HR.out.keep h0.out)).mono ?_); rintro e wn ⟨rfl, hs⟩; replace h0 := Lib.hid (Stp.trans h0.out hs); replace HF := Lib.hid (HF.out.keep hs HF.out.lt); replace HG := Lib.hid (HG.out.keep hs HG.out.lt); replace HN := Lib.hid (HN.out.keep hs HN.out.lt); replace HA1 := Lib.hid (HA1.out.keep hs HA1.out.lt); replace HA2 := Lib.hid (HA2.out.keep hs HA2.out.lt); replace HA3 := Lib.hid (HA3.out.keep hs HA3.out.lt); replace HA4 := Lib.hid (HA4.out.keep hs HA4.out.lt); replace HX1 := Lib.hid (HX1.out.keep hs HX1.out.lt); replace HX2 := Lib.hid (HX2.out.keep hs HX2.out.lt); replace HM1 := Lib.hid (HM1.out.keep hs); replace HM2 := Lib.hid (HM2.out.keep hs); replace HM3 := Lib.hid (HM3.out.keep hs); replace HM4 := Lib.hid (HM4.out.keep hs); clear hs f g n0 n1 n2 n3 n4 n5 n6 n7 a1 a2 a3 a4 x0 x1 x2 x3 x4 x5 x6 x7 u0 u1 u2 u3 u4 u5 u6 u7; have f := fs_cell HF.out; have g := fs_cell HG.out; obtain ⟨n0, n1, n2, n3, n4, n5, n6, n7⟩ := nd_cells HN.out; have a1 := fs_cell HA1.out; have a2 := fs_cell HA2.out; have a3 := fs_cell HA3.out; have a4 := fs_cell HA4.out; obtain ⟨x0, x1, x2, x3, x4, x5, x6, x7⟩ := nd_cells HX1.out; obtain ⟨u0, u1, u2, u3, u4, u5, u6, u7⟩ := nd_cells HX2.out)
    | (go_at_call 20; (with_reducible refine (rfsame_s ms ms z z Hz.out Hz.out Hz9.out true Hms.out B1 B2 d1 d2 _ HM1.out HM2.out).mono ?_); rintro e wn ⟨rfl, hs⟩; replace h0 := Lib.hid (Stp.trans h0.out hs); replace HF := Lib.hid (HF.out.keep hs HF.out.lt); replace HG := Lib.hid (HG.out.keep hs HG.out.lt); replace HN := Lib.hid (HN.out.keep hs HN.out.lt); replace HA1 := Lib.hid (HA1.out.keep hs HA1.out.lt); replace HA2 := Lib.hid (HA2.out.keep hs HA2.out.lt); replace HA3 := Lib.hid (HA3.out.keep hs HA3.out.lt); replace HA4 := Lib.hid (HA4.out.keep hs HA4.out.lt); replace HX1 := Lib.hid (HX1.out.keep hs HX1.out.lt); replace HX2 := Lib.hid (HX2.out.keep hs HX2.out.lt); replace HM1 := Lib.hid (HM1.out.keep hs); replace HM2 := Lib.hid (HM2.out.keep hs); replace HM3 := Lib.hid (HM3.out.keep hs); replace HM4 := Lib.hid (HM4.out.keep hs); clear hs f g n0 n1 n2 n3 n4 n5 n6 n7 a1 a2 a3 a4 x0 x1 x2 x3 x4 x5 x6 x7 u0 u1 u2 u3 u4 u5 u6 u7; have f := fs_cell HF.out; have g := fs_cell HG.out; obtain ⟨n0, n1, n2, n3, n4, n5, n6, n7⟩ := nd_cells HN.out; have a1 := fs_cell HA1.out; have a2 := fs_cell HA2.out; have a3 := fs_cell HA3.out; have a4 := fs_cell HA4.out; obtain ⟨x0, x1, x2, x3, x4, x5, x6, x7⟩ := nd_cells HX1.out; obtain ⟨u0, u1, u2, u3, u4, u5, u6, u7⟩ := nd_cells HX2.out)
    | (go_at_call 20; (with_reducible refine (rfsame_s xs xs zx zx Hzx.out Hzx.out Hzx9.out true Hxs.out B3 B4 d3 d4 _ HM3.out HM4.out).mono ?_); rintro e wn ⟨rfl, hs⟩; replace h0 := Lib.hid (Stp.trans h0.out hs); replace HF := Lib.hid (HF.out.keep hs HF.out.lt); replace HG := Lib.hid (HG.out.keep hs HG.out.lt); replace HN := Lib.hid (HN.out.keep hs HN.out.lt); replace HA1 := Lib.hid (HA1.out.keep hs HA1.out.lt); replace HA2 := Lib.hid (HA2.out.keep hs HA2.out.lt); replace HA3 := Lib.hid (HA3.out.keep hs HA3.out.lt); replace HA4 := Lib.hid (HA4.out.keep hs HA4.out.lt); replace HX1 := Lib.hid (HX1.out.keep hs HX1.out.lt); replace HX2 := Lib.hid (HX2.out.keep hs HX2.out.lt); replace HM1 := Lib.hid (HM1.out.keep hs); replace HM2 := Lib.hid (HM2.out.keep hs); replace HM3 := Lib.hid (HM3.out.keep hs); replace HM4 := Lib.hid (HM4.out.keep hs); clear hs f g n0 n1 n2 n3 n4 n5 n6 n7 a1 a2 a3 a4 x0 x1 x2 x3 x4 x5 x6 x7 u0 u1 u2 u3 u4 u5 u6 u7; have f := fs_cell HF.out; have g := fs_cell HG.out; obtain ⟨n0, n1, n2, n3, n4, n5, n6, n7⟩ := nd_cells HN.out; have a1 := fs_cell HA1.out; have a2 := fs_cell HA2.out; have a3 := fs_cell HA3.out; have a4 := fs_cell HA4.out; obtain ⟨x0, x1, x2, x3, x4, x5, x6, x7⟩ := nd_cells HX1.out; obtain ⟨u0, u1, u2, u3, u4, u5, u6, u7⟩ := nd_cells HX2.out)
    | (go_at_call 21; (with_reducible refine (rmay_s ns m Hm.out hm9 Hs.out mb HM.out A k _ (HR.out.keep h0.out)).mono ?_); rintro e wn ⟨rfl, hs⟩; replace h0 := Lib.hid (Stp.trans h0.out hs); replace HF := Lib.hid (HF.out.keep hs HF.out.lt); replace HG := Lib.hid (HG.out.keep hs HG.out.lt); replace HN := Lib.hid (HN.out.keep hs HN.out.lt); replace HA1 := Lib.hid (HA1.out.keep hs HA1.out.lt); replace HA2 := Lib.hid (HA2.out.keep hs HA2.out.lt); replace HA3 := Lib.hid (HA3.out.keep hs HA3.out.lt); replace HA4 := Lib.hid (HA4.out.keep hs HA4.out.lt); replace HX1 := Lib.hid (HX1.out.keep hs HX1.out.lt); replace HX2 := Lib.hid (HX2.out.keep hs HX2.out.lt); replace HM1 := Lib.hid (HM1.out.keep hs); replace HM2 := Lib.hid (HM2.out.keep hs); replace HM3 := Lib.hid (HM3.out.keep hs); replace HM4 := Lib.hid (HM4.out.keep hs); clear hs f g n0 n1 n2 n3 n4 n5 n6 n7 a1 a2 a3 a4 x0 x1 x2 x3 x4 x5 x6 x7 u0 u1 u2 u3 u4 u5 u6 u7; have f := fs_cell HF.out; have g := fs_cell HG.out; obtain ⟨n0, n1, n2, n3, n4, n5, n6, n7⟩ := nd_cells HN.out; have a1 := fs_cell HA1.out; have a2 := fs_cell HA2.out; have a3 := fs_cell HA3.out; have a4 := fs_cell HA4.out; obtain ⟨x0, x1, x2, x3, x4, x5, x6, x7⟩ := nd_cells HX1.out; obtain ⟨u0, u1, u2, u3, u4, u5, u6, u7⟩ := nd_cells HX2.out)
    | (go_at_call 20; (with_reducible refine (rfsame_s ns ns2 m m2 Hm.out Hm2.out hm29 sb HS.out A A2 k k2 _ (HR.out.keep h0.out) (HR2.out.keep h0.out)).mono ?_); rintro e wn ⟨rfl, hs⟩; replace h0 := Lib.hid (Stp.trans h0.out hs); replace HF := Lib.hid (HF.out.keep hs HF.out.lt); replace HG := Lib.hid (HG.out.keep hs HG.out.lt); replace HN := Lib.hid (HN.out.keep hs HN.out.lt); replace HA1 := Lib.hid (HA1.out.keep hs HA1.out.lt); replace HA2 := Lib.hid (HA2.out.keep hs HA2.out.lt); replace HA3 := Lib.hid (HA3.out.keep hs HA3.out.lt); replace HA4 := Lib.hid (HA4.out.keep hs HA4.out.lt); replace HX1 := Lib.hid (HX1.out.keep hs HX1.out.lt); replace HX2 := Lib.hid (HX2.out.keep hs HX2.out.lt); replace HM1 := Lib.hid (HM1.out.keep hs); replace HM2 := Lib.hid (HM2.out.keep hs); replace HM3 := Lib.hid (HM3.out.keep hs); replace HM4 := Lib.hid (HM4.out.keep hs); clear hs f g n0 n1 n2 n3 n4 n5 n6 n7 a1 a2 a3 a4 x0 x1 x2 x3 x4 x5 x6 x7 u0 u1 u2 u3 u4 u5 u6 u7; have f := fs_cell HF.out; have g := fs_cell HG.out; obtain ⟨n0, n1, n2, n3, n4, n5, n6, n7⟩ := nd_cells HN.out; have a1 := fs_cell HA1.out; have a2 := fs_cell HA2.out; have a3 := fs_cell HA3.out; have a4 := fs_cell HA4.out; obtain ⟨x0, x1, x2, x3, x4, x5, x6, x7⟩ := nd_cells HX1.out; obtain ⟨u0, u1, u2, u3, u4, u5, u6, u7⟩ := nd_cells HX2.out)
    | (go_at_call 22; (with_reducible refine (HI.out.may ns m Hm.out Hl.out Hs.out mb HM.out A k _ (HR.out.keep h0.out)).mono ?_); rintro e wn ⟨rfl, hs⟩; replace h0 := Lib.hid (Stp.trans h0.out hs); replace HF := Lib.hid (HF.out.keep hs HF.out.lt); replace HG := Lib.hid (HG.out.keep hs HG.out.lt); replace HN := Lib.hid (HN.out.keep hs HN.out.lt); replace HA1 := Lib.hid (HA1.out.keep hs HA1.out.lt); replace HA2 := Lib.hid (HA2.out.keep hs HA2.out.lt); replace HA3 := Lib.hid (HA3.out.keep hs HA3.out.lt); replace HA4 := Lib.hid (HA4.out.keep hs HA4.out.lt); replace HX1 := Lib.hid (HX1.out.keep hs HX1.out.lt); replace HX2 := Lib.hid (HX2.out.keep hs HX2.out.lt); replace HM1 := Lib.hid (HM1.out.keep hs); replace HM2 := Lib.hid (HM2.out.keep hs); replace HM3 := Lib.hid (HM3.out.keep hs); replace HM4 := Lib.hid (HM4.out.keep hs); clear hs f g n0 n1 n2 n3 n4 n5 n6 n7 a1 a2 a3 a4 x0 x1 x2 x3 x4 x5 x6 x7 u0 u1 u2 u3 u4 u5 u6 u7; have f := fs_cell HF.out; have g := fs_cell HG.out; obtain ⟨n0, n1, n2, n3, n4, n5, n6, n7⟩ := nd_cells HN.out; have a1 := fs_cell HA1.out; have a2 := fs_cell HA2.out; have a3 := fs_cell HA3.out; have a4 := fs_cell HA4.out; obtain ⟨x0, x1, x2, x3, x4, x5, x6, x7⟩ := nd_cells HX1.out; obtain ⟨u0, u1, u2, u3, u4, u5, u6, u7⟩ := nd_cells HX2.out)
    | (go_at_call 23; (with_reducible refine (HI.out.same ns ns2 m m2 Hm.out Hm2.out Hl.out Hl2.out sb HSd.out A A2 k k2 _ (HR.out.keep h0.out) (HR2.out.keep h0.out)).mono ?_); rintro e wn ⟨rfl, hs⟩; replace h0 := Lib.hid (Stp.trans h0.out hs); replace HF := Lib.hid (HF.out.keep hs HF.out.lt); replace HG := Lib.hid (HG.out.keep hs HG.out.lt); replace HN := Lib.hid (HN.out.keep hs HN.out.lt); replace HA1 := Lib.hid (HA1.out.keep hs HA1.out.lt); replace HA2 := Lib.hid (HA2.out.keep hs HA2.out.lt); replace HA3 := Lib.hid (HA3.out.keep hs HA3.out.lt); replace HA4 := Lib.hid (HA4.out.keep hs HA4.out.lt); replace HX1 := Lib.hid (HX1.out.keep hs HX1.out.lt); replace HX2 := Lib.hid (HX2.out.keep hs HX2.out.lt); replace HM1 := Lib.hid (HM1.out.keep hs); replace HM2 := Lib.hid (HM2.out.keep hs); replace HM3 := Lib.hid (HM3.out.keep hs); replace HM4 := Lib.hid (HM4.out.keep hs); clear hs f g n0 n1 n2 n3 n4 n5 n6 n7 a1 a2 a3 a4 x0 x1 x2 x3 x4 x5 x6 x7 u0 u1 u2 u3 u4 u5 u6 u7; have f := fs_cell HF.out; have g := fs_cell HG.out; obtain ⟨n0, n1, n2, n3, n4, n5, n6, n7⟩ := nd_cells HN.out; have a1 := fs_cell HA1.out; have a2 := fs_cell HA2.out; have a3 := fs_cell HA3.out; have a4 := fs_cell HA4.out; obtain ⟨x0, x1, x2, x3, x4, x5, x6, x7⟩ := nd_cells HX1.out; obtain ⟨u0, u1, u2, u3, u4, u5, u6, u7⟩ := nd_cells HX2.out))
  go_ret
  exact ⟨rfl, h0.out⟩
theorem tells_walk (I : FsI) (hA : ∀ w : World, Calls Try.prog 9 #[] w fun e w' => e = .returned (.bool true) ∧ Stp w w') (ns : List Nd) (m : Nat) (hm : ns.length = m) (hm9 : m < 9223372036854775808) (hs : ∀ x ∈ ns, SmallN x) (A : Option Addr) (k : Nat) (ns2 : List Nd) (m2 : Nat) (hm2 : ns2.length = m2) (hm29 : m2 < 9223372036854775808) (A2 : Option Addr) (k2 : Nat) (n : Nd) (hn : SmallN n) (p : List UInt8) (hpl : p.length ≤ 9223372036854775807) (dd : List UInt8) (hdl : dd.length ≤ 9223372036854775807) (w : World) (ha : RdN w A k ns) (ha2 : RdN w A2 k2 ns2) :
    Calls Try.prog 3 #[fv A m k, fv A2 m2 k2, nv n, .string ⟨p.toArray⟩, .string ⟨dd.toArray⟩] w fun e w' => e = .returned (.bool true) ∧ Stp w w' := by
  by_cases h : fewT ns = true ∧ fewT ns2 = true ∧ fewN n = true ∧ decide ((400 : Int) < (p.length : Int)) = false ∧ decide ((5000 : Int) < (dd.length : Int)) = false
  · exact tells_in I hA ns m hm hm9 hs A k ns2 m2 hm2 hm29 A2 k2 n hn p hpl dd hdl w ha ha2 h.1 h.2.1 h.2.2.1 h.2.2.2.1 h.2.2.2.2
  · refine tells_out I hA ns m hm hm9 hs A k ns2 m2 hm2 hm29 A2 k2 n hn p hpl dd hdl w ha ha2 _ _ _ _ _ rfl rfl rfl rfl rfl ?_
    cases h1 : fewT ns <;> cases h2 : fewT ns2 <;> cases h3 : fewN n <;> cases h4 : decide ((400 : Int) < (p.length : Int)) <;> cases h5 : decide ((5000 : Int) < (dd.length : Int)) <;> simp_all
end Go.Proofs.Ytjddgmdbgajjpaa.Fs
