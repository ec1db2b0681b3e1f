/-
  The law FsPuts, walked over the contracts: no statement is proved here.
-/
import Derived.Test.YtjddgmdbgajjpaaFsI
import Derived.Deep.RegionWith
import Derived.Deep.RegionLaw
import Derived.BigQuiet
import Derived.Deep.Cut
import Derived.Deep.CutRange
namespace Go.Proofs.Ytjddgmdbgajjpaa.Fs
open Go.Sort Go.RowKit Go.Proofs.Ytjddgmdbgajjpaa.Str Go.Proofs.Ytjddgmdbgajjpaa.Base Go.Proofs.Ytjddgmdbgajjpaa.Node Go.Proofs.Ytjddgmdbgajjpaa.Long Go.Proofs.Ytjddgmdbgajjpaa.FsM
open Go.Proofs.Ytjddgmdbgajjpaa.Tree (oneB mayT fewT nodeA nodeB)
set_option linter.unusedVariables false

set_option maxRecDepth 100000 in
set_option maxHeartbeats 4000000 in
theorem puts_out (I : FsI) (hA : ∀ w : World, Calls Try.prog 9 #[] w fun e w' => e = .returned (.bool true) ∧ Stp w w') (ns : List Nd) (m : Nat) (hm : ns.length = m) (hm9 : m < 9223372036854775808) (hs : ∀ x ∈ ns, SmallN x) (A : Option Addr) (k : Nat) (n : Nd) (hn : SmallN n) (p : List UInt8) (hpl : p.length ≤ 9223372036854775807) (w : World) (ha : RdN w A k ns) (f1 f2 f3 f4 : Bool) (h1 : fewT ns = f1) (h2 : fewN n = f2) (k4 : decide ((400 : Int) < (p.length : Int)) = f4) (h3 : mayF ns = f3) (h : f1 = false ∨ (f1 = true ∧ f2 = false) ∨ (f1 = true ∧ f2 = true ∧ f4 = true) ∨ (f1 = true ∧ f2 = true ∧ f4 = false ∧ f3 = false)) :
    Calls Try.prog 4 #[fv A m k, nv n, .string ⟨p.toArray⟩] w fun e w' => e = .returned (.bool true) ∧ Stp w w' := by
  have HI := Lib.hid I
  have HA := Lib.hid hA
  have Hm := Lib.hid hm
  have Hs := Lib.hid hs
  have HR := Lib.hid ha
  have Hl : Hid (f1 = true → m ≤ 1000) := Lib.hid fun h => by rw [h] at h1; have := (Tree.fewT_iff.1 h1).1; omega
  have h0 := Lib.hid (Stp.alloc (Stp.refl w) (.cells (fcs A m k) 24))
  have HF := Lib.hid (Blk.new w 24 (fcs A m k))
  have HN := Lib.hid (by have h := Blk.new (w.alloc (.cells (fcs A m k) 24)) 26 (ncells n); simp only [World.size_alloc] at h; exact h)
  replace HF := Lib.hid (HF.out.alloc (.cells (ncells n) 26))
  replace h0 := Lib.hid (Stp.alloc h0.out (.cells (ncells n) 26))
  have f := fs_cell HF.out
  obtain ⟨n0, n1, n2, n3, n4, n5, n6, n7⟩ := nd_cells HN.out
  have F1 := Lib.hid h1
  have F2 := Lib.hid h2
  have F3 := Lib.hid h3
  clear I hA hm hs ha h1 h2 h3 hpl
  rcases h with rfl | ⟨rfl, rfl⟩ | ⟨rfl, rfl, rfl⟩ | ⟨rfl, rfl, rfl, rfl⟩
  all_goals try replace Hl := Lib.hid (Hl.out rfl)
  all_goals
    go_enter Try.func4, Try.ntmps4
    go_wp2_with (first
      | (go_at_call 9; (refine (HA.out _).mono ?_); rintro e wn ⟨rfl, hs⟩; replace h0 := Lib.hid (Stp.trans h0.out hs); replace HF := Lib.hid (HF.out.keep hs HF.out.lt); replace HN := Lib.hid (HN.out.keep hs HN.out.lt); clear hs f n0 n1 n2 n3 n4 n5 n6 n7; have f := fs_cell HF.out; obtain ⟨n0, n1, n2, n3, n4, n5, n6, n7⟩ := nd_cells HN.out)
      | (go_at_call 10; (with_reducible refine (fewt_n ns m Hm.out hm9 _ F1.out A k _ (HR.out.keep h0.out)).mono ?_); rintro e wn ⟨rfl, hs⟩; replace h0 := Lib.hid (Stp.trans h0.out hs); replace HF := Lib.hid (HF.out.keep hs HF.out.lt); replace HN := Lib.hid (HN.out.keep hs HN.out.lt); clear hs f n0 n1 n2 n3 n4 n5 n6 n7; have f := fs_cell HF.out; obtain ⟨n0, n1, n2, n3, n4, n5, n6, n7⟩ := nd_cells HN.out)
      | (go_at_call 11; (with_reducible refine (fewn_n n _ rfl _ F2.out _).mono ?_); rintro e wn ⟨rfl, hs⟩; replace h0 := Lib.hid (Stp.trans h0.out hs); replace HF := Lib.hid (HF.out.keep hs HF.out.lt); replace HN := Lib.hid (HN.out.keep hs HN.out.lt); clear hs f n0 n1 n2 n3 n4 n5 n6 n7; have f := fs_cell HF.out; obtain ⟨n0, n1, n2, n3, n4, n5, n6, n7⟩ := nd_cells HN.out)
      | (go_at_call 22; (with_reducible refine (HI.out.may ns m Hm.out Hl.out Hs.out _ F3.out A k _ (HR.out.keep h0.out)).mono ?_); rintro e wn ⟨rfl, hs⟩; replace h0 := Lib.hid (Stp.trans h0.out hs); replace HF := Lib.hid (HF.out.keep hs HF.out.lt); replace HN := Lib.hid (HN.out.keep hs HN.out.lt); clear hs f n0 n1 n2 n3 n4 n5 n6 n7; have f := fs_cell HF.out; obtain ⟨n0, n1, n2, n3, n4, n5, n6, n7⟩ := nd_cells HN.out))
    go_ret
    exact ⟨rfl, h0.out⟩
set_option maxRecDepth 100000 in
set_option maxHeartbeats 16000000 in
theorem puts_in (I : FsI) (hA : ∀ w : World, Calls Try.prog 9 #[] w fun e w' => e = .returned (.bool true) ∧ Stp w w') (ns : List Nd) (m : Nat) (hm : ns.length = m) (hm9 : m < 9223372036854775808) (hs : ∀ x ∈ ns, SmallN x) (A : Option Addr) (k : Nat) (n : Nd) (hn : SmallN n) (p : List UInt8) (hpl : p.length ≤ 9223372036854775807) (w : World) (ha : RdN w A k ns) (h1 : fewT ns = true) (h2 : fewN n = true) (k4 : decide ((400 : Int) < (p.length : Int)) = false) (h3 : mayF ns = true) :
    Calls Try.prog 4 #[fv A m k, nv n, .string ⟨p.toArray⟩] w fun e w' => e = .returned (.bool true) ∧ Stp w w' := by
  have HI := Lib.hid I
  have HA := Lib.hid hA
  have Hm := Lib.hid hm
  have Hs := Lib.hid hs
  have HR := Lib.hid ha
  have F1 := Lib.hid h1
  have F2 := Lib.hid h2
  have F3 := Lib.hid h3
  have hm30 : m ≤ 30 := by have := (Tree.fewT_iff.1 h1).1; omega
  have Hl : Hid (m ≤ 1000) := Lib.hid (by omega)
  have Hsn := Lib.hid hn
  obtain ⟨ms, e0, hp⟩ : ∃ ms e0, putF ns n = (ms, e0) := ⟨_, _, rfl⟩
  obtain ⟨z, hz⟩ : ∃ z, ms.length = z := ⟨_, rfl⟩
  obtain ⟨hsm, hlz⟩ := put_small hp hs hn
  rw [hz, hm] at hlz
  have HP := Lib.hid hp
  have Hz := Lib.hid hz
  have Hpl := Lib.hid hpl
  have Hpn := Lib.hid hn.path
  have Hsm := Lib.hid hsm
  have Hz1 : Hid (z ≤ 1000) := Lib.hid (by omega)
  have Hm30 := Lib.hid hm30
  have h0 := Lib.hid (Stp.alloc (Stp.refl w) (.cells (fcs A m k) 24))
  have HF := Lib.hid (Blk.new w 24 (fcs A m k))
  have HN := Lib.hid (by have h := Blk.new (w.alloc (.cells (fcs A m k) 24)) 26 (ncells n); simp only [World.size_alloc] at h; exact h)
  replace HF := Lib.hid (HF.out.alloc (.cells (ncells n) 26))
  replace h0 := Lib.hid (Stp.alloc h0.out (.cells (ncells n) 26))
  have f := fs_cell HF.out
  obtain ⟨n0, n1, n2, n3, n4, n5, n6, n7⟩ := nd_cells HN.out
  clear I hA hs ha h1 h2 h3 hz hpl hsm hlz hm30
  go_enter Try.func4, Try.ntmps4
  go_upto_region 7 with (first
    | (go_at_call 9; (refine (HA.out _).mono ?_); rintro e wn ⟨rfl, hs⟩; replace h0 := Lib.hid (Stp.trans h0.out hs); replace HF := Lib.hid (HF.out.keep hs HF.out.lt); replace HN := Lib.hid (HN.out.keep hs HN.out.lt); clear hs f n0 n1 n2 n3 n4 n5 n6 n7; have f := fs_cell HF.out; obtain ⟨n0, n1, n2, n3, n4, n5, n6, n7⟩ := nd_cells HN.out)
    | (go_at_call 10; (with_reducible refine (fewt_n ns m Hm.out hm9 _ F1.out A k _ (HR.out.keep h0.out)).mono ?_); rintro e wn ⟨rfl, hs⟩; replace h0 := Lib.hid (Stp.trans h0.out hs); replace HF := Lib.hid (HF.out.keep hs HF.out.lt); replace HN := Lib.hid (HN.out.keep hs HN.out.lt); clear hs f n0 n1 n2 n3 n4 n5 n6 n7; have f := fs_cell HF.out; obtain ⟨n0, n1, n2, n3, n4, n5, n6, n7⟩ := nd_cells HN.out)
    | (go_at_call 11; (with_reducible refine (fewn_n n _ rfl _ F2.out _).mono ?_); rintro e wn ⟨rfl, hs⟩; replace h0 := Lib.hid (Stp.trans h0.out hs); replace HF := Lib.hid (HF.out.keep hs HF.out.lt); replace HN := Lib.hid (HN.out.keep hs HN.out.lt); clear hs f n0 n1 n2 n3 n4 n5 n6 n7; have f := fs_cell HF.out; obtain ⟨n0, n1, n2, n3, n4, n5, n6, n7⟩ := nd_cells HN.out)
    | (go_at_call 22; (with_reducible refine (HI.out.may ns m Hm.out Hl.out Hs.out _ F3.out A k _ (HR.out.keep h0.out)).mono ?_); rintro e wn ⟨rfl, hs⟩; replace h0 := Lib.hid (Stp.trans h0.out hs); replace HF := Lib.hid (HF.out.keep hs HF.out.lt); replace HN := Lib.hid (HN.out.keep hs HN.out.lt); clear hs f n0 n1 n2 n3 n4 n5 n6 n7; have f := fs_cell HF.out; obtain ⟨n0, n1, n2, n3, n4, n5, n6, n7⟩ := nd_cells HN.out)
    | (go_at_call 12; (with_reducible refine (HI.out.put ns m Hm.out Hl.out Hs.out n _ rfl Hsn.out ms e0 HP.out z Hz.out A k _ (HR.out.keep h0.out)).mono ?_); rintro e wn ⟨B, d, rfl, hr, hs⟩; replace h0 := Lib.hid (Stp.trans h0.out hs); replace HF := Lib.hid (HF.out.keep hs HF.out.lt); replace HN := Lib.hid (HN.out.keep hs HN.out.lt); have HM := Lib.hid hr; clear hr; clear hs f n0 n1 n2 n3 n4 n5 n6 n7; have f := fs_cell HF.out; obtain ⟨n0, n1, n2, n3, n4, n5, n6, n7⟩ := nd_cells HN.out))
  have hal := Stp.alloc (Stp.refl wn) (.cells (fcs B z d) 24)
  have HG := Lib.hid (Blk.new wn 24 (fcs B z d))
  clear f n0 n1 n2 n3 n4 n5 n6 n7
  replace h0 := Lib.hid (Stp.trans h0.out hal)
  replace HF := Lib.hid (HF.out.keep hal HF.out.lt)
  replace HN := Lib.hid (HN.out.keep hal HN.out.lt)
  replace HM := Lib.hid (HM.out.keep hal)
  change Code.wp _ _ _ _ (wn.alloc (.cells (fcs B z d) 24))
  obtain ⟨gHG, hgHG⟩ : ∃ g, wn.heap.size = g := ⟨_, rfl⟩
  rw [hgHG] at HG ⊢
  clear hal hgHG
  generalize wn.alloc (.cells (fcs B z d) 24) = WHG at h0 HG HF HN HM ⊢
  have f := fs_cell HF.out
  obtain ⟨n0, n1, n2, n3, n4, n5, n6, n7⟩ := nd_cells HN.out
  have g := fs_cell HG.out
  by_cases he : e0 = 0
  case neg =>
    have g1 : (e0 != 0) = true := by simpa using he
    have hno := put_no (ns := ns) (n := n) (by rw [hp]; exact he)
    rw [hp] at hno
    dsimp only at hno
    have Hno : Hid (decide (ms = ns) = true) := Lib.hid (decide_eq_true hno)
    clear hno he hp hm hn
    go_wp2_with ((go_at_call 23; (with_reducible refine (HI.out.same ms ns z m Hz.out Hm.out Hz1.out Hl.out _ Hno.out B A d k _ HM.out (HR.out.keep h0.out)).mono ?_); rintro e wn ⟨rfl, hs⟩; replace h0 := Lib.hid (Stp.trans h0.out hs); replace HF := Lib.hid (HF.out.keep hs HF.out.lt); replace HN := Lib.hid (HN.out.keep hs HN.out.lt); replace HG := Lib.hid (HG.out.keep hs HG.out.lt); replace HM := Lib.hid (HM.out.keep hs); clear hs f n0 n1 n2 n3 n4 n5 n6 n7 g; have f := fs_cell HF.out; obtain ⟨n0, n1, n2, n3, n4, n5, n6, n7⟩ := nd_cells HN.out; have g := fs_cell HG.out))
    go_ret
    exact ⟨rfl, h0.out⟩
  subst he
  have h00 : (putF ns n).2 = 0 := by rw [hp]
  have m1 := put_may h00
  have m2 := put_get h00
  have m3 := put_again h00
  have m4 := put_length h00
  rw [hp] at m1 m2 m3 m4
  dsimp only at m1 m2 m3 m4
  rw [Hz.out, hm] at m4
  obtain ⟨us, eu, hu⟩ : ∃ us eu, putF ms n = (us, eu) := ⟨_, _, rfl⟩
  obtain ⟨zu, hzu⟩ : ∃ z, us.length = z := ⟨_, rfl⟩
  rw [hu] at m3
  dsimp only at m3
  subst m3
  obtain ⟨x, e1, hx⟩ : ∃ x e, getF ns p = (x, e) := ⟨_, _, rfl⟩
  obtain ⟨y, e2, hy⟩ : ∃ x e, getF ms p = (x, e) := ⟨_, _, rfl⟩
  obtain ⟨b, hb⟩ : ∃ b, (p == n.path) = b := ⟨_, rfl⟩
  have hsame : b = false → x = y ∧ e1 = e2 := fun h => by
    have := put_other h00 (p := p) (by rw [h] at hb; simpa using hb)
    rw [hp, hx, hy] at this
    simpa using this
  have M1 := Lib.hid m1
  have M2 := Lib.hid m2
  have HU := Lib.hid hu
  have Hzu := Lib.hid hzu
  have HX := Lib.hid hx
  have HY := Lib.hid hy
  have hzm : (z : Int) = (m : Int) + 1 := by omega
  have Hzm := Lib.hid hzm
  have heq : ∀ w : World, (Op.equalIn 10000 26 (nv n) (nv n)).run Try.prog w = .ok true w := fun w => by rw [Tree.eq_nodes, decide_eq_true rfl]
  have hng := Tree.noGuardN
  clear hp hm h00 m1 m2 m4 hu hzu hx hy hzm hn
  go_upto_region 10 with ((go_at_call 16; (with_reducible refine (HI.out.get ms z Hz.out Hz1.out Hsm.out n.path _ rfl Hpn.out n 0 M2.out B d _ HM.out).mono ?_); rintro e wn ⟨rfl, hs⟩; replace h0 := Lib.hid (Stp.trans h0.out hs); replace HF := Lib.hid (HF.out.keep hs HF.out.lt); replace HN := Lib.hid (HN.out.keep hs HN.out.lt); replace HG := Lib.hid (HG.out.keep hs HG.out.lt); replace HM := Lib.hid (HM.out.keep hs); clear hs f n0 n1 n2 n3 n4 n5 n6 n7 g; have f := fs_cell HF.out; obtain ⟨n0, n1, n2, n3, n4, n5, n6, n7⟩ := nd_cells HN.out; have g := fs_cell HG.out))
  have hal := Stp.alloc (Stp.refl wn) (.cells (ncells n) 26)
  have HV := Lib.hid (Blk.new wn 26 (ncells n))
  clear f n0 n1 n2 n3 n4 n5 n6 n7 g
  replace h0 := Lib.hid (Stp.trans h0.out hal)
  replace HF := Lib.hid (HF.out.keep hal HF.out.lt)
  replace HN := Lib.hid (HN.out.keep hal HN.out.lt)
  replace HG := Lib.hid (HG.out.keep hal HG.out.lt)
  replace HM := Lib.hid (HM.out.keep hal)
  change Code.wp _ _ _ _ (wn.alloc (.cells (ncells n) 26))
  obtain ⟨gHV, hgHV⟩ : ∃ g, wn.heap.size = g := ⟨_, rfl⟩
  rw [hgHV] at HV ⊢
  clear hal hgHV
  generalize wn.alloc (.cells (ncells n) 26) = WHV at h0 HV HF HN HG HM ⊢
  have f := fs_cell HF.out
  obtain ⟨n0, n1, n2, n3, n4, n5, n6, n7⟩ := nd_cells HN.out
  have g := fs_cell HG.out
  obtain ⟨v0, v1, v2, v3, v4, v5, v6, v7⟩ := nd_cells HV.out
  go_upto_region 11 with ((go_at_call 16; (with_reducible refine (HI.out.get ns m Hm.out Hl.out Hs.out p _ rfl Hpl.out x e1 HX.out A k _ (HR.out.keep h0.out)).mono ?_); rintro e wn ⟨rfl, hs⟩; replace h0 := Lib.hid (Stp.trans h0.out hs); replace HF := Lib.hid (HF.out.keep hs HF.out.lt); replace HN := Lib.hid (HN.out.keep hs HN.out.lt); replace HG := Lib.hid (HG.out.keep hs HG.out.lt); replace HV := Lib.hid (HV.out.keep hs HV.out.lt); replace HM := Lib.hid (HM.out.keep hs); clear hs f n0 n1 n2 n3 n4 n5 n6 n7 g v0 v1 v2 v3 v4 v5 v6 v7; have f := fs_cell HF.out; obtain ⟨n0, n1, n2, n3, n4, n5, n6, n7⟩ := nd_cells HN.out; have g := fs_cell HG.out; obtain ⟨v0, v1, v2, v3, v4, v5, v6, v7⟩ := nd_cells HV.out))
  have hal := Stp.alloc (Stp.refl wn) (.cells (ncells x) 26)
  have HXb := Lib.hid (Blk.new wn 26 (ncells x))
  clear f n0 n1 n2 n3 n4 n5 n6 n7 g v0 v1 v2 v3 v4 v5 v6 v7
  replace h0 := Lib.hid (Stp.trans h0.out hal)
  replace HF := Lib.hid (HF.out.keep hal HF.out.lt)
  replace HN := Lib.hid (HN.out.keep hal HN.out.lt)
  replace HG := Lib.hid (HG.out.keep hal HG.out.lt)
  replace HV := Lib.hid (HV.out.keep hal HV.out.lt)
  replace HM := Lib.hid (HM.out.keep hal)
  change Code.wp _ _ _ _ (wn.alloc (.cells (ncells x) 26))
  obtain ⟨gHXb, hgHXb⟩ : ∃ g, wn.heap.size = g := ⟨_, rfl⟩
  rw [hgHXb] at HXb ⊢
  clear hal hgHXb
  generalize wn.alloc (.cells (ncells x) 26) = WHXb at h0 HXb HF HN HG HV HM ⊢
  have f := fs_cell HF.out
  obtain ⟨n0, n1, n2, n3, n4, n5, n6, n7⟩ := nd_cells HN.out
  have g := fs_cell HG.out
  obtain ⟨v0, v1, v2, v3, v4, v5, v6, v7⟩ := nd_cells HV.out
  obtain ⟨x0, x1, x2, x3, x4, x5, x6, x7⟩ := nd_cells HXb.out
  go_upto_region 12 with ((go_at_call 16; (with_reducible refine (HI.out.get ms z Hz.out Hz1.out Hsm.out p _ rfl Hpl.out y e2 HY.out B d _ HM.out).mono ?_); rintro e wn ⟨rfl, hs⟩; replace h0 := Lib.hid (Stp.trans h0.out hs); replace HF := Lib.hid (HF.out.keep hs HF.out.lt); replace HN := Lib.hid (HN.out.keep hs HN.out.lt); replace HG := Lib.hid (HG.out.keep hs HG.out.lt); replace HV := Lib.hid (HV.out.keep hs HV.out.lt); replace HXb := Lib.hid (HXb.out.keep hs HXb.out.lt); replace HM := Lib.hid (HM.out.keep hs); clear hs f n0 n1 n2 n3 n4 n5 n6 n7 g v0 v1 v2 v3 v4 v5 v6 v7 x0 x1 x2 x3 x4 x5 x6 x7; have f := fs_cell HF.out; obtain ⟨n0, n1, n2, n3, n4, n5, n6, n7⟩ := nd_cells HN.out; have g := fs_cell HG.out; obtain ⟨v0, v1, v2, v3, v4, v5, v6, v7⟩ := nd_cells HV.out; obtain ⟨x0, x1, x2, x3, x4, x5, x6, x7⟩ := nd_cells HXb.out))
  have hal := Stp.alloc (Stp.refl wn) (.cells (ncells y) 26)
  have HYb := Lib.hid (Blk.new wn 26 (ncells y))
  clear f n0 n1 n2 n3 n4 n5 n6 n7 g v0 v1 v2 v3 v4 v5 v6 v7 x0 x1 x2 x3 x4 x5 x6 x7
  replace h0 := Lib.hid (Stp.trans h0.out hal)
  replace HF := Lib.hid (HF.out.keep hal HF.out.lt)
  replace HN := Lib.hid (HN.out.keep hal HN.out.lt)
  replace HG := Lib.hid (HG.out.keep hal HG.out.lt)
  replace HV := Lib.hid (HV.out.keep hal HV.out.lt)
  replace HXb := Lib.hid (HXb.out.keep hal HXb.out.lt)
  replace HM := Lib.hid (HM.out.keep hal)
  change Code.wp _ _ _ _ (wn.alloc (.cells (ncells y) 26))
  obtain ⟨gHYb, hgHYb⟩ : ∃ g, wn.heap.size = g := ⟨_, rfl⟩
  rw [hgHYb] at HYb ⊢
  clear hal hgHYb
  generalize wn.alloc (.cells (ncells y) 26) = WHYb at h0 HYb HF HN HG HV HXb HM ⊢
  have f := fs_cell HF.out
  obtain ⟨n0, n1, n2, n3, n4, n5, n6, n7⟩ := nd_cells HN.out
  have g := fs_cell HG.out
  obtain ⟨v0, v1, v2, v3, v4, v5, v6, v7⟩ := nd_cells HV.out
  obtain ⟨x0, x1, x2, x3, x4, x5, x6, x7⟩ := nd_cells HXb.out
  obtain ⟨y0, y1, y2, y3, y4, y5, y6, y7⟩ := nd_cells HYb.out
  go_upto_region 13 with ((go_at_call 12; (with_reducible refine (HI.out.put ms z Hz.out Hz1.out Hsm.out n _ rfl Hsn.out us 10 HU.out zu Hzu.out B d _ HM.out).mono ?_); rintro e wn ⟨B3, d3, rfl, -, hs⟩; replace h0 := Lib.hid (Stp.trans h0.out hs); replace HF := Lib.hid (HF.out.keep hs HF.out.lt); replace HN := Lib.hid (HN.out.keep hs HN.out.lt); replace HG := Lib.hid (HG.out.keep hs HG.out.lt); replace HV := Lib.hid (HV.out.keep hs HV.out.lt); replace HXb := Lib.hid (HXb.out.keep hs HXb.out.lt); replace HYb := Lib.hid (HYb.out.keep hs HYb.out.lt); replace HM := Lib.hid (HM.out.keep hs); clear hs f n0 n1 n2 n3 n4 n5 n6 n7 g v0 v1 v2 v3 v4 v5 v6 v7 x0 x1 x2 x3 x4 x5 x6 x7 y0 y1 y2 y3 y4 y5 y6 y7; have f := fs_cell HF.out; obtain ⟨n0, n1, n2, n3, n4, n5, n6, n7⟩ := nd_cells HN.out; have g := fs_cell HG.out; obtain ⟨v0, v1, v2, v3, v4, v5, v6, v7⟩ := nd_cells HV.out; obtain ⟨x0, x1, x2, x3, x4, x5, x6, x7⟩ := nd_cells HXb.out; obtain ⟨y0, y1, y2, y3, y4, y5, y6, y7⟩ := nd_cells HYb.out))
  have hal := Stp.alloc (Stp.refl wn) (.cells (fcs B3 zu d3) 24)
  have HZb := Lib.hid (Blk.new wn 24 (fcs B3 zu d3))
  clear f n0 n1 n2 n3 n4 n5 n6 n7 g v0 v1 v2 v3 v4 v5 v6 v7 x0 x1 x2 x3 x4 x5 x6 x7 y0 y1 y2 y3 y4 y5 y6 y7
  replace h0 := Lib.hid (Stp.trans h0.out hal)
  replace HF := Lib.hid (HF.out.keep hal HF.out.lt)
  replace HN := Lib.hid (HN.out.keep hal HN.out.lt)
  replace HG := Lib.hid (HG.out.keep hal HG.out.lt)
  replace HV := Lib.hid (HV.out.keep hal HV.out.lt)
  replace HXb := Lib.hid (HXb.out.keep hal HXb.out.lt)
  replace HYb := Lib.hid (HYb.out.keep hal HYb.out.lt)
  replace HM := Lib.hid (HM.out.keep hal)
  change Code.wp _ _ _ _ (wn.alloc (.cells (fcs B3 zu d3) 24))
  obtain ⟨gHZb, hgHZb⟩ : ∃ g, wn.heap.size = g := ⟨_, rfl⟩
  rw [hgHZb] at HZb ⊢
  clear hal hgHZb
  generalize wn.alloc (.cells (fcs B3 zu d3) 24) = WHZb at h0 HZb HF HN HG HV HXb HYb HM ⊢
  have f := fs_cell HF.out
  obtain ⟨n0, n1, n2, n3, n4, n5, n6, n7⟩ := nd_cells HN.out
  have g := fs_cell HG.out
  obtain ⟨v0, v1, v2, v3, v4, v5, v6, v7⟩ := nd_cells HV.out
  obtain ⟨x0, x1, x2, x3, x4, x5, x6, x7⟩ := nd_cells HXb.out
  obtain ⟨y0, y1, y2, y3, y4, y5, y6, y7⟩ := nd_cells HYb.out
  have u := fs_cell HZb.out
  have hq30 := Hm30.out
  have key : b = true ∨ (b = false ∧ (e1 == e2) = true ∧ ∀ w : World, (Op.equalIn 10000 26 (nv x) (nv y)).run Try.prog w = .ok true w) := by
    cases b
    · obtain ⟨rfl, rfl⟩ := hsame rfl
      exact .inr ⟨rfl, by simp, fun w => by rw [Tree.eq_nodes, decide_eq_true rfl]⟩
    · exact .inl rfl
  have hzz : ((z : Int) == (m : Int) + 1) = true := by rw [beq_iff_eq]; exact Hzm.out
  clear hsame
  rcases key with rfl | ⟨rfl, k1, heq2⟩
  all_goals
    go_wp2_with ((go_at_call 22; (with_reducible refine (HI.out.may ms z Hz.out Hz1.out Hsm.out _ M1.out B d _ HM.out).mono ?_); rintro e wn ⟨rfl, hs⟩; replace h0 := Lib.hid (Stp.trans h0.out hs); replace HF := Lib.hid (HF.out.keep hs HF.out.lt); replace HN := Lib.hid (HN.out.keep hs HN.out.lt); replace HG := Lib.hid (HG.out.keep hs HG.out.lt); replace HV := Lib.hid (HV.out.keep hs HV.out.lt); replace HXb := Lib.hid (HXb.out.keep hs HXb.out.lt); replace HYb := Lib.hid (HYb.out.keep hs HYb.out.lt); replace HZb := Lib.hid (HZb.out.keep hs HZb.out.lt); replace HM := Lib.hid (HM.out.keep hs); clear hs f n0 n1 n2 n3 n4 n5 n6 n7 g v0 v1 v2 v3 v4 v5 v6 v7 x0 x1 x2 x3 x4 x5 x6 x7 y0 y1 y2 y3 y4 y5 y6 y7 u; have f := fs_cell HF.out; obtain ⟨n0, n1, n2, n3, n4, n5, n6, n7⟩ := nd_cells HN.out; have g := fs_cell HG.out; obtain ⟨v0, v1, v2, v3, v4, v5, v6, v7⟩ := nd_cells HV.out; obtain ⟨x0, x1, x2, x3, x4, x5, x6, x7⟩ := nd_cells HXb.out; obtain ⟨y0, y1, y2, y3, y4, y5, y6, y7⟩ := nd_cells HYb.out; have u := fs_cell HZb.out))
    go_ret
    exact ⟨rfl, h0.out⟩
theorem puts_walk (I : FsI) (hA : ∀ w : World, Calls Try.prog 9 #[] w fun e w' => e = .returned (.bool true) ∧ Stp w w') (ns : List Nd) (m : Nat) (hm : ns.length = m) (hm9 : m < 9223372036854775808) (hs : ∀ x ∈ ns, SmallN x) (A : Option Addr) (k : Nat) (n : Nd) (hn : SmallN n) (p : List UInt8) (hpl : p.length ≤ 9223372036854775807) (w : World) (ha : RdN w A k ns) :
    Calls Try.prog 4 #[fv A m k, nv n, .string ⟨p.toArray⟩] w fun e w' => e = .returned (.bool true) ∧ Stp w w' := by
  by_cases h : fewT ns = true ∧ fewN n = true ∧ decide ((400 : Int) < (p.length : Int)) = false ∧ mayF ns = true
  · exact puts_in I hA ns m hm hm9 hs A k n hn p hpl w ha h.1 h.2.1 h.2.2.1 h.2.2.2
  · refine puts_out I hA ns m hm hm9 hs A k n hn p hpl w ha _ _ _ _ rfl rfl rfl rfl ?_
    cases h1 : fewT ns <;> cases h2 : fewN n <;> cases h4 : decide ((400 : Int) < (p.length : Int)) <;> cases h3 : mayF ns <;> simp_all
end Go.Proofs.Ytjddgmdbgajjpaa.Fs
