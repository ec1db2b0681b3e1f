/-
  The law FsSafe, walked over the contracts: no statement is proved here.
-/
import Derived.Test.YtjddgmdbgajjpaaFsI
import Derived.Deep.RegionWith
import Derived.Deep.RegionLaw
import Derived.BigQuiet
import Derived.Deep.Cut
import Derived.Deep.CutRange
namespace Go.Proofs.Ytjddgmdbgajjpaa.Fs
open Go.Sort Go.RowKit Go.Proofs.Ytjddgmdbgajjpaa.Str Go.Proofs.Ytjddgmdbgajjpaa.Base Go.Proofs.Ytjddgmdbgajjpaa.Node Go.Proofs.Ytjddgmdbgajjpaa.Long Go.Proofs.Ytjddgmdbgajjpaa.FsM
open Go.Proofs.Ytjddgmdbgajjpaa.Tree (oneB mayT fewT nodeA nodeB)
set_option linter.unusedVariables false

set_option maxRecDepth 100000 in
set_option maxHeartbeats 4000000 in
theorem safe_out (I : FsI) (hA : ∀ w : World, Calls Try.prog 9 #[] w fun e w' => e = .returned (.bool true) ∧ Stp w w') (ns : List Nd) (m : Nat) (hm : ns.length = m) (hm9 : m < 9223372036854775808) (hs : ∀ x ∈ ns, SmallN x) (A : Option Addr) (k : Nat) (n : Nd) (hn : SmallN n) (w : World) (ha : RdN w A k ns) (f1 f2 f3 : Bool) (h1 : fewT ns = f1) (h2 : fewN n = f2) (h3 : mayF ns = f3) (h : f1 = false ∨ (f1 = true ∧ f2 = false) ∨ (f1 = true ∧ f2 = true ∧ f3 = false)) :
    Calls Try.prog 5 #[fv A m k, nv n] w fun e w' => e = .returned (.bool true) ∧ Stp w w' := by
  have HI := Lib.hid I
  have HA := Lib.hid hA
  have Hm := Lib.hid hm
  have Hs := Lib.hid hs
  have HR := Lib.hid ha
  have Hl : Hid (f1 = true → m ≤ 1000) := Lib.hid fun h => by rw [h] at h1; have := (Tree.fewT_iff.1 h1).1; omega
  have h0 := Lib.hid (Stp.alloc (Stp.refl w) (.cells (fcs A m k) 24))
  have HF := Lib.hid (Blk.new w 24 (fcs A m k))
  have HN := Lib.hid (by have h := Blk.new (w.alloc (.cells (fcs A m k) 24)) 26 (ncells n); simp only [World.size_alloc] at h; exact h)
  replace HF := Lib.hid (HF.out.alloc (.cells (ncells n) 26))
  replace h0 := Lib.hid (Stp.alloc h0.out (.cells (ncells n) 26))
  have f := fs_cell HF.out
  obtain ⟨n0, n1, n2, n3, n4, n5, n6, n7⟩ := nd_cells HN.out
  have F1 := Lib.hid h1
  have F2 := Lib.hid h2
  have F3 := Lib.hid h3
  clear I hA hm hs ha h1 h2 h3
  rcases h with rfl | ⟨rfl, rfl⟩ | ⟨rfl, rfl, rfl⟩
  all_goals try replace Hl := Lib.hid (Hl.out rfl)
  all_goals
    go_enter Try.func5, Try.ntmps5
    go_wp2_with (first
      | (go_at_call 9; (refine (HA.out _).mono ?_); rintro e wn ⟨rfl, hs⟩; replace h0 := Lib.hid (Stp.trans h0.out hs); replace HF := Lib.hid (HF.out.keep hs HF.out.lt); replace HN := Lib.hid (HN.out.keep hs HN.out.lt); clear hs f n0 n1 n2 n3 n4 n5 n6 n7; have f := fs_cell HF.out; obtain ⟨n0, n1, n2, n3, n4, n5, n6, n7⟩ := nd_cells HN.out)
      | (go_at_call 10; (with_reducible refine (fewt_n ns m Hm.out hm9 _ F1.out A k _ (HR.out.keep h0.out)).mono ?_); rintro e wn ⟨rfl, hs⟩; replace h0 := Lib.hid (Stp.trans h0.out hs); replace HF := Lib.hid (HF.out.keep hs HF.out.lt); replace HN := Lib.hid (HN.out.keep hs HN.out.lt); clear hs f n0 n1 n2 n3 n4 n5 n6 n7; have f := fs_cell HF.out; obtain ⟨n0, n1, n2, n3, n4, n5, n6, n7⟩ := nd_cells HN.out)
      | (go_at_call 11; (with_reducible refine (fewn_n n _ rfl _ F2.out _).mono ?_); rintro e wn ⟨rfl, hs⟩; replace h0 := Lib.hid (Stp.trans h0.out hs); replace HF := Lib.hid (HF.out.keep hs HF.out.lt); replace HN := Lib.hid (HN.out.keep hs HN.out.lt); clear hs f n0 n1 n2 n3 n4 n5 n6 n7; have f := fs_cell HF.out; obtain ⟨n0, n1, n2, n3, n4, n5, n6, n7⟩ := nd_cells HN.out)
      | (go_at_call 22; (with_reducible refine (HI.out.may ns m Hm.out Hl.out Hs.out _ F3.out A k _ (HR.out.keep h0.out)).mono ?_); rintro e wn ⟨rfl, hs⟩; replace h0 := Lib.hid (Stp.trans h0.out hs); replace HF := Lib.hid (HF.out.keep hs HF.out.lt); replace HN := Lib.hid (HN.out.keep hs HN.out.lt); clear hs f n0 n1 n2 n3 n4 n5 n6 n7; have f := fs_cell HF.out; obtain ⟨n0, n1, n2, n3, n4, n5, n6, n7⟩ := nd_cells HN.out))
    go_ret
    exact ⟨rfl, h0.out⟩
set_option maxRecDepth 100000 in
set_option maxHeartbeats 8000000 in
theorem safe_in (I : FsI) (hA : ∀ w : World, Calls Try.prog 9 #[] w fun e w' => e = .returned (.bool true) ∧ Stp w w') (ns : List Nd) (m : Nat) (hm : ns.length = m) (hm9 : m < 9223372036854775808) (hs : ∀ x ∈ ns, SmallN x) (A : Option Addr) (k : Nat) (n : Nd) (hn : SmallN n) (w : World) (ha : RdN w A k ns) (h1 : fewT ns = true) (h2 : fewN n = true) (h3 : mayF ns = true) :
    Calls Try.prog 5 #[fv A m k, nv n] w fun e w' => e = .returned (.bool true) ∧ Stp w w' := by
  have HI := Lib.hid I
  have HA := Lib.hid hA
  have Hm := Lib.hid hm
  have Hs := Lib.hid hs
  have HR := Lib.hid ha
  have F1 := Lib.hid h1
  have F2 := Lib.hid h2
  have F3 := Lib.hid h3
  have Hl : Hid (m ≤ 1000) := Lib.hid (by have := (Tree.fewT_iff.1 h1).1; omega)
  have Hsn := Lib.hid hn
  obtain ⟨ms, e0, hp⟩ : ∃ ms e0, putF ns n = (ms, e0) := ⟨_, _, rfl⟩
  obtain ⟨z, hz⟩ : ∃ z, ms.length = z := ⟨_, rfl⟩
  obtain ⟨q, hq⟩ : ∃ q, PathM.parV n.path = q := ⟨_, rfl⟩
  obtain ⟨b, hb⟩ : ∃ b, PathM.parB n.path = b := ⟨_, rfl⟩
  obtain ⟨x, e1, hg⟩ : ∃ x e1, getF ns q = (x, e1) := ⟨_, _, rfl⟩
  have hql : q.length ≤ 9223372036854775807 := by rw [← hq]; have := par_le n.path; have := hn.path; omega
  have hsafe : e0 = 0 → oneB n = true ∧ PathM.mayB n.path = true ∧ (b = true → e1 = 0 ∧ x.kind = 53) := fun h => by
    obtain ⟨a1, a2, a3⟩ := put_safe (ns := ns) (n := n) (by rw [hp]; exact h)
    refine ⟨a1, a2, fun hb1 => ?_⟩
    rw [hb, hq] at a3
    obtain ⟨d, hd, kd⟩ := a3 hb1
    rw [hg] at hd
    cases hd
    exact ⟨rfl, kd⟩
  have HP := Lib.hid hp
  have Hz := Lib.hid hz
  have Hq := Lib.hid hq
  have Hb := Lib.hid hb
  have Hg := Lib.hid hg
  have Hql := Lib.hid hql
  have Hpl := Lib.hid hn.path
  have h0 := Lib.hid (Stp.alloc (Stp.refl w) (.cells (fcs A m k) 24))
  have HF := Lib.hid (Blk.new w 24 (fcs A m k))
  have HN := Lib.hid (by have h := Blk.new (w.alloc (.cells (fcs A m k) 24)) 26 (ncells n); simp only [World.size_alloc] at h; exact h)
  replace HF := Lib.hid (HF.out.alloc (.cells (ncells n) 26))
  replace h0 := Lib.hid (Stp.alloc h0.out (.cells (ncells n) 26))
  have f := fs_cell HF.out
  obtain ⟨n0, n1, n2, n3, n4, n5, n6, n7⟩ := nd_cells HN.out
  clear I hA hm hs ha h1 h2 h3 hp hz hq hb hg hql hn
  go_enter Try.func5, Try.ntmps5
  go_upto_region 7 with (first
    | (go_at_call 9; (refine (HA.out _).mono ?_); rintro e wn ⟨rfl, hs⟩; replace h0 := Lib.hid (Stp.trans h0.out hs); replace HF := Lib.hid (HF.out.keep hs HF.out.lt); replace HN := Lib.hid (HN.out.keep hs HN.out.lt); clear hs f n0 n1 n2 n3 n4 n5 n6 n7; have f := fs_cell HF.out; obtain ⟨n0, n1, n2, n3, n4, n5, n6, n7⟩ := nd_cells HN.out)
    | (go_at_call 10; (with_reducible refine (fewt_n ns m Hm.out hm9 _ F1.out A k _ (HR.out.keep h0.out)).mono ?_); rintro e wn ⟨rfl, hs⟩; replace h0 := Lib.hid (Stp.trans h0.out hs); replace HF := Lib.hid (HF.out.keep hs HF.out.lt); replace HN := Lib.hid (HN.out.keep hs HN.out.lt); clear hs f n0 n1 n2 n3 n4 n5 n6 n7; have f := fs_cell HF.out; obtain ⟨n0, n1, n2, n3, n4, n5, n6, n7⟩ := nd_cells HN.out)
    | (go_at_call 11; (with_reducible refine (fewn_n n _ rfl _ F2.out _).mono ?_); rintro e wn ⟨rfl, hs⟩; replace h0 := Lib.hid (Stp.trans h0.out hs); replace HF := Lib.hid (HF.out.keep hs HF.out.lt); replace HN := Lib.hid (HN.out.keep hs HN.out.lt); clear hs f n0 n1 n2 n3 n4 n5 n6 n7; have f := fs_cell HF.out; obtain ⟨n0, n1, n2, n3, n4, n5, n6, n7⟩ := nd_cells HN.out)
    | (go_at_call 22; (with_reducible refine (HI.out.may ns m Hm.out Hl.out Hs.out _ F3.out A k _ (HR.out.keep h0.out)).mono ?_); rintro e wn ⟨rfl, hs⟩; replace h0 := Lib.hid (Stp.trans h0.out hs); replace HF := Lib.hid (HF.out.keep hs HF.out.lt); replace HN := Lib.hid (HN.out.keep hs HN.out.lt); clear hs f n0 n1 n2 n3 n4 n5 n6 n7; have f := fs_cell HF.out; obtain ⟨n0, n1, n2, n3, n4, n5, n6, n7⟩ := nd_cells HN.out)
    | (go_at_call 12; (with_reducible refine (HI.out.put ns m Hm.out Hl.out Hs.out n _ rfl Hsn.out ms e0 HP.out z Hz.out A k _ (HR.out.keep h0.out)).mono ?_); rintro e wn ⟨B, d, rfl, hr, hs⟩; replace h0 := Lib.hid (Stp.trans h0.out hs); replace HF := Lib.hid (HF.out.keep hs HF.out.lt); replace HN := Lib.hid (HN.out.keep hs HN.out.lt); have HM := Lib.hid hr; clear hr; clear hs f n0 n1 n2 n3 n4 n5 n6 n7; have f := fs_cell HF.out; obtain ⟨n0, n1, n2, n3, n4, n5, n6, n7⟩ := nd_cells HN.out))
  have hal := Stp.alloc (Stp.refl wn) (.cells (fcs B z d) 24)
  have HG := Lib.hid (Blk.new wn 24 (fcs B z d))
  clear f n0 n1 n2 n3 n4 n5 n6 n7
  replace h0 := Lib.hid (Stp.trans h0.out hal)
  replace HF := Lib.hid (HF.out.keep hal HF.out.lt)
  replace HN := Lib.hid (HN.out.keep hal HN.out.lt)
  replace HM := Lib.hid (HM.out.keep hal)
  change Code.wp _ _ _ _ (wn.alloc (.cells (fcs B z d) 24))
  obtain ⟨gHG, hgHG⟩ : ∃ g, wn.heap.size = g := ⟨_, rfl⟩
  rw [hgHG] at HG ⊢
  clear hal hgHG
  generalize wn.alloc (.cells (fcs B z d) 24) = WHG at h0 HG HF HN HM ⊢
  have f := fs_cell HF.out
  obtain ⟨n0, n1, n2, n3, n4, n5, n6, n7⟩ := nd_cells HN.out
  have g := fs_cell HG.out
  go_upto_region 9 with (first
    | (go_at_call 24; (with_reducible refine (parent_n n.path Hpl.out q Hq.out b Hb.out _).mono ?_); rintro e wn ⟨rfl, hs⟩; replace h0 := Lib.hid (Stp.trans h0.out hs); replace HF := Lib.hid (HF.out.keep hs HF.out.lt); replace HN := Lib.hid (HN.out.keep hs HN.out.lt); replace HG := Lib.hid (HG.out.keep hs HG.out.lt); replace HM := Lib.hid (HM.out.keep hs); clear hs f n0 n1 n2 n3 n4 n5 n6 n7 g; have f := fs_cell HF.out; obtain ⟨n0, n1, n2, n3, n4, n5, n6, n7⟩ := nd_cells HN.out; have g := fs_cell HG.out)
    | (go_at_call 16; (with_reducible refine (HI.out.get ns m Hm.out Hl.out Hs.out q _ rfl Hql.out x e1 Hg.out A k _ (HR.out.keep h0.out)).mono ?_); rintro e wn ⟨rfl, hs⟩; replace h0 := Lib.hid (Stp.trans h0.out hs); replace HF := Lib.hid (HF.out.keep hs HF.out.lt); replace HN := Lib.hid (HN.out.keep hs HN.out.lt); replace HG := Lib.hid (HG.out.keep hs HG.out.lt); replace HM := Lib.hid (HM.out.keep hs); clear hs f n0 n1 n2 n3 n4 n5 n6 n7 g; have f := fs_cell HF.out; obtain ⟨n0, n1, n2, n3, n4, n5, n6, n7⟩ := nd_cells HN.out; have g := fs_cell HG.out))
  have hal := Stp.alloc (Stp.refl wn) (.cells (ncells x) 26)
  have HD := Lib.hid (Blk.new wn 26 (ncells x))
  clear f n0 n1 n2 n3 n4 n5 n6 n7 g
  replace h0 := Lib.hid (Stp.trans h0.out hal)
  replace HF := Lib.hid (HF.out.keep hal HF.out.lt)
  replace HN := Lib.hid (HN.out.keep hal HN.out.lt)
  replace HG := Lib.hid (HG.out.keep hal HG.out.lt)
  replace HM := Lib.hid (HM.out.keep hal)
  change Code.wp _ _ _ _ (wn.alloc (.cells (ncells x) 26))
  obtain ⟨gHD, hgHD⟩ : ∃ g, wn.heap.size = g := ⟨_, rfl⟩
  rw [hgHD] at HD ⊢
  clear hal hgHD
  generalize wn.alloc (.cells (ncells x) 26) = WHD at h0 HD HF HN HG HM ⊢
  have f := fs_cell HF.out
  obtain ⟨n0, n1, n2, n3, n4, n5, n6, n7⟩ := nd_cells HN.out
  have g := fs_cell HG.out
  obtain ⟨d0, d1, d2, d3, d4, d5, d6, d7⟩ := nd_cells HD.out
  by_cases he : e0 = 0
  · obtain ⟨a1, a2, a3⟩ := hsafe he
    have A1 := Lib.hid a1
    have A2 := Lib.hid a2
    have key : (b = false) ∨ (b = true ∧ (e1 == 0) = true ∧ ((x.kind.toNat : Int) == 53) = true) := by
      cases b
      · exact .inl rfl
      · obtain ⟨c1, c2⟩ := a3 rfl
        exact .inr ⟨rfl, by rw [c1]; rfl, by rw [c2]; rfl⟩
    subst he
    clear a1 a2 a3 hsafe
    rcases key with rfl | ⟨rfl, k1, k2⟩
    all_goals
      go_wp2_with (first
        | (go_at_call 25; (with_reducible refine (tone_n n _ rfl Hsn.out _ A1.out _).mono ?_); rintro e wn ⟨rfl, hs⟩; replace h0 := Lib.hid (Stp.trans h0.out hs); replace HF := Lib.hid (HF.out.keep hs HF.out.lt); replace HN := Lib.hid (HN.out.keep hs HN.out.lt); replace HG := Lib.hid (HG.out.keep hs HG.out.lt); replace HD := Lib.hid (HD.out.keep hs HD.out.lt); replace HM := Lib.hid (HM.out.keep hs); clear hs f n0 n1 n2 n3 n4 n5 n6 n7 g d0 d1 d2 d3 d4 d5 d6 d7; have f := fs_cell HF.out; obtain ⟨n0, n1, n2, n3, n4, n5, n6, n7⟩ := nd_cells HN.out; have g := fs_cell HG.out; obtain ⟨d0, d1, d2, d3, d4, d5, d6, d7⟩ := nd_cells HD.out)
        | (go_at_call 26; (with_reducible refine (pmay_n n.path Hpl.out _ A2.out _).mono ?_); rintro e wn ⟨rfl, hs⟩; replace h0 := Lib.hid (Stp.trans h0.out hs); replace HF := Lib.hid (HF.out.keep hs HF.out.lt); replace HN := Lib.hid (HN.out.keep hs HN.out.lt); replace HG := Lib.hid (HG.out.keep hs HG.out.lt); replace HD := Lib.hid (HD.out.keep hs HD.out.lt); replace HM := Lib.hid (HM.out.keep hs); clear hs f n0 n1 n2 n3 n4 n5 n6 n7 g d0 d1 d2 d3 d4 d5 d6 d7; have f := fs_cell HF.out; obtain ⟨n0, n1, n2, n3, n4, n5, n6, n7⟩ := nd_cells HN.out; have g := fs_cell HG.out; obtain ⟨d0, d1, d2, d3, d4, d5, d6, d7⟩ := nd_cells HD.out))
      go_ret
      exact ⟨rfl, h0.out⟩
  · have g1 : (e0 != 0) = true := by simpa using he
    clear hsafe he
    go_wp2
    go_ret
    exact ⟨rfl, h0.out⟩
theorem safe_walk (I : FsI) (hA : ∀ w : World, Calls Try.prog 9 #[] w fun e w' => e = .returned (.bool true) ∧ Stp w w') (ns : List Nd) (m : Nat) (hm : ns.length = m) (hm9 : m < 9223372036854775808) (hs : ∀ x ∈ ns, SmallN x) (A : Option Addr) (k : Nat) (n : Nd) (hn : SmallN n) (w : World) (ha : RdN w A k ns) :
    Calls Try.prog 5 #[fv A m k, nv n] w fun e w' => e = .returned (.bool true) ∧ Stp w w' := by
  by_cases h : fewT ns = true ∧ fewN n = true ∧ mayF ns = true
  · exact safe_in I hA ns m hm hm9 hs A k n hn w ha h.1 h.2.1 h.2.2
  · refine safe_out I hA ns m hm hm9 hs A k n hn w ha _ _ _ rfl rfl rfl ?_
    cases h1 : fewT ns <;> cases h2 : fewN n <;> cases h3 : mayF ns <;> simp_all
end Go.Proofs.Ytjddgmdbgajjpaa.Fs
