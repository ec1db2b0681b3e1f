/-
  The law FsGrows, walked over the contracts: no statement is proved here.
-/
import Derived.Test.YtjddgmdbgajjpaaFsI
import Derived.Deep.RegionWith
import Derived.Deep.RegionLaw
import Derived.BigQuiet
import Derived.Deep.Cut
import Derived.Deep.CutRange
namespace Go.Proofs.Ytjddgmdbgajjpaa.Fs
open Go.Sort Go.RowKit Go.Proofs.Ytjddgmdbgajjpaa.Str Go.Proofs.Ytjddgmdbgajjpaa.Base Go.Proofs.Ytjddgmdbgajjpaa.Node Go.Proofs.Ytjddgmdbgajjpaa.Long Go.Proofs.Ytjddgmdbgajjpaa.FsM
open Go.Proofs.Ytjddgmdbgajjpaa.Tree (oneB mayT fewT nodeA nodeB)
set_option linter.unusedVariables false

set_option maxRecDepth 100000 in
set_option maxHeartbeats 8000000 in
theorem grows_out (I : FsI) (hA : ∀ w : World, Calls Try.prog 9 #[] w fun e w' => e = .returned (.bool true) ∧ Stp w w') (ns : List Nd) (m : Nat) (hm : ns.length = m) (hm9 : m < 9223372036854775808) (hs : ∀ x ∈ ns, SmallN x) (A : Option Addr) (k : Nat) (p a b q : List UInt8) (hpl : p.length ≤ 9223372036854775807) (hal : a.length ≤ 9223372036854775807) (hbl : b.length ≤ 9223372036854775807) (hql : q.length ≤ 9223372036854775807) (w : World) (ha : RdN w A k ns) (f1 f3 k1 k2 k3 k4 : Bool) (h1 : fewT ns = f1) (e1 : decide ((400 : Int) < (p.length : Int)) = k1) (e2 : decide ((400 : Int) < (q.length : Int)) = k2) (e3 : decide ((5000 : Int) < (a.length : Int)) = k3) (e4 : decide ((5000 : Int) < (b.length : Int)) = k4) (h3 : mayF ns = f3)
    (h : f1 = false ∨ (f1 = true ∧ k1 = true) ∨ (f1 = true ∧ k1 = false ∧ k2 = true) ∨ (f1 = true ∧ k1 = false ∧ k2 = false ∧ k3 = true) ∨ (f1 = true ∧ k1 = false ∧ k2 = false ∧ k3 = false ∧ k4 = true) ∨ (f1 = true ∧ k1 = false ∧ k2 = false ∧ k3 = false ∧ k4 = false ∧ f3 = false)) :
    Calls Try.prog 6 #[fv A m k, .string ⟨p.toArray⟩, .string ⟨a.toArray⟩, .string ⟨b.toArray⟩, .string ⟨q.toArray⟩] w fun e w' => e = .returned (.bool true) ∧ Stp w w' := by
  have HI := Lib.hid I
  have HA := Lib.hid hA
  have Hm := Lib.hid hm
  have Hs := Lib.hid hs
  have HR := Lib.hid ha
  have Hl : Hid (f1 = true → m ≤ 1000) := Lib.hid fun h => by rw [h] at h1; have := (Tree.fewT_iff.1 h1).1; omega
  have h0 := Lib.hid (Stp.alloc (Stp.refl w) (.cells (fcs A m k) 24))
  have HF := Lib.hid (Blk.new w 24 (fcs A m k))
  have f := fs_cell HF.out
  have F1 := Lib.hid h1
  have F3 := Lib.hid h3
  clear I hA hm hs ha h1 h3 hpl hal hbl hql
  rcases h with rfl | ⟨rfl, rfl⟩ | ⟨rfl, rfl, rfl⟩ | ⟨rfl, rfl, rfl, rfl⟩ | ⟨rfl, rfl, rfl, rfl, rfl⟩ | ⟨rfl, rfl, rfl, rfl, rfl, rfl⟩
  all_goals try replace Hl := Lib.hid (Hl.out rfl)
  all_goals
    go_enter Try.func6, Try.ntmps6
    go_wp2_with (first
      | (go_at_call 9; (refine (HA.out _).mono ?_); rintro e wn ⟨rfl, hs⟩; replace h0 := Lib.hid (Stp.trans h0.out hs); replace HF := Lib.hid (HF.out.keep hs HF.out.lt); clear hs f; have f := fs_cell HF.out)
      | (go_at_call 10; (with_reducible refine (fewt_n ns m Hm.out hm9 _ F1.out A k _ (HR.out.keep h0.out)).mono ?_); rintro e wn ⟨rfl, hs⟩; replace h0 := Lib.hid (Stp.trans h0.out hs); replace HF := Lib.hid (HF.out.keep hs HF.out.lt); clear hs f; have f := fs_cell HF.out)
      | (go_at_call 22; (with_reducible refine (HI.out.may ns m Hm.out Hl.out Hs.out _ F3.out A k _ (HR.out.keep h0.out)).mono ?_); rintro e wn ⟨rfl, hs⟩; replace h0 := Lib.hid (Stp.trans h0.out hs); replace HF := Lib.hid (HF.out.keep hs HF.out.lt); clear hs f; have f := fs_cell HF.out))
    go_ret
    exact ⟨rfl, h0.out⟩
set_option maxRecDepth 100000 in
set_option maxHeartbeats 16000000 in
theorem grows_in (I : FsI) (hA : ∀ w : World, Calls Try.prog 9 #[] w fun e w' => e = .returned (.bool true) ∧ Stp w w') (ns : List Nd) (m : Nat) (hm : ns.length = m) (hm9 : m < 9223372036854775808) (hs : ∀ x ∈ ns, SmallN x) (A : Option Addr) (k : Nat) (p a b q : List UInt8) (hpl : p.length ≤ 9223372036854775807) (hal : a.length ≤ 9223372036854775807) (hbl : b.length ≤ 9223372036854775807) (hql : q.length ≤ 9223372036854775807) (w : World) (ha : RdN w A k ns) (h1 : fewT ns = true) (e1 : decide ((400 : Int) < (p.length : Int)) = false) (e2 : decide ((400 : Int) < (q.length : Int)) = false) (e3 : decide ((5000 : Int) < (a.length : Int)) = false) (e4 : decide ((5000 : Int) < (b.length : Int)) = false) (h3 : mayF ns = true) :
    Calls Try.prog 6 #[fv A m k, .string ⟨p.toArray⟩, .string ⟨a.toArray⟩, .string ⟨b.toArray⟩, .string ⟨q.toArray⟩] w fun e w' => e = .returned (.bool true) ∧ Stp w w' := by
  have HI := Lib.hid I
  have HA := Lib.hid hA
  have Hm := Lib.hid hm
  have Hs := Lib.hid hs
  have HR := Lib.hid ha
  have F1 := Lib.hid h1
  have F3 := Lib.hid h3
  have hm30 : m ≤ 30 := by have := (Tree.fewT_iff.1 h1).1; omega
  have Hl : Hid (m ≤ 1000) := Lib.hid (by omega)
  have la : a.length ≤ 5000 := by have := of_decide_eq_false e3; omega
  have lb : b.length ≤ 5000 := by have := of_decide_eq_false e4; omega
  obtain ⟨xs, x0, hx⟩ : ∃ ms e0, growF ns p a = (ms, e0) := ⟨_, _, rfl⟩
  obtain ⟨zs, z0, hz⟩ : ∃ ms e0, growF ns p (a ++ b) = (ms, e0) := ⟨_, _, rfl⟩
  obtain ⟨ys, y0, hy⟩ : ∃ ms e0, growF xs p b = (ms, e0) := ⟨_, _, rfl⟩
  obtain ⟨sx, lx⟩ := grow_small hx hs
  obtain ⟨sy, ly⟩ := grow_small hy sx
  obtain ⟨sz, lz⟩ := grow_small hz hs
  rw [hm] at lx lz
  rw [lx] at ly
  obtain ⟨was, w0, hwas⟩ : ∃ s e, textF ns p = (s, e) := ⟨_, _, rfl⟩
  obtain ⟨is, i0, his⟩ : ∃ s e, textF xs p = (s, e) := ⟨_, _, rfl⟩
  obtain ⟨u, eu, hu⟩ : ∃ x e, getF ns q = (x, e) := ⟨_, _, rfl⟩
  obtain ⟨v, ev, hv⟩ : ∃ x e, getF xs q = (x, e) := ⟨_, _, rfl⟩
  have HX := Lib.hid hx
  have HY := Lib.hid hy
  have HZ := Lib.hid hz
  have Hlx := Lib.hid lx
  have Hly := Lib.hid ly
  have Hlz := Lib.hid lz
  have Hsx := Lib.hid sx
  have HWas := Lib.hid hwas
  have His := Lib.hid his
  have HU := Lib.hid hu
  have HVv := Lib.hid hv
  have Hpl := Lib.hid hpl
  have Hql := Lib.hid hql
  have Hla : Hid (a.length ≤ 1000000) := Lib.hid (by omega)
  have Hlb : Hid (b.length ≤ 1000000) := Lib.hid (by omega)
  have Hlab : Hid ((a ++ b).length ≤ 1000000) := Lib.hid (by rw [List.length_append]; omega)
  have hadd := add_ll a b (by omega)
  obtain ⟨dq, hdq⟩ : ∃ x, decide (xs = ns) = x := ⟨_, rfl⟩
  obtain ⟨dy, hdy⟩ : ∃ x, decide (ys = zs) = x := ⟨_, rfl⟩
  have Hdq := Lib.hid hdq
  have Hdy := Lib.hid hdy
  obtain ⟨c0, hc0⟩ : ∃ x, (x0 != 0) = x := ⟨_, rfl⟩
  obtain ⟨cy, hcy⟩ : ∃ x, (y0 != 0) = x := ⟨_, rfl⟩
  obtain ⟨bq, hbq⟩ : ∃ x, (q == p) = x := ⟨_, rfl⟩
  have hno : c0 = true → dq = true ∧ (z0 == x0) = true := fun h => by
    obtain ⟨n1, n2⟩ := grow_no (ns := ns) (p := p) (a := a) (b := b) (by rw [hx]; rw [h] at hc0; simpa using hc0)
    rw [hx, hz] at n2
    rw [hx] at n1
    dsimp only at n1 n2
    exact ⟨by rw [← hdq]; exact decide_eq_true n1, by rw [n2]; simp⟩
  have hyes : c0 = false → mayF xs = true ∧ i0 = 0 ∧ is = was ++ a ∧ was.length ≤ 4000 ∧ (bq = true ∨ (bq = false ∧ u = v ∧ eu = ev)) ∧ (y0 == z0) = true ∧ (cy = true ∨ (cy = false ∧ dy = true)) := fun h => by
    have hx0 : x0 = 0 := by rw [h] at hc0; simpa using hc0
    obtain ⟨k1, i, n, kf, kl, kg, km, k2, k3⟩ := grow_twice (ns := ns) (p := p) (a := a) (b := b) (by rw [hx]; exact hx0)
    rw [hx, Prod.mk.injEq] at kg
    obtain ⟨rfl, -⟩ := kg
    obtain ⟨t1, t2⟩ := grow_text k1 km kf
    rw [hwas, his] at t1
    rw [his] at t2
    dsimp only at t1 t2
    have tf := text_file k1 kf
    rw [hwas, Prod.mk.injEq] at tf
    rw [hy, hz] at k2 k3
    dsimp only at k2 k3
    refine ⟨km, t2, t1.symm, by rw [tf.1]; omega, ?_, by rw [k2]; simp, ?_⟩
    · cases bq
      · have := set_other k1 km kf (q := q) (by simpa using hbq)
        rw [hu, hv, Prod.mk.injEq] at this
        exact .inr ⟨rfl, this.1, this.2⟩
      · exact .inl rfl
    · cases cy
      · have hy0 : y0 = 0 := by simpa using hcy
        exact .inr ⟨rfl, by rw [← hdy]; exact decide_eq_true (k3 (by rw [← k2]; exact hy0))⟩
      · exact .inl rfl
  have h0 := Lib.hid (Stp.alloc (Stp.refl w) (.cells (fcs A m k) 24))
  have HF := Lib.hid (Blk.new w 24 (fcs A m k))
  have f := fs_cell HF.out
  clear I hA hm hs ha h1 h3 hx hy hz sx sy sz lx ly lz hwas his hu hv hm30 la lb hdq hdy hpl hql hal hbl
  go_enter Try.func6, Try.ntmps6
  go_upto_region 7 with (first
    | (go_at_call 9; (refine (HA.out _).mono ?_); rintro e wn ⟨rfl, hs⟩; replace h0 := Lib.hid (Stp.trans h0.out hs); replace HF := Lib.hid (HF.out.keep hs HF.out.lt); clear hs f; have f := fs_cell HF.out)
    | (go_at_call 10; (with_reducible refine (fewt_n ns m Hm.out hm9 _ F1.out A k _ (HR.out.keep h0.out)).mono ?_); rintro e wn ⟨rfl, hs⟩; replace h0 := Lib.hid (Stp.trans h0.out hs); replace HF := Lib.hid (HF.out.keep hs HF.out.lt); clear hs f; have f := fs_cell HF.out)
    | (go_at_call 22; (with_reducible refine (HI.out.may ns m Hm.out Hl.out Hs.out _ F3.out A k _ (HR.out.keep h0.out)).mono ?_); rintro e wn ⟨rfl, hs⟩; replace h0 := Lib.hid (Stp.trans h0.out hs); replace HF := Lib.hid (HF.out.keep hs HF.out.lt); clear hs f; have f := fs_cell HF.out)
    | (go_at_call 18; (with_reducible refine (HI.out.text ns m Hm.out Hl.out Hs.out p _ rfl Hpl.out was w0 HWas.out A k _ (HR.out.keep h0.out)).mono ?_); rintro e wn ⟨rfl, hs⟩; replace h0 := Lib.hid (Stp.trans h0.out hs); replace HF := Lib.hid (HF.out.keep hs HF.out.lt); clear hs f; have f := fs_cell HF.out)
    | (go_at_call 14; (with_reducible refine (HI.out.grow ns m Hm.out Hl.out Hs.out p _ rfl Hpl.out a _ rfl Hla.out xs x0 HX.out m Hlx.out A k _ (HR.out.keep h0.out)).mono ?_); rintro e wn ⟨B1, d1, rfl, hr, hs⟩; replace h0 := Lib.hid (Stp.trans h0.out hs); replace HF := Lib.hid (HF.out.keep hs HF.out.lt); have HMx := Lib.hid hr; clear hr; clear hs f; have f := fs_cell HF.out))
  have hal := Stp.alloc (Stp.refl wn) (.cells (fcs B1 m d1) 24)
  have HG1 := Lib.hid (Blk.new wn 24 (fcs B1 m d1))
  clear f
  replace h0 := Lib.hid (Stp.trans h0.out hal)
  replace HF := Lib.hid (HF.out.keep hal HF.out.lt)
  replace HMx := Lib.hid (HMx.out.keep hal)
  change Code.wp _ _ _ _ (wn.alloc (.cells (fcs B1 m d1) 24))
  obtain ⟨gHG1, hgHG1⟩ : ∃ g, wn.heap.size = g := ⟨_, rfl⟩
  rw [hgHG1] at HG1 ⊢
  clear hal hgHG1
  generalize wn.alloc (.cells (fcs B1 m d1) 24) = WHG1 at h0 HG1 HF HMx ⊢
  have f := fs_cell HF.out
  have xa := fs_cell HG1.out
  go_upto_region 8 with ((go_at_call 14; (with_reducible refine (HI.out.grow xs m Hlx.out Hl.out Hsx.out p _ rfl Hpl.out b _ rfl Hlb.out ys y0 HY.out m Hly.out B1 d1 _ HMx.out).mono ?_); rintro e wn ⟨B2, d2, rfl, hr, hs⟩; replace h0 := Lib.hid (Stp.trans h0.out hs); replace HF := Lib.hid (HF.out.keep hs HF.out.lt); replace HG1 := Lib.hid (HG1.out.keep hs HG1.out.lt); replace HMx := Lib.hid (HMx.out.keep hs); have HMy := Lib.hid hr; clear hr; clear hs f xa; have f := fs_cell HF.out; have xa := fs_cell HG1.out))
  have hal := Stp.alloc (Stp.refl wn) (.cells (fcs B2 m d2) 24)
  have HG2 := Lib.hid (Blk.new wn 24 (fcs B2 m d2))
  clear f xa
  replace h0 := Lib.hid (Stp.trans h0.out hal)
  replace HF := Lib.hid (HF.out.keep hal HF.out.lt)
  replace HG1 := Lib.hid (HG1.out.keep hal HG1.out.lt)
  replace HMx := Lib.hid (HMx.out.keep hal)
  replace HMy := Lib.hid (HMy.out.keep hal)
  change Code.wp _ _ _ _ (wn.alloc (.cells (fcs B2 m d2) 24))
  obtain ⟨gHG2, hgHG2⟩ : ∃ g, wn.heap.size = g := ⟨_, rfl⟩
  rw [hgHG2] at HG2 ⊢
  clear hal hgHG2
  generalize wn.alloc (.cells (fcs B2 m d2) 24) = WHG2 at h0 HG2 HF HG1 HMx HMy ⊢
  have f := fs_cell HF.out
  have xa := fs_cell HG1.out
  have xb := fs_cell HG2.out
  go_upto_region 9 with ((go_at_call 14; (with_reducible refine (HI.out.grow ns m Hm.out Hl.out Hs.out p _ rfl Hpl.out (a ++ b) _ rfl Hlab.out zs z0 HZ.out m Hlz.out A k _ (HR.out.keep h0.out)).mono ?_); rintro e wn ⟨B3, d3, rfl, hr, hs⟩; replace h0 := Lib.hid (Stp.trans h0.out hs); replace HF := Lib.hid (HF.out.keep hs HF.out.lt); replace HG1 := Lib.hid (HG1.out.keep hs HG1.out.lt); replace HG2 := Lib.hid (HG2.out.keep hs HG2.out.lt); replace HMx := Lib.hid (HMx.out.keep hs); replace HMy := Lib.hid (HMy.out.keep hs); have HMz := Lib.hid hr; clear hr; clear hs f xa xb; have f := fs_cell HF.out; have xa := fs_cell HG1.out; have xb := fs_cell HG2.out))
  have hal := Stp.alloc (Stp.refl wn) (.cells (fcs B3 m d3) 24)
  have HG3 := Lib.hid (Blk.new wn 24 (fcs B3 m d3))
  clear f xa xb
  replace h0 := Lib.hid (Stp.trans h0.out hal)
  replace HF := Lib.hid (HF.out.keep hal HF.out.lt)
  replace HG1 := Lib.hid (HG1.out.keep hal HG1.out.lt)
  replace HG2 := Lib.hid (HG2.out.keep hal HG2.out.lt)
  replace HMx := Lib.hid (HMx.out.keep hal)
  replace HMy := Lib.hid (HMy.out.keep hal)
  replace HMz := Lib.hid (HMz.out.keep hal)
  change Code.wp _ _ _ _ (wn.alloc (.cells (fcs B3 m d3) 24))
  obtain ⟨gHG3, hgHG3⟩ : ∃ g, wn.heap.size = g := ⟨_, rfl⟩
  rw [hgHG3] at HG3 ⊢
  clear hal hgHG3
  generalize wn.alloc (.cells (fcs B3 m d3) 24) = WHG3 at h0 HG3 HF HG1 HG2 HMx HMy HMz ⊢
  have f := fs_cell HF.out
  have xa := fs_cell HG1.out
  have xb := fs_cell HG2.out
  have xc := fs_cell HG3.out
  cases c0
  case true =>
    obtain ⟨rfl, kz⟩ := hno rfl
    clear hyes hno
    go_wp2_with ((go_at_call 23; (with_reducible refine (HI.out.same xs ns m m Hlx.out Hm.out Hl.out Hl.out _ Hdq.out B1 A d1 k _ HMx.out (HR.out.keep h0.out)).mono ?_); rintro e wn ⟨rfl, hs⟩; replace h0 := Lib.hid (Stp.trans h0.out hs); replace HF := Lib.hid (HF.out.keep hs HF.out.lt); replace HG1 := Lib.hid (HG1.out.keep hs HG1.out.lt); replace HG2 := Lib.hid (HG2.out.keep hs HG2.out.lt); replace HG3 := Lib.hid (HG3.out.keep hs HG3.out.lt); replace HMx := Lib.hid (HMx.out.keep hs); replace HMy := Lib.hid (HMy.out.keep hs); replace HMz := Lib.hid (HMz.out.keep hs); clear hs f xa xb xc; have f := fs_cell HF.out; have xa := fs_cell HG1.out; have xb := fs_cell HG2.out; have xc := fs_cell HG3.out))
    go_ret
    exact ⟨rfl, h0.out⟩
  obtain ⟨hmx, rfl, rfl, lw, kq, kz, ky⟩ := hyes rfl
  have Hmx := Lib.hid hmx
  have hadd2 := add_ll was a (by have := Hla.out; omega)
  clear hno hyes hmx lw
  go_upto_region 13 with (first
    | (go_at_call 18; (with_reducible refine (HI.out.text xs m Hlx.out Hl.out Hsx.out p _ rfl Hpl.out (was ++ a) 0 His.out B1 d1 _ HMx.out).mono ?_); rintro e wn ⟨rfl, hs⟩; replace h0 := Lib.hid (Stp.trans h0.out hs); replace HF := Lib.hid (HF.out.keep hs HF.out.lt); replace HG1 := Lib.hid (HG1.out.keep hs HG1.out.lt); replace HG2 := Lib.hid (HG2.out.keep hs HG2.out.lt); replace HG3 := Lib.hid (HG3.out.keep hs HG3.out.lt); replace HMx := Lib.hid (HMx.out.keep hs); replace HMy := Lib.hid (HMy.out.keep hs); replace HMz := Lib.hid (HMz.out.keep hs); clear hs f xa xb xc; have f := fs_cell HF.out; have xa := fs_cell HG1.out; have xb := fs_cell HG2.out; have xc := fs_cell HG3.out)
    | (go_at_call 16; (with_reducible refine (HI.out.get ns m Hm.out Hl.out Hs.out q _ rfl Hql.out u eu HU.out A k _ (HR.out.keep h0.out)).mono ?_); rintro e wn ⟨rfl, hs⟩; replace h0 := Lib.hid (Stp.trans h0.out hs); replace HF := Lib.hid (HF.out.keep hs HF.out.lt); replace HG1 := Lib.hid (HG1.out.keep hs HG1.out.lt); replace HG2 := Lib.hid (HG2.out.keep hs HG2.out.lt); replace HG3 := Lib.hid (HG3.out.keep hs HG3.out.lt); replace HMx := Lib.hid (HMx.out.keep hs); replace HMy := Lib.hid (HMy.out.keep hs); replace HMz := Lib.hid (HMz.out.keep hs); clear hs f xa xb xc; have f := fs_cell HF.out; have xa := fs_cell HG1.out; have xb := fs_cell HG2.out; have xc := fs_cell HG3.out))
  have hal := Stp.alloc (Stp.refl wn) (.cells (ncells u) 26)
  have HN1 := Lib.hid (Blk.new wn 26 (ncells u))
  clear f xa xb xc
  replace h0 := Lib.hid (Stp.trans h0.out hal)
  replace HF := Lib.hid (HF.out.keep hal HF.out.lt)
  replace HG1 := Lib.hid (HG1.out.keep hal HG1.out.lt)
  replace HG2 := Lib.hid (HG2.out.keep hal HG2.out.lt)
  replace HG3 := Lib.hid (HG3.out.keep hal HG3.out.lt)
  replace HMx := Lib.hid (HMx.out.keep hal)
  replace HMy := Lib.hid (HMy.out.keep hal)
  replace HMz := Lib.hid (HMz.out.keep hal)
  change Code.wp _ _ _ _ (wn.alloc (.cells (ncells u) 26))
  obtain ⟨gHN1, hgHN1⟩ : ∃ g, wn.heap.size = g := ⟨_, rfl⟩
  rw [hgHN1] at HN1 ⊢
  clear hal hgHN1
  generalize wn.alloc (.cells (ncells u) 26) = WHN1 at h0 HN1 HF HG1 HG2 HG3 HMx HMy HMz ⊢
  have f := fs_cell HF.out
  have xa := fs_cell HG1.out
  have xb := fs_cell HG2.out
  have xc := fs_cell HG3.out
  obtain ⟨na0, na1, na2, na3, na4, na5, na6, na7⟩ := nd_cells HN1.out
  go_upto_region 14 with ((go_at_call 16; (with_reducible refine (HI.out.get xs m Hlx.out Hl.out Hsx.out q _ rfl Hql.out v ev HVv.out B1 d1 _ HMx.out).mono ?_); rintro e wn ⟨rfl, hs⟩; replace h0 := Lib.hid (Stp.trans h0.out hs); replace HF := Lib.hid (HF.out.keep hs HF.out.lt); replace HG1 := Lib.hid (HG1.out.keep hs HG1.out.lt); replace HG2 := Lib.hid (HG2.out.keep hs HG2.out.lt); replace HG3 := Lib.hid (HG3.out.keep hs HG3.out.lt); replace HN1 := Lib.hid (HN1.out.keep hs HN1.out.lt); replace HMx := Lib.hid (HMx.out.keep hs); replace HMy := Lib.hid (HMy.out.keep hs); replace HMz := Lib.hid (HMz.out.keep hs); clear hs f xa xb xc na0 na1 na2 na3 na4 na5 na6 na7; have f := fs_cell HF.out; have xa := fs_cell HG1.out; have xb := fs_cell HG2.out; have xc := fs_cell HG3.out; obtain ⟨na0, na1, na2, na3, na4, na5, na6, na7⟩ := nd_cells HN1.out))
  have hal := Stp.alloc (Stp.refl wn) (.cells (ncells v) 26)
  have HN2 := Lib.hid (Blk.new wn 26 (ncells v))
  clear f xa xb xc na0 na1 na2 na3 na4 na5 na6 na7
  replace h0 := Lib.hid (Stp.trans h0.out hal)
  replace HF := Lib.hid (HF.out.keep hal HF.out.lt)
  replace HG1 := Lib.hid (HG1.out.keep hal HG1.out.lt)
  replace HG2 := Lib.hid (HG2.out.keep hal HG2.out.lt)
  replace HG3 := Lib.hid (HG3.out.keep hal HG3.out.lt)
  replace HN1 := Lib.hid (HN1.out.keep hal HN1.out.lt)
  replace HMx := Lib.hid (HMx.out.keep hal)
  replace HMy := Lib.hid (HMy.out.keep hal)
  replace HMz := Lib.hid (HMz.out.keep hal)
  change Code.wp _ _ _ _ (wn.alloc (.cells (ncells v) 26))
  obtain ⟨gHN2, hgHN2⟩ : ∃ g, wn.heap.size = g := ⟨_, rfl⟩
  rw [hgHN2] at HN2 ⊢
  clear hal hgHN2
  generalize wn.alloc (.cells (ncells v) 26) = WHN2 at h0 HN2 HF HG1 HG2 HG3 HN1 HMx HMy HMz ⊢
  have f := fs_cell HF.out
  have xa := fs_cell HG1.out
  have xb := fs_cell HG2.out
  have xc := fs_cell HG3.out
  obtain ⟨na0, na1, na2, na3, na4, na5, na6, na7⟩ := nd_cells HN1.out
  obtain ⟨nb0, nb1, nb2, nb3, nb4, nb5, nb6, nb7⟩ := nd_cells HN2.out
  have hng := Tree.noGuardN
  have key : bq = true ∨ (bq = false ∧ (eu == ev) = true ∧ ∀ w : World, (Op.equalIn 10000 26 (nv u) (nv v)).run Try.prog w = .ok true w) := by
    rcases kq with h | ⟨h, e1, e2⟩
    · exact .inl h
    · exact .inr ⟨h, by rw [e2]; simp, fun w => by rw [Tree.eq_nodes, decide_eq_true e1]⟩
  clear kq
  rcases key with rfl | ⟨rfl, k1, heq⟩
  all_goals
    rcases ky with rfl | ⟨rfl, rfl⟩
  all_goals
    go_wp2_with (first
      | (go_at_call 22; (with_reducible refine (HI.out.may xs m Hlx.out Hl.out Hsx.out _ Hmx.out B1 d1 _ HMx.out).mono ?_); rintro e wn ⟨rfl, hs⟩; replace h0 := Lib.hid (Stp.trans h0.out hs); replace HF := Lib.hid (HF.out.keep hs HF.out.lt); replace HG1 := Lib.hid (HG1.out.keep hs HG1.out.lt); replace HG2 := Lib.hid (HG2.out.keep hs HG2.out.lt); replace HG3 := Lib.hid (HG3.out.keep hs HG3.out.lt); replace HN1 := Lib.hid (HN1.out.keep hs HN1.out.lt); replace HN2 := Lib.hid (HN2.out.keep hs HN2.out.lt); replace HMx := Lib.hid (HMx.out.keep hs); replace HMy := Lib.hid (HMy.out.keep hs); replace HMz := Lib.hid (HMz.out.keep hs); clear hs f xa xb xc na0 na1 na2 na3 na4 na5 na6 na7 nb0 nb1 nb2 nb3 nb4 nb5 nb6 nb7; have f := fs_cell HF.out; have xa := fs_cell HG1.out; have xb := fs_cell HG2.out; have xc := fs_cell HG3.out; obtain ⟨na0, na1, na2, na3, na4, na5, na6, na7⟩ := nd_cells HN1.out; obtain ⟨nb0, nb1, nb2, nb3, nb4, nb5, nb6, nb7⟩ := nd_cells HN2.out)
      | (go_at_call 23; (with_reducible refine (HI.out.same ys zs m m Hly.out Hlz.out Hl.out Hl.out _ Hdy.out B2 B3 d2 d3 _ HMy.out HMz.out).mono ?_); rintro e wn ⟨rfl, hs⟩; replace h0 := Lib.hid (Stp.trans h0.out hs); replace HF := Lib.hid (HF.out.keep hs HF.out.lt); replace HG1 := Lib.hid (HG1.out.keep hs HG1.out.lt); replace HG2 := Lib.hid (HG2.out.keep hs HG2.out.lt); replace HG3 := Lib.hid (HG3.out.keep hs HG3.out.lt); replace HN1 := Lib.hid (HN1.out.keep hs HN1.out.lt); replace HN2 := Lib.hid (HN2.out.keep hs HN2.out.lt); replace HMx := Lib.hid (HMx.out.keep hs); replace HMy := Lib.hid (HMy.out.keep hs); replace HMz := Lib.hid (HMz.out.keep hs); clear hs f xa xb xc na0 na1 na2 na3 na4 na5 na6 na7 nb0 nb1 nb2 nb3 nb4 nb5 nb6 nb7; have f := fs_cell HF.out; have xa := fs_cell HG1.out; have xb := fs_cell HG2.out; have xc := fs_cell HG3.out; obtain ⟨na0, na1, na2, na3, na4, na5, na6, na7⟩ := nd_cells HN1.out; obtain ⟨nb0, nb1, nb2, nb3, nb4, nb5, nb6, nb7⟩ := nd_cells HN2.out))
    go_ret
    exact ⟨rfl, h0.out⟩
theorem grows_walk (I : FsI) (hA : ∀ w : World, Calls Try.prog 9 #[] w fun e w' => e = .returned (.bool true) ∧ Stp w w') (ns : List Nd) (m : Nat) (hm : ns.length = m) (hm9 : m < 9223372036854775808) (hs : ∀ x ∈ ns, SmallN x) (A : Option Addr) (k : Nat) (p a b q : List UInt8) (hpl : p.length ≤ 9223372036854775807) (hal : a.length ≤ 9223372036854775807) (hbl : b.length ≤ 9223372036854775807) (hql : q.length ≤ 9223372036854775807) (w : World) (ha : RdN w A k ns) :
    Calls Try.prog 6 #[fv A m k, .string ⟨p.toArray⟩, .string ⟨a.toArray⟩, .string ⟨b.toArray⟩, .string ⟨q.toArray⟩] w fun e w' => e = .returned (.bool true) ∧ Stp w w' := by
  by_cases h : fewT ns = true ∧ decide ((400 : Int) < (p.length : Int)) = false ∧ decide ((400 : Int) < (q.length : Int)) = false ∧ decide ((5000 : Int) < (a.length : Int)) = false ∧ decide ((5000 : Int) < (b.length : Int)) = false ∧ mayF ns = true
  · exact grows_in I hA ns m hm hm9 hs A k p a b q hpl hal hbl hql w ha h.1 h.2.1 h.2.2.1 h.2.2.2.1 h.2.2.2.2.1 h.2.2.2.2.2
  · refine grows_out I hA ns m hm hm9 hs A k p a b q hpl hal hbl hql w ha _ _ _ _ _ _ rfl rfl rfl rfl rfl rfl ?_
    cases h1 : fewT ns <;> cases e1 : decide ((400 : Int) < (p.length : Int)) <;> cases e2 : decide ((400 : Int) < (q.length : Int)) <;> cases e3 : decide ((5000 : Int) < (a.length : Int)) <;> cases e4 : decide ((5000 : Int) < (b.length : Int)) <;> cases h3 : mayF ns <;> simp_all
end Go.Proofs.Ytjddgmdbgajjpaa.Fs
