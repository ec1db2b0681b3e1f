/-
  The law VolumeMore, walked over the contracts: no statement is proved here.
-/
import Derived.Test.YtopihahjjcpnpaaGreatDoorVolZ
namespace Go.Proofs.YtopihahjjcpnpaaGreatDoor.Vol
open Go.Sort Go.RowKit Go.Proofs.YtopihahjjcpnpaaGreatDoor.Str Go.Proofs.YtopihahjjcpnpaaGreatDoor.Base Go.Proofs.YtopihahjjcpnpaaGreatDoor.Node Go.Proofs.YtopihahjjcpnpaaGreatDoor.Head Go.Proofs.YtopihahjjcpnpaaGreatDoor.Long Go.Proofs.YtopihahjjcpnpaaGreatDoor.Entry Go.Proofs.YtopihahjjcpnpaaGreatDoor.LabelM Go.Proofs.YtopihahjjcpnpaaGreatDoor.ContM Go.Proofs.YtopihahjjcpnpaaGreatDoor.Stream Go.Proofs.YtopihahjjcpnpaaGreatDoor.VolM
open Go.Proofs.YtopihahjjcpnpaaGreatDoor.Tree (oneB mayT fewT)
set_option linter.unusedVariables false

set_option maxRecDepth 100000 in
set_option maxHeartbeats 4000000 in
theorem more_out {Tb : World → Prop} (I : VolI Tb) (t : List Nd) (m : Nat) (hm : t.length = m) (hml : m < 9223372036854775808) (hn : ∀ n ∈ t, SmallN n) (s : Sett) (hs : SmallS s) (T A : Option Addr) (ct k : Nat) (w : World) (ht : RdN w T ct t) (ha : RdZ w A k s.caps) (htab : Tb w) (more : List Int) (y : Nat) (hy : more.length = y) (hmb : ∀ z ∈ more, -9223372036854775808 ≤ z ∧ z < 9223372036854775808) (D : Option Addr) (kd : Nat) (hd : RdZ w D kd more) (hout : fewT t = false ∨ fewS s = false ∨ 20 < y) :
    Calls Tryz.prog 6 #[.slice T m ct, sv s A k, .slice D y kd] w fun e w' => e = .returned (.bool true) ∧ Stp w w' := by
  have h0 := Lib.hid (Stp.alloc (Stp.refl w) (.cells (scells s A k) 25))
  have HB := Lib.hid (Blk.new w 25 (scells s A k))
  have Ht := Lib.hid ht
  have Ha : Hid (RdZ w A k s.caps) := Lib.hid ha
  have HT := Lib.hid htab
  have HI := Lib.hid I
  have Hm := Lib.hid hm
  have Hml := Lib.hid hml
  have Hn := Lib.hid hn
  have Hs := Lib.hid hs
  obtain ⟨q0, q1, q2⟩ := set_cells3 HB.out
  clear ht ha htab I hm hml hn hs
  obtain ⟨b1, f1⟩ : ∃ b, fewT t = b := ⟨_, rfl⟩
  obtain ⟨b2, f2⟩ : ∃ b, fewS s = b := ⟨_, rfl⟩
  have F1 := Lib.hid f1
  have F2 := Lib.hid f2
  have key : b1 = false ∨ (b1 = true ∧ b2 = false) ∨ (b1 = true ∧ b2 = true ∧ 20 < y) := by
    rw [f1, f2] at hout
    cases b1 <;> cases b2 <;> simp_all
  clear f1 f2 hout hy hmb hd
  rcases key with rfl | ⟨rfl, rfl⟩ | ⟨rfl, rfl, y20⟩
  all_goals
    go_enter Tryz.func6, Tryz.ntmps6
    go_wp2_with (first
      | (go_at_call 11; (refine (awake_s HI.out _ (HI.out.keep HT.out h0.out)).mono ?_); rintro e wn ⟨rfl, hs⟩; replace h0 := Lib.hid (Stp.trans h0.out hs); replace HB := Lib.hid (HB.out.keep hs HB.out.lt); clear q0 q1 q2; clear hs; obtain ⟨q0, q1, q2⟩ := set_cells3 HB.out)
      | (go_at_call 12; (with_reducible refine (fewt_v t m Hm.out Hml.out _ F1.out T ct _ (Ht.out.keep h0.out)).mono ?_); rintro e wn ⟨rfl, hs⟩; replace h0 := Lib.hid (Stp.trans h0.out hs); replace HB := Lib.hid (HB.out.keep hs HB.out.lt); clear q0 q1 q2; clear hs; obtain ⟨q0, q1, q2⟩ := set_cells3 HB.out)
      | (go_at_call 13; (refine (fews_v s A k _ rfl _ F2.out _).mono ?_); rintro e wn ⟨rfl, hs⟩; replace h0 := Lib.hid (Stp.trans h0.out hs); replace HB := Lib.hid (HB.out.keep hs HB.out.lt); clear q0 q1 q2; clear hs; obtain ⟨q0, q1, q2⟩ := set_cells3 HB.out))
    go_ret
    exact ⟨rfl, h0.out⟩
set_option maxRecDepth 100000 in
set_option maxHeartbeats 8000000 in
theorem more_in {Tb : World → Prop} (I : VolI Tb) (t : List Nd) (m : Nat) (hm : t.length = m) (hml : m < 9223372036854775808) (hn : ∀ n ∈ t, SmallN n) (s : Sett) (hs : SmallS s) (T A : Option Addr) (ct k : Nat) (w : World) (ht : RdN w T ct t) (ha : RdZ w A k s.caps) (htab : Tb w) (more : List Int) (y : Nat) (hy : more.length = y) (hmb : ∀ z ∈ more, -9223372036854775808 ≤ z ∧ z < 9223372036854775808) (D : Option Addr) (kd : Nat) (hd : RdZ w D kd more) (f1 : fewT t = true) (f2 : fewS s = true) (y20 : y ≤ 20) :
    Calls Tryz.prog 6 #[.slice T m ct, sv s A k, .slice D y kd] w fun e w' => e = .returned (.bool true) ∧ Stp w w' := by
  have h0 := Lib.hid (Stp.alloc (Stp.refl w) (.cells (scells s A k) 25))
  have HB := Lib.hid (Blk.new w 25 (scells s A k))
  have Ht := Lib.hid ht
  have Ha : Hid (RdZ w A k s.caps) := Lib.hid ha
  have HT := Lib.hid htab
  have HI := Lib.hid I
  have Hm := Lib.hid hm
  have Hml := Lib.hid hml
  have Hn := Lib.hid hn
  have Hs := Lib.hid hs
  obtain ⟨q0, q1, q2⟩ := set_cells3 HB.out
  clear ht ha htab I hm hml hn hs
  have F1 := Lib.hid f1
  have F2 := Lib.hid f2
  have Hm3 : Hid (m ≤ 1000) := Lib.hid (by have := (Tree.fewT_iff.1 f1).1; rw [Hm.out] at this; omega)
  have hcl := (fewS_iff.1 f2).2
  have HC := Lib.hid hcl
  have Hd : Hid (RdZ w D kd more) := Lib.hid hd
  have Hy := Lib.hid hy
  have Hy20 := Lib.hid y20
  obtain ⟨x, hx⟩ : ∃ x, (⟨s.label, s.b, s.caps ++ more⟩ : Sett) = x := ⟨_, rfl⟩
  have hxs : SmallS x := by
    rw [← hx]
    exact ⟨Hs.out.label, Hs.out.low, Hs.out.high, by show (s.caps ++ more).length < _; rw [List.length_append]; omega, fun z hz => (List.mem_append.1 hz).elim (Hs.out.each z) (hmb z)⟩
  obtain ⟨mx, hmx⟩ : ∃ b, mayS x = b := ⟨_, rfl⟩
  obtain ⟨P, E, hP⟩ : ∃ P E, splitV t s = (P, E) := ⟨_, _, rfl⟩
  obtain ⟨R, F, hR⟩ : ∃ R F, splitV t x = (R, F) := ⟨_, _, rfl⟩
  obtain ⟨zp, hzp⟩ : ∃ z, P.length = z := ⟨_, rfl⟩
  obtain ⟨zr, hzr⟩ : ∃ z, R.length = z := ⟨_, rfl⟩
  obtain ⟨cn, hcn⟩ : ∃ n, (s.caps ++ more).length = n := ⟨_, rfl⟩
  have Hcn := Lib.hid hcn
  have Hx := Lib.hid hx
  have Hxs := Lib.hid hxs
  have Hmx := Lib.hid hmx
  have HP := Lib.hid hP
  have HRq := Lib.hid hR
  have Hzp := Lib.hid hzp
  have Hzr := Lib.hid hzr
  clear f1 f2 hcl hd hy hmb hx hxs hmx hP hR hzp hzr hcn
  go_enter Tryz.func6, Tryz.ntmps6
  go_upto_region 7 with (first
    | (go_at_call 11; (refine (awake_s HI.out _ (HI.out.keep HT.out h0.out)).mono ?_); rintro e wn ⟨rfl, hs⟩; replace h0 := Lib.hid (Stp.trans h0.out hs); replace HB := Lib.hid (HB.out.keep hs HB.out.lt); clear q0 q1 q2; clear hs; obtain ⟨q0, q1, q2⟩ := set_cells3 HB.out)
    | (go_at_call 12; (with_reducible refine (fewt_v t m Hm.out Hml.out _ F1.out T ct _ (Ht.out.keep h0.out)).mono ?_); rintro e wn ⟨rfl, hs⟩; replace h0 := Lib.hid (Stp.trans h0.out hs); replace HB := Lib.hid (HB.out.keep hs HB.out.lt); clear q0 q1 q2; clear hs; obtain ⟨q0, q1, q2⟩ := set_cells3 HB.out)
    | (go_at_call 13; (refine (fews_v s A k _ rfl _ F2.out _).mono ?_); rintro e wn ⟨rfl, hs⟩; replace h0 := Lib.hid (Stp.trans h0.out hs); replace HB := Lib.hid (HB.out.keep hs HB.out.lt); clear q0 q1 q2; clear hs; obtain ⟨q0, q1, q2⟩ := set_cells3 HB.out))
  change Code.wp _ _ _ _ (wn.alloc (.cells (scells s A k) 25))
  have hX := Blk.new wn 25 (scells s A k)
  have hst := Stp.alloc (Stp.refl wn) (.cells (scells s A k) 25)
  have hge := HB.out.lt
  have hgW : (wn.alloc (.cells (scells s A k) 25)).heap.size = wn.heap.size + 1 := World.size_alloc _ _
  replace h0 := Lib.hid (Stp.trans h0.out hst)
  replace HB := Lib.hid (HB.out.keep hst HB.out.lt)
  obtain ⟨W, hW⟩ : ∃ W, wn.alloc (.cells (scells s A k) 25) = W := ⟨_, rfl⟩
  obtain ⟨gx, hgx⟩ : ∃ g, wn.heap.size = g := ⟨_, rfl⟩
  rw [hW] at hX h0 HB hgW ⊢
  rw [hgx] at hX hge hgW ⊢
  have HX := Lib.hid hX
  have HgW := Lib.hid hgW
  clear hst hW hgx hX hgW q0 q1 q2
  obtain ⟨q0, q1, q2⟩ := set_cells3 HB.out
  obtain ⟨x0, x1, x2⟩ := set_cells3 HX.out
  go_upto_region 8 with (first
    | (at_builtin; refine wpList_append_z (w0 := W) (lo := W.heap.size) rfl (.const (.slice none 0 0)) (.tmp 38) 23 3 rfl Tryz.underlying23 int_info _ [] s.caps rfl (Base.Own.nil _ _ _) _ rfl (rdz_val (RdA.keep Ha.out h0.out) rfl) (by have := HC.out; rw [List.length_nil]; omega) (Nat.le_refl _) (Stp.refl W) (Nat.le_refl _) ?_; intro v1 w1 ho1 hs1; rw [List.nil_append] at ho1; have HO1 := Lib.hid ho1; have HS1 := Lib.hid hs1; clear ho1 hs1)
    | (at_builtin; refine wpList_append_z (w0 := W) (lo := W.heap.size) rfl (.tmp 39) (.tmp 40) 23 3 rfl Tryz.underlying23 int_info v1 s.caps more rfl HO1.out _ rfl (rdz_val (RdA.keep (RdA.keep Hd.out h0.out) HS1.out) Hy.out) (by have := HC.out; have := Hy.out; have := Hy20.out; omega) HS1.out.size HS1.out (Nat.le_refl _) ?_; intro v2 w2 ho2 hs2; have HO2 := Lib.hid ho2; obtain ⟨A2, k2, rfl, -⟩ := own_rdz_n ho2 Hcn.out; replace h0 := Lib.hid (Stp.trans h0.out hs2); replace HB := Lib.hid (HB.out.keep hs2 HB.out.lt); replace HX := Lib.hid (HX.out.keep hs2 HX.out.lt); have fx := HX.out.free 2; clear ho2 hs2 q0 q1 q2 x0 x1 x2; obtain ⟨q0, q1, q2⟩ := set_cells3 HB.out; obtain ⟨x0, x1, x2⟩ := set_cells3 HX.out))
  have y1 := HX.out.put 2 (.slice A2 cn k2)
  rw [show (scells s A k).setIfInBounds 2 (.slice A2 cn k2) = scells x A2 k2 by rw [← Hcn.out, ← Hx.out]; rfl] at y1
  have y2 := HB.out.far (p := ⟨gx, 2, none⟩) (by show w.heap.size ≠ gx; omega) (.slice A2 cn k2)
  have y3 := set_stp h0.out (show w.heap.size ≤ gx by omega) 2 (.slice A2 cn k2)
  have y4 := own_set HO2.out (p := ⟨gx, 2, none⟩) (by show gx < W.heap.size; have := HgW.out; omega) (.slice A2 cn k2)
  clear q0 q1 q2 x0 x1 x2 fx HO1 HS1 HO2
  generalize w2.setCell ⟨gx, 2, none⟩ (.slice A2 cn k2) = W3 at y1 y2 y3 y4 ⊢
  obtain ⟨A', k', e', hz'⟩ := own_rdz_n y4 Hcn.out
  rw [Value.slice.injEq] at e'
  obtain ⟨rfl, -, rfl⟩ := e'
  rw [show s.caps ++ more = x.caps by rw [← Hx.out]] at hz'
  replace HX := Lib.hid y1
  replace HB := Lib.hid y2
  replace h0 := Lib.hid y3
  have HZ3 : Hid (RdZ W3 A2 k2 x.caps) := Lib.hid hz'
  clear y1 y2 y3 y4 hz'
  obtain ⟨q0, q1, q2⟩ := set_cells3 HB.out
  obtain ⟨x0, x1, x2⟩ := set_cells3 HX.out
  cases mx
  · go_wp2_with (go_at_call 21; (refine (HI.out.may x A2 k2 _ rfl Hxs.out false Hmx.out _ HZ3.out (HI.out.keep HT.out h0.out)).mono ?_); rintro e wn ⟨rfl, hs⟩; replace h0 := Lib.hid (Stp.trans h0.out hs); replace HB := Lib.hid (HB.out.keep hs HB.out.lt); replace HX := Lib.hid (HX.out.keep hs HX.out.lt); replace HZ3 := Lib.hid (RdA.keep HZ3.out hs); clear q0 q1 q2 x0 x1 x2; clear hs; obtain ⟨q0, q1, q2⟩ := set_cells3 HB.out; obtain ⟨x0, x1, x2⟩ := set_cells3 HX.out)
    go_ret
    exact ⟨rfl, h0.out⟩
  · obtain ⟨f1, f2, f3, f4⟩ := more_facts (s := s) (x := x) (by rw [← Hx.out]) (by rw [← Hx.out]) (by rw [← Hx.out]) Hmx.out HP.out HRq.out
    rw [Hzp.out, Hzr.out] at f1 f2
    rw [Hzp.out] at f4
    obtain ⟨e0, k0⟩ : ∃ b, (E == 0) = b := ⟨_, rfl⟩
    obtain ⟨e1, k1⟩ : ∃ b, (E != 14) = b := ⟨_, rfl⟩
    have key : (e0 = false ∧ e1 = false) ∨ (e0 = false ∧ e1 = true ∧ (F != E) = false) ∨ (e0 = true ∧ e1 = true ∧ (F != E) = false ∧ ((zr : Int) != (zp : Int)) = false) := by
      by_cases h : E = 14
      · exact .inl ⟨by rw [← k0, h]; rfl, by rw [← k1, h]; rfl⟩
      · by_cases h2 : E = 0
        · exact .inr (.inr ⟨by rw [← k0, h2]; rfl, by rw [← k1]; simp [h], by rw [f3 h]; simp, by rw [f2 h2]; simp⟩)
        · exact .inr (.inl ⟨by rw [← k0]; simp [h2], by rw [← k1]; simp [h], by rw [f3 h]; simp⟩)
    have hP12 := split_few HP.out
    have hR12 := split_few HRq.out
    have F4 := Lib.hid f4
    have HPs : Hid (∀ v ∈ P, v.length < 9223372036854775808) := Lib.hid fun v hv => by have := split_small HP.out v hv; omega
    have HRs : Hid (∀ v ∈ R.take zp, v.length < 9223372036854775808) := Lib.hid fun v hv => by have := split_small HRq.out v (List.mem_of_mem_take hv); omega
    have Hrt : Hid ((R.take zp).length = zp) := Lib.hid (by rw [List.length_take, Hzr.out]; omega)
    have Hzp9 : Hid (zp < 9223372036854775808) := Lib.hid (by rw [Hzp.out] at hP12; omega)
    have g1 : zp ≤ zr := f1
    have g3 : zr ≤ 12 := by rw [Hzr.out] at hR12; exact hR12
    clear f1 f2 f3 f4 hP12 hR12
    go_upto_region 12 with (first
      | (go_at_call 21; (refine (HI.out.may x A2 k2 _ rfl Hxs.out true Hmx.out _ HZ3.out (HI.out.keep HT.out h0.out)).mono ?_); rintro e wn ⟨rfl, hs⟩; replace h0 := Lib.hid (Stp.trans h0.out hs); replace HB := Lib.hid (HB.out.keep hs HB.out.lt); replace HX := Lib.hid (HX.out.keep hs HX.out.lt); replace HZ3 := Lib.hid (RdA.keep HZ3.out hs); clear q0 q1 q2 x0 x1 x2; clear hs; obtain ⟨q0, q1, q2⟩ := set_cells3 HB.out; obtain ⟨x0, x1, x2⟩ := set_cells3 HX.out)
      | (go_at_call 14; (with_reducible refine (HI.out.split t m Hm.out Hm3.out Hn.out s A k _ rfl Hs.out P E HP.out zp Hzp.out T ct _ (Ht.out.keep h0.out) (RdA.keep Ha.out h0.out) (HI.out.keep HT.out h0.out)).mono ?_); rintro e wa ⟨B1, d1, rfl, hr, hs⟩; replace h0 := Lib.hid (Stp.trans h0.out hs); replace HB := Lib.hid (HB.out.keep hs HB.out.lt); replace HX := Lib.hid (HX.out.keep hs HX.out.lt); have HR1 := Lib.hid hr; replace HZ3 := Lib.hid (RdA.keep HZ3.out hs); clear hr; clear q0 q1 q2 x0 x1 x2; clear hs; obtain ⟨q0, q1, q2⟩ := set_cells3 HB.out; obtain ⟨x0, x1, x2⟩ := set_cells3 HX.out)
      | (go_at_call 14; (with_reducible refine (HI.out.split t m Hm.out Hm3.out Hn.out x A2 k2 _ rfl Hxs.out R F HRq.out zr Hzr.out T ct _ (Ht.out.keep h0.out) HZ3.out (HI.out.keep HT.out h0.out)).mono ?_); rintro e wb ⟨B2, d2, rfl, hr, hs⟩; replace h0 := Lib.hid (Stp.trans h0.out hs); replace HB := Lib.hid (HB.out.keep hs HB.out.lt); replace HX := Lib.hid (HX.out.keep hs HX.out.lt); have HR2 := Lib.hid hr; replace HR1 := Lib.hid (HR1.out.keep hs); clear hr; clear q0 q1 q2 x0 x1 x2; clear hs; obtain ⟨q0, q1, q2⟩ := set_cells3 HB.out; obtain ⟨x0, x1, x2⟩ := set_cells3 HX.out))
    have hd2 : zp ≤ d2 := by have := RdV.le HR2.out; rw [Hzr.out] at this; omega
    obtain ⟨B3, sl, hB3⟩ := slice3 B2 zr d2 zp hd2
    have HT3 := Lib.hid (hB3 _ _ HR2.out)
    clear q0 q1 q2 x0 x1 x2 hB3
    rcases key with ⟨rfl, rfl⟩ | ⟨rfl, rfl, g4⟩ | ⟨rfl, rfl, g4, g5⟩
    all_goals
      go_wp2_with (go_at_call 24; (with_reducible refine (HI.out.same P (R.take zp) zp zp Hzp.out Hrt.out Hzp9.out Hzp9.out HPs.out HRs.out true F4.out _ _ _ _ _ HR1.out HT3.out).mono ?_); rintro e wc ⟨rfl, hs⟩; replace h0 := Lib.hid (Stp.trans h0.out hs); clear hs)
      go_ret
      exact ⟨rfl, h0.out⟩
theorem more_walk {Tb : World → Prop} (I : VolI Tb) (t : List Nd) (m : Nat) (hm : t.length = m) (hml : m < 9223372036854775808) (hn : ∀ n ∈ t, SmallN n) (s : Sett) (hs : SmallS s) (T A : Option Addr) (ct k : Nat) (w : World) (ht : RdN w T ct t) (ha : RdZ w A k s.caps) (htab : Tb w) (more : List Int) (y : Nat) (hy : more.length = y) (hmb : ∀ z ∈ more, -9223372036854775808 ≤ z ∧ z < 9223372036854775808) (D : Option Addr) (kd : Nat) (hd : RdZ w D kd more) :
    Calls Tryz.prog 6 #[.slice T m ct, sv s A k, .slice D y kd] w fun e w' => e = .returned (.bool true) ∧ Stp w w' := by
  by_cases h : fewT t = false ∨ fewS s = false ∨ 20 < y
  · exact more_out I t m hm hml hn s hs T A ct k w ht ha htab more y hy hmb D kd hd h
  · rw [not_or, not_or] at h
    exact more_in I t m hm hml hn s hs T A ct k w ht ha htab more y hy hmb D kd hd (by simpa using h.1) (by simpa using h.2.1) (by omega)
end Go.Proofs.YtopihahjjcpnpaaGreatDoor.Vol
