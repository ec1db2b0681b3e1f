/-
  The law VolumeSmall, walked over the contracts: no statement is proved here.
-/
import Derived.Test.YtopihahjjcpnpaaGreatDoorVolZ
namespace Go.Proofs.YtopihahjjcpnpaaGreatDoor.Vol
open Go.Sort Go.RowKit Go.Proofs.YtopihahjjcpnpaaGreatDoor.Str Go.Proofs.YtopihahjjcpnpaaGreatDoor.Base Go.Proofs.YtopihahjjcpnpaaGreatDoor.Node Go.Proofs.YtopihahjjcpnpaaGreatDoor.Head Go.Proofs.YtopihahjjcpnpaaGreatDoor.Long Go.Proofs.YtopihahjjcpnpaaGreatDoor.Entry Go.Proofs.YtopihahjjcpnpaaGreatDoor.LabelM Go.Proofs.YtopihahjjcpnpaaGreatDoor.ContM Go.Proofs.YtopihahjjcpnpaaGreatDoor.Stream Go.Proofs.YtopihahjjcpnpaaGreatDoor.VolM
open Go.Proofs.YtopihahjjcpnpaaGreatDoor.Tree (oneB mayT fewT)
set_option linter.unusedVariables false

set_option maxRecDepth 100000 in
set_option maxHeartbeats 4000000 in
theorem small_out {Tb : World → Prop} (I : VolI Tb) (t : List Nd) (m : Nat) (hm : t.length = m) (hml : m < 9223372036854775808) (hn : ∀ n ∈ t, SmallN n) (s : Sett) (hs : SmallS s) (T A : Option Addr) (ct k : Nat) (w : World) (ht : RdN w T ct t) (ha : RdZ w A k s.caps) (htab : Tb w) (hout : fewT t = false ∨ fewS s = false ∨ mayS s = false ∨ 11 < s.caps.length) :
    Calls Tryz.prog 9 #[.slice T m ct, sv s A k] w fun e w' => e = .returned (.bool true) ∧ Stp w w' := by
  have h0 := Lib.hid (Stp.alloc (Stp.refl w) (.cells (scells s A k) 25))
  have HB := Lib.hid (Blk.new w 25 (scells s A k))
  have Ht := Lib.hid ht
  have Ha : Hid (RdZ w A k s.caps) := Lib.hid ha
  have HT := Lib.hid htab
  have HI := Lib.hid I
  have Hm := Lib.hid hm
  have Hml := Lib.hid hml
  have Hn := Lib.hid hn
  have Hs := Lib.hid hs
  obtain ⟨q0, q1, q2⟩ := set_cells3 HB.out
  clear ht ha htab I hm hml hn hs
  obtain ⟨b1, f1⟩ : ∃ b, fewT t = b := ⟨_, rfl⟩
  obtain ⟨b2, f2⟩ : ∃ b, fewS s = b := ⟨_, rfl⟩
  have F1 := Lib.hid f1
  obtain ⟨b3, f3⟩ : ∃ b, mayS s = b := ⟨_, rfl⟩
  have F2 := Lib.hid f2
  have F3 := Lib.hid f3
  have key : b1 = false ∨ (b1 = true ∧ b2 = false) ∨ (b1 = true ∧ b2 = true ∧ b3 = false) ∨ (b1 = true ∧ b2 = true ∧ b3 = true ∧ 11 < s.caps.length) := by
    rw [f1, f2, f3] at hout
    cases b1 <;> cases b2 <;> cases b3 <;> simp_all
  clear f1 f2 f3 hout
  rcases key with rfl | ⟨rfl, rfl⟩ | ⟨rfl, rfl, rfl⟩ | ⟨rfl, rfl, rfl, y11⟩
  all_goals
    go_enter Tryz.func9, Tryz.ntmps9
    go_wp2_with (first
      | (go_at_call 11; (refine (awake_s HI.out _ (HI.out.keep HT.out h0.out)).mono ?_); rintro e wn ⟨rfl, hs⟩; replace h0 := Lib.hid (Stp.trans h0.out hs); replace HB := Lib.hid (HB.out.keep hs HB.out.lt); clear q0 q1 q2; clear hs; obtain ⟨q0, q1, q2⟩ := set_cells3 HB.out)
      | (go_at_call 12; (with_reducible refine (fewt_v t m Hm.out Hml.out _ F1.out T ct _ (Ht.out.keep h0.out)).mono ?_); rintro e wn ⟨rfl, hs⟩; replace h0 := Lib.hid (Stp.trans h0.out hs); replace HB := Lib.hid (HB.out.keep hs HB.out.lt); clear q0 q1 q2; clear hs; obtain ⟨q0, q1, q2⟩ := set_cells3 HB.out)
      | (go_at_call 13; (refine (fews_v s A k _ rfl _ F2.out _).mono ?_); rintro e wn ⟨rfl, hs⟩; replace h0 := Lib.hid (Stp.trans h0.out hs); replace HB := Lib.hid (HB.out.keep hs HB.out.lt); clear q0 q1 q2; clear hs; obtain ⟨q0, q1, q2⟩ := set_cells3 HB.out)
      | (go_at_call 21; (refine (HI.out.may s A k _ rfl Hs.out _ F3.out _ (RdA.keep Ha.out h0.out) (HI.out.keep HT.out h0.out)).mono ?_); rintro e wn ⟨rfl, hs⟩; replace h0 := Lib.hid (Stp.trans h0.out hs); replace HB := Lib.hid (HB.out.keep hs HB.out.lt); clear q0 q1 q2; clear hs; obtain ⟨q0, q1, q2⟩ := set_cells3 HB.out))
    go_ret
    exact ⟨rfl, h0.out⟩
set_option maxRecDepth 100000 in
set_option maxHeartbeats 8000000 in
theorem small_in {Tb : World → Prop} (I : VolI Tb) (t : List Nd) (m : Nat) (hm : t.length = m) (hml : m < 9223372036854775808) (hn : ∀ n ∈ t, SmallN n) (s : Sett) (hs : SmallS s) (T A : Option Addr) (ct k : Nat) (w : World) (ht : RdN w T ct t) (ha : RdZ w A k s.caps) (htab : Tb w) (f1 : fewT t = true) (f2 : fewS s = true) (f3 : mayS s = true) (y11 : s.caps.length ≤ 11) :
    Calls Tryz.prog 9 #[.slice T m ct, sv s A k] w fun e w' => e = .returned (.bool true) ∧ Stp w w' := by
  have h0 := Lib.hid (Stp.alloc (Stp.refl w) (.cells (scells s A k) 25))
  have HB := Lib.hid (Blk.new w 25 (scells s A k))
  have Ht := Lib.hid ht
  have Ha : Hid (RdZ w A k s.caps) := Lib.hid ha
  have HT := Lib.hid htab
  have HI := Lib.hid I
  have Hm := Lib.hid hm
  have Hml := Lib.hid hml
  have Hn := Lib.hid hn
  have Hs := Lib.hid hs
  obtain ⟨q0, q1, q2⟩ := set_cells3 HB.out
  clear ht ha htab I hm hml hn hs
  have F1 := Lib.hid f1
  have F2 := Lib.hid f2
  have Hm3 : Hid (m ≤ 1000) := Lib.hid (by have := (Tree.fewT_iff.1 f1).1; rw [Hm.out] at this; omega)
  have hcl := (fewS_iff.1 f2).2
  have HC := Lib.hid hcl
  have F3 := Lib.hid f3
  obtain ⟨x, hx⟩ : ∃ x, (⟨s.label, s.b, s.caps ++ [0]⟩ : Sett) = x := ⟨_, rfl⟩
  obtain ⟨y, hy⟩ : ∃ x, (⟨s.label, s.b, []⟩ : Sett) = x := ⟨_, rfl⟩
  have hxs : SmallS x := by
    rw [← hx]
    exact ⟨Hs.out.label, Hs.out.low, Hs.out.high, by show (s.caps ++ [0]).length < _; rw [List.length_append, List.length_singleton]; omega, fun z hz => (List.mem_append.1 hz).elim (Hs.out.each z) (fun h => by rw [List.mem_singleton.1 h]; omega)⟩
  have hys : SmallS y := by
    rw [← hy]
    exact ⟨Hs.out.label, Hs.out.low, Hs.out.high, by show ([] : List Int).length < _; rw [List.length_nil]; omega, fun z hz => by cases hz⟩
  have hmx : mayS x = true := by
    obtain ⟨x1, x2, x3, x4, x5⟩ := mayS_iff.1 f3
    rw [← hx]
    exact mayS_iff.2 ⟨x1, x2, x3, by show (s.caps ++ [0]).length ≤ _; rw [List.length_append, List.length_singleton]; omega, fun z hz => (List.mem_append.1 hz).elim (x5 z) (fun h => by rw [List.mem_singleton.1 h]; omega)⟩
  obtain ⟨P, E, hP⟩ : ∃ P E, splitV t s = (P, E) := ⟨_, _, rfl⟩
  obtain ⟨R, F, hR⟩ : ∃ R F, splitV t x = (R, F) := ⟨_, _, rfl⟩
  obtain ⟨U, G, hU⟩ : ∃ R F, splitV t y = (R, F) := ⟨_, _, rfl⟩
  obtain ⟨zp, hzp⟩ : ∃ z, P.length = z := ⟨_, rfl⟩
  obtain ⟨zr, hzr⟩ : ∃ z, R.length = z := ⟨_, rfl⟩
  obtain ⟨zu, hzu⟩ : ∃ z, U.length = z := ⟨_, rfl⟩
  obtain ⟨cn, hcn⟩ : ∃ n, (s.caps ++ [0]).length = n := ⟨_, rfl⟩
  have HP := Lib.hid hP
  have Hzp := Lib.hid hzp
  by_cases h14 : E = 14
  · subst h14
    have htt : mayT t = true := by
      cases h : mayT t
      · rw [split_no (by rw [h]; rfl)] at hP
        cases hP
      · rfl
    obtain ⟨rfl, e2⟩ := small_facts (by rw [← hx]) (by rw [← hx]) (by rw [← hx]) f3 hmx hP hR
    obtain ⟨rfl, e3⟩ := none_facts (s := s) (by rw [← hy]) (by rw [← hy]) (by rw [← hy]) f3 htt hU
    obtain rfl : zu = 0 := by rw [← hzu, e3]; rfl
    have hP12 := split_few hP
    have hR12 := split_few hR
    have HPs : Hid (∀ v ∈ P, v.length < 9223372036854775808) := Lib.hid fun v hv => by have := split_small hP v hv; omega
    have HRs : Hid (∀ v ∈ R, v.length < 9223372036854775808) := Lib.hid fun v hv => by have := split_small hR v hv; omega
    have Hzp9 : Hid (zp < 9223372036854775808) := Lib.hid (by rw [hzp] at hP12; omega)
    have Hzr9 : Hid (zr < 9223372036854775808) := Lib.hid (by rw [hzr] at hR12; omega)
    have E2 := Lib.hid e2
    have Hcn := Lib.hid hcn
    have Hx := Lib.hid hx
    have Hxs := Lib.hid hxs
    have HyE := Lib.hid hy
    have Hys := Lib.hid hys
    have HRq := Lib.hid hR
    have HUq := Lib.hid hU
    have Hzr := Lib.hid hzr
    have Hzu := Lib.hid hzu
    clear f1 f2 f3 hcl hx hy hxs hys hmx hP hR hU hzp hzr hzu hcn e2 e3 htt hP12 hR12
    go_enter Tryz.func9, Tryz.ntmps9
    go_upto_region 10 with (first
      | (go_at_call 11; (refine (awake_s HI.out _ (HI.out.keep HT.out h0.out)).mono ?_); rintro e wn ⟨rfl, hs⟩; replace h0 := Lib.hid (Stp.trans h0.out hs); replace HB := Lib.hid (HB.out.keep hs HB.out.lt); clear q0 q1 q2; clear hs; obtain ⟨q0, q1, q2⟩ := set_cells3 HB.out)
      | (go_at_call 12; (with_reducible refine (fewt_v t m Hm.out Hml.out _ F1.out T ct _ (Ht.out.keep h0.out)).mono ?_); rintro e wn ⟨rfl, hs⟩; replace h0 := Lib.hid (Stp.trans h0.out hs); replace HB := Lib.hid (HB.out.keep hs HB.out.lt); clear q0 q1 q2; clear hs; obtain ⟨q0, q1, q2⟩ := set_cells3 HB.out)
      | (go_at_call 13; (refine (fews_v s A k _ rfl _ F2.out _).mono ?_); rintro e wn ⟨rfl, hs⟩; replace h0 := Lib.hid (Stp.trans h0.out hs); replace HB := Lib.hid (HB.out.keep hs HB.out.lt); clear q0 q1 q2; clear hs; obtain ⟨q0, q1, q2⟩ := set_cells3 HB.out)
      | (go_at_call 21; (refine (HI.out.may s A k _ rfl Hs.out true F3.out _ (RdA.keep Ha.out h0.out) (HI.out.keep HT.out h0.out)).mono ?_); rintro e wn ⟨rfl, hs⟩; replace h0 := Lib.hid (Stp.trans h0.out hs); replace HB := Lib.hid (HB.out.keep hs HB.out.lt); clear q0 q1 q2; clear hs; obtain ⟨q0, q1, q2⟩ := set_cells3 HB.out)
      | (go_at_call 14; (refine (HI.out.split t m Hm.out Hm3.out Hn.out s A k _ rfl Hs.out P 14 HP.out zp Hzp.out T ct _ (Ht.out.keep h0.out) (RdA.keep Ha.out h0.out) (HI.out.keep HT.out h0.out)).mono ?_); rintro e wn ⟨B1, d1, rfl, hr, hs⟩; replace h0 := Lib.hid (Stp.trans h0.out hs); replace HB := Lib.hid (HB.out.keep hs HB.out.lt); have HR1 := Lib.hid hr; clear hr; clear q0 q1 q2; clear hs; obtain ⟨q0, q1, q2⟩ := set_cells3 HB.out))
    change Code.wp _ _ _ _ (wn.alloc (.cells (scells s A k) 25))
    have hX := Blk.new wn 25 (scells s A k)
    have hst := Stp.alloc (Stp.refl wn) (.cells (scells s A k) 25)
    have hge := HB.out.lt
    have hgW : (wn.alloc (.cells (scells s A k) 25)).heap.size = wn.heap.size + 1 := World.size_alloc _ _
    replace h0 := Lib.hid (Stp.trans h0.out hst)
    replace HB := Lib.hid (HB.out.keep hst HB.out.lt)
    obtain ⟨W, hW⟩ : ∃ W, wn.alloc (.cells (scells s A k) 25) = W := ⟨_, rfl⟩
    obtain ⟨gx, hgx⟩ : ∃ g, wn.heap.size = g := ⟨_, rfl⟩
    rw [hW] at hX h0 HB hgW hst ⊢
    rw [hgx] at hX hge hgW ⊢
    have HX := Lib.hid hX
    have HgW := Lib.hid hgW
    have Hwn := Lib.hid hst
    have HgN := Lib.hid hgx
    clear hst hW hgx hX hgW q0 q1 q2
    obtain ⟨q0, q1, q2⟩ := set_cells3 HB.out
    obtain ⟨x0, x1, x2⟩ := set_cells3 HX.out
    go_upto_region 11 with (first
      | (at_builtin; refine wpList_append_z (w0 := W) (lo := W.heap.size) rfl (.const (.slice none 0 0)) (.tmp 60) 23 3 rfl Tryz.underlying23 int_info _ [] s.caps rfl (Base.Own.nil _ _ _) _ rfl (rdz_val (RdA.keep Ha.out h0.out) rfl) (by have := HC.out; rw [List.length_nil]; omega) (Nat.le_refl _) (Stp.refl W) (Nat.le_refl _) ?_; intro v1 w1 ho1 hs1; rw [List.nil_append] at ho1; have HO1 := Lib.hid ho1; have HS1 := Lib.hid hs1; clear ho1 hs1)
      | (at_builtin; refine wpList_append_z (w0 := W) (lo := W.heap.size) rfl (.tmp 61) (.tmp 62) 23 3 rfl Tryz.underlying23 int_info v1 s.caps [0] rfl (HO1.out.keep (Stp.alloc (Stp.refl _) (.cells #[.int .i64 0] 3))) _ rfl (rdz_val (lit_z w1 0 3) rfl) (by have := HC.out; rw [List.length_singleton]; omega) (Stp.alloc HS1.out _).size (Stp.alloc HS1.out _) (Nat.le_refl _) ?_; intro v2 w2 ho2 hs2; have HO2 := Lib.hid ho2; obtain ⟨A2, k2, rfl, -⟩ := own_rdz_n ho2 Hcn.out; replace h0 := Lib.hid (Stp.trans h0.out hs2); replace Hwn := Lib.hid (Stp.trans Hwn.out hs2); replace HB := Lib.hid (HB.out.keep hs2 HB.out.lt); replace HX := Lib.hid (HX.out.keep hs2 HX.out.lt); have fx := HX.out.free 2; clear ho2 hs2 q0 q1 q2 x0 x1 x2; obtain ⟨q0, q1, q2⟩ := set_cells3 HB.out; obtain ⟨x0, x1, x2⟩ := set_cells3 HX.out))
    have y1 := HX.out.put 2 (.slice A2 cn k2)
    rw [show (scells s A k).setIfInBounds 2 (.slice A2 cn k2) = scells x A2 k2 by rw [← Hcn.out, ← Hx.out]; rfl] at y1
    have y2 := HB.out.far (p := ⟨gx, 2, none⟩) (by show w.heap.size ≠ gx; omega) (.slice A2 cn k2)
    have y3 := set_stp h0.out (show w.heap.size ≤ gx by omega) 2 (.slice A2 cn k2)
    have y4 := own_set HO2.out (p := ⟨gx, 2, none⟩) (by show gx < W.heap.size; have := HgW.out; omega) (.slice A2 cn k2)
    have y5 := set_stp Hwn.out (show wn.heap.size ≤ gx by have := HgN.out; omega) 2 (.slice A2 cn k2)
    clear q0 q1 q2 x0 x1 x2 fx HO1 HS1 HO2
    generalize w2.setCell ⟨gx, 2, none⟩ (.slice A2 cn k2) = W3 at y1 y2 y3 y4 y5 ⊢
    obtain ⟨A', k', e', hz'⟩ := own_rdz_n y4 Hcn.out
    rw [Value.slice.injEq] at e'
    obtain ⟨rfl, -, rfl⟩ := e'
    rw [show s.caps ++ [0] = x.caps by rw [← Hx.out]] at hz'
    replace HX := Lib.hid y1
    replace HB := Lib.hid y2
    replace h0 := Lib.hid y3
    have HZ3 : Hid (RdZ W3 A2 k2 x.caps) := Lib.hid hz'
    replace Hwn := Lib.hid y5
    replace HR1 := Lib.hid (HR1.out.keep y5)
    clear y1 y2 y3 y4 y5 hz'
    obtain ⟨q0, q1, q2⟩ := set_cells3 HB.out
    obtain ⟨x0, x1, x2⟩ := set_cells3 HX.out
    go_upto_region 14 with (go_at_call 14; (refine (HI.out.split t m Hm.out Hm3.out Hn.out x A2 k2 _ rfl Hxs.out R 13 HRq.out zr Hzr.out T ct _ (Ht.out.keep h0.out) HZ3.out (HI.out.keep HT.out h0.out)).mono ?_); rintro e wb ⟨B2, d2, rfl, hr, hs⟩; replace h0 := Lib.hid (Stp.trans h0.out hs); replace HB := Lib.hid (HB.out.keep hs HB.out.lt); replace HX := Lib.hid (HX.out.keep hs HX.out.lt); have HR2 := Lib.hid hr; replace HR1 := Lib.hid (HR1.out.keep hs); clear hr; clear q0 q1 q2 x0 x1 x2; clear hs; obtain ⟨q0, q1, q2⟩ := set_cells3 HB.out; obtain ⟨x0, x1, x2⟩ := set_cells3 HX.out)
    change Code.wp _ _ _ _ (wb.alloc (.cells #[.string ⟨s.label.toArray⟩, .int .i64 s.b, .slice none 0 0] 25))
    have hY := Blk.new wb 25 #[.string ⟨s.label.toArray⟩, .int .i64 s.b, .slice none 0 0]
    rw [show (#[.string ⟨s.label.toArray⟩, .int .i64 s.b, .slice none 0 0] : Array Value) = scells y none 0 by rw [← HyE.out]; rfl] at hY ⊢
    have hst := Stp.alloc (Stp.refl wb) (.cells (scells y none 0) 25)
    replace h0 := Lib.hid (Stp.trans h0.out hst)
    replace HR1 := Lib.hid (HR1.out.keep hst)
    replace HR2 := Lib.hid (HR2.out.keep hst)
    obtain ⟨W5, hW⟩ : ∃ W, wb.alloc (.cells (scells y none 0) 25) = W := ⟨_, rfl⟩
    obtain ⟨gy, hgy⟩ : ∃ g, wb.heap.size = g := ⟨_, rfl⟩
    rw [hW] at hY h0 HR1 HR2 ⊢
    rw [hgy] at hY ⊢
    have HY := Lib.hid hY
    have HZY : Hid (RdZ W5 none 0 y.caps) := Lib.hid (by rw [← HyE.out]; exact RdA.nil W5)
    clear hst hW hgy hY q0 q1 q2 x0 x1 x2
    obtain ⟨y0, y1, y2⟩ := set_cells3 HY.out
    go_wp2_with (first
      | (go_at_call 14; refine (HI.out.split t m Hm.out Hm3.out Hn.out y none 0 _ rfl Hys.out U 14 HUq.out 0 Hzu.out T ct _ (Ht.out.keep h0.out) HZY.out (HI.out.keep HT.out h0.out)).mono ?_; rintro e wc ⟨B4, d4, rfl, -, hs⟩; replace h0 := Lib.hid (Stp.trans h0.out hs); replace HR1 := Lib.hid (HR1.out.keep hs); replace HR2 := Lib.hid (HR2.out.keep hs); clear hs y0 y1 y2)
      | (go_at_call 24; (with_reducible refine (HI.out.same R P zr zp Hzr.out Hzp.out Hzr9.out Hzp9.out HRs.out HPs.out true E2.out _ _ _ _ _ HR2.out HR1.out).mono ?_); rintro e wd ⟨rfl, hs⟩; replace h0 := Lib.hid (Stp.trans h0.out hs); clear hs))
    go_ret
    exact ⟨rfl, h0.out⟩
  · have HE := Lib.hid h14
    have g1 : (E != 14) = true := by simp [h14]
    have key : (E != 0) = true ∨ ((E != 0) = false ∧ 1 ≤ zp) := by
      by_cases h : E = 0
      · subst h
        exact .inr ⟨rfl, by rw [← hzp]; exact split_some hP⟩
      · exact .inl (by simp [h])
    clear f1 f2 f3 hcl hx hy hxs hys hmx hP hR hU hzp hzr hzu hcn h14
    rcases key with g2 | ⟨g2, g3⟩
    all_goals
      go_enter Tryz.func9, Tryz.ntmps9
      go_wp2_with (first
        | (go_at_call 11; (refine (awake_s HI.out _ (HI.out.keep HT.out h0.out)).mono ?_); rintro e wn ⟨rfl, hs⟩; replace h0 := Lib.hid (Stp.trans h0.out hs); replace HB := Lib.hid (HB.out.keep hs HB.out.lt); clear q0 q1 q2; clear hs; obtain ⟨q0, q1, q2⟩ := set_cells3 HB.out)
        | (go_at_call 12; (with_reducible refine (fewt_v t m Hm.out Hml.out _ F1.out T ct _ (Ht.out.keep h0.out)).mono ?_); rintro e wn ⟨rfl, hs⟩; replace h0 := Lib.hid (Stp.trans h0.out hs); replace HB := Lib.hid (HB.out.keep hs HB.out.lt); clear q0 q1 q2; clear hs; obtain ⟨q0, q1, q2⟩ := set_cells3 HB.out)
        | (go_at_call 13; (refine (fews_v s A k _ rfl _ F2.out _).mono ?_); rintro e wn ⟨rfl, hs⟩; replace h0 := Lib.hid (Stp.trans h0.out hs); replace HB := Lib.hid (HB.out.keep hs HB.out.lt); clear q0 q1 q2; clear hs; obtain ⟨q0, q1, q2⟩ := set_cells3 HB.out)
        | (go_at_call 21; (refine (HI.out.may s A k _ rfl Hs.out true F3.out _ (RdA.keep Ha.out h0.out) (HI.out.keep HT.out h0.out)).mono ?_); rintro e wn ⟨rfl, hs⟩; replace h0 := Lib.hid (Stp.trans h0.out hs); replace HB := Lib.hid (HB.out.keep hs HB.out.lt); clear q0 q1 q2; clear hs; obtain ⟨q0, q1, q2⟩ := set_cells3 HB.out)
        | (go_at_call 14; (refine (HI.out.split t m Hm.out Hm3.out Hn.out s A k _ rfl Hs.out P E HP.out zp Hzp.out T ct _ (Ht.out.keep h0.out) (RdA.keep Ha.out h0.out) (HI.out.keep HT.out h0.out)).mono ?_); rintro e wn ⟨B1, d1, rfl, hr, hs⟩; replace h0 := Lib.hid (Stp.trans h0.out hs); replace HB := Lib.hid (HB.out.keep hs HB.out.lt); have HR1 := Lib.hid hr; clear hr; clear q0 q1 q2; clear hs; obtain ⟨q0, q1, q2⟩ := set_cells3 HB.out))
      go_ret
      first | exact ⟨rfl, h0.out⟩ | exact ⟨by simp; omega, h0.out⟩
theorem small_walk {Tb : World → Prop} (I : VolI Tb) (t : List Nd) (m : Nat) (hm : t.length = m) (hml : m < 9223372036854775808) (hn : ∀ n ∈ t, SmallN n) (s : Sett) (hs : SmallS s) (T A : Option Addr) (ct k : Nat) (w : World) (ht : RdN w T ct t) (ha : RdZ w A k s.caps) (htab : Tb w) :
    Calls Tryz.prog 9 #[.slice T m ct, sv s A k] w fun e w' => e = .returned (.bool true) ∧ Stp w w' := by
  by_cases h : fewT t = false ∨ fewS s = false ∨ mayS s = false ∨ 11 < s.caps.length
  · exact small_out I t m hm hml hn s hs T A ct k w ht ha htab h
  · rw [not_or, not_or, not_or] at h
    exact small_in I t m hm hml hn s hs T A ct k w ht ha htab (by simpa using h.1) (by simpa using h.2.1) (by simpa using h.2.2.1) (by omega)
end Go.Proofs.YtopihahjjcpnpaaGreatDoor.Vol
