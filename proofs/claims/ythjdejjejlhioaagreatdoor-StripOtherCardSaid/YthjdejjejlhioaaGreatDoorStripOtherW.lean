/-
  The law StripOther, walked over the contracts: no statement is proved here.
-/
import Derived.Test.YthjdejjejlhioaaGreatDoorStripI
import Derived.Deep.RegionWith
import Derived.Deep.RegionLaw
namespace Go.Proofs.YthjdejjejlhioaaGreatDoor.Strip
open Go.Sort Go.RowKit Go.Proofs.YthjdejjejlhioaaGreatDoor.Str Go.Proofs.YthjdejjejlhioaaGreatDoor.Base Go.Proofs.YthjdejjejlhioaaGreatDoor.Node Go.Proofs.YthjdejjejlhioaaGreatDoor.Head Go.Proofs.YthjdejjejlhioaaGreatDoor.Long Go.Proofs.YthjdejjejlhioaaGreatDoor.Entry Go.Proofs.YthjdejjejlhioaaGreatDoor.LabelM Go.Proofs.YthjdejjejlhioaaGreatDoor.ContM Go.Proofs.YthjdejjejlhioaaGreatDoor.Stream Go.Proofs.YthjdejjejlhioaaGreatDoor.VolM Go.Proofs.YthjdejjejlhioaaGreatDoor.Vol Go.Proofs.YthjdejjejlhioaaGreatDoor.StripM
open Go.Proofs.YthjdejjejlhioaaGreatDoor.Tree (oneB mayT fewT)
open Go.Proofs.YthjdejjejlhioaaGreatDoor.Parse (St zeroS phS runS)
set_option linter.unusedVariables false

set_option maxRecDepth 100000 in
set_option maxHeartbeats 4000000 in
theorem other_out {Tb : World → Prop} (I : StripI Tb) (t : List Nd) (m : Nat) (hm : t.length = m) (hml : m < 9223372036854775808) (hn : ∀ n ∈ t, SmallN n) (s : Sett) (hs : Vol.SmallS s) (T A : Option Addr) (ct k : Nat) (w : World) (ht : RdN w T ct t) (ha : RdZ w A k s.caps) (htab : Tb w) (kk ii : Int) (name : List UInt8) (hname : name.length ≤ 9223372036854775807) (hout : fewT t = false ∨ fewS s = false ∨ decide ((200 : Int) < (name.length : Int)) = true) :
    Calls Tryz.prog 5 #[.slice T m ct, Vol.sv s A k, .int .i64 kk, .int .i64 ii, .string ⟨name.toArray⟩] w fun e w' => e = .returned (.bool true) ∧ Stp w w' := by
  have h0 := Lib.hid (Stp.alloc (Stp.refl w) (.cells (scells s A k) 25))
  have HB := Lib.hid (Blk.new w 25 (scells s A k))
  have Ht := Lib.hid ht
  have Ha : Hid (RdZ w A k s.caps) := Lib.hid ha
  have HT := Lib.hid htab
  have HI := Lib.hid I
  have Hm := Lib.hid hm
  have Hml := Lib.hid hml
  have Hn := Lib.hid hn
  have Hs := Lib.hid hs
  obtain ⟨q0, q1, q2⟩ := set_cells3 HB.out
  clear ht ha htab I hm hml hn hs
  obtain ⟨b1, f1⟩ : ∃ b, fewT t = b := ⟨_, rfl⟩
  obtain ⟨b2, f2⟩ : ∃ b, fewS s = b := ⟨_, rfl⟩
  obtain ⟨b3, f3⟩ : ∃ b, decide ((200 : Int) < (name.length : Int)) = b := ⟨_, rfl⟩
  have F1 := Lib.hid f1
  have F2 := Lib.hid f2
  have key : b1 = false ∨ (b1 = true ∧ b2 = false) ∨ (b1 = true ∧ b2 = true ∧ b3 = true) := by
    rw [f1, f2, f3] at hout
    cases b1 <;> cases b2 <;> simp_all
  clear f1 f2 hout
  rcases key with rfl | ⟨rfl, rfl⟩ | ⟨rfl, rfl, rfl⟩
  all_goals
    go_enter Tryz.func5, Tryz.ntmps5
    go_wp2_with (first
        | (go_at_call 8; (refine (awake_s HI.out _ (HI.out.keep HT.out h0.out)).mono ?_); rintro e wn ⟨rfl, hs⟩; replace h0 := Lib.hid (Stp.trans h0.out hs); replace HB := Lib.hid (HB.out.keep hs HB.out.lt); clear hs; clear q0 q1 q2; obtain ⟨q0, q1, q2⟩ := set_cells3 HB.out)
        | (go_at_call 9; (with_reducible refine (fewt_v t m Hm.out Hml.out _ F1.out T ct _ (Ht.out.keep h0.out)).mono ?_); rintro e wn ⟨rfl, hs⟩; replace h0 := Lib.hid (Stp.trans h0.out hs); replace HB := Lib.hid (HB.out.keep hs HB.out.lt); clear hs; clear q0 q1 q2; obtain ⟨q0, q1, q2⟩ := set_cells3 HB.out)
        | (go_at_call 10; (refine (fews_v s A k _ rfl _ F2.out _).mono ?_); rintro e wn ⟨rfl, hs⟩; replace h0 := Lib.hid (Stp.trans h0.out hs); replace HB := Lib.hid (HB.out.keep hs HB.out.lt); clear hs; clear q0 q1 q2; obtain ⟨q0, q1, q2⟩ := set_cells3 HB.out))
    go_ret
    exact ⟨rfl, h0.out⟩
set_option maxRecDepth 100000 in
set_option maxHeartbeats 8000000 in
theorem other_in {Tb : World → Prop} (I : StripI Tb) (t : List Nd) (m : Nat) (hm : t.length = m) (hml : m < 9223372036854775808) (hn : ∀ n ∈ t, SmallN n) (s : Sett) (hs : Vol.SmallS s) (T A : Option Addr) (ct k : Nat) (w : World) (ht : RdN w T ct t) (ha : RdZ w A k s.caps) (htab : Tb w) (kk ii : Int) (name : List UInt8) (hname : name.length ≤ 9223372036854775807) (f1 : fewT t = true) (f2 : fewS s = true) (f3 : decide ((200 : Int) < (name.length : Int)) = false) :
    Calls Tryz.prog 5 #[.slice T m ct, Vol.sv s A k, .int .i64 kk, .int .i64 ii, .string ⟨name.toArray⟩] w fun e w' => e = .returned (.bool true) ∧ Stp w w' := by
  have h0 := Lib.hid (Stp.alloc (Stp.refl w) (.cells (scells s A k) 25))
  have HB := Lib.hid (Blk.new w 25 (scells s A k))
  have Ht := Lib.hid ht
  have Ha : Hid (RdZ w A k s.caps) := Lib.hid ha
  have HT := Lib.hid htab
  have HI := Lib.hid I
  have Hm := Lib.hid hm
  have Hml := Lib.hid hml
  have Hn := Lib.hid hn
  have Hs := Lib.hid hs
  obtain ⟨q0, q1, q2⟩ := set_cells3 HB.out
  clear ht ha htab I hm hml hn hs
  have F1 := Lib.hid f1
  have F2 := Lib.hid f2
  have Hm3 : Hid (m ≤ 1000) := Lib.hid (by have := (Tree.fewT_iff.1 f1).1; rw [Hm.out] at this; omega)
  obtain ⟨Q, E, hQ⟩ : ∃ Q E, splitV t s = (Q, E) := ⟨_, _, rfl⟩
  obtain ⟨z, hz⟩ : ∃ z, Q.length = z := ⟨_, rfl⟩
  have HQ := Lib.hid hQ
  have Hz := Lib.hid hz
  have hz12 : z ≤ 12 := by rw [← hz]; exact split_few hQ
  have Hz12 := Lib.hid hz12
  have hlb := Hs.out.label
  obtain ⟨c1, x1⟩ : ∃ b, (E == 1) = b := ⟨_, rfl⟩
  obtain ⟨c2, x2⟩ : ∃ b, decide (kk < 0) = b := ⟨_, rfl⟩
  obtain ⟨c3, x3⟩ : ∃ b, decide ((z : Int) ≤ kk) = b := ⟨_, rfl⟩
  obtain ⟨c4, x4⟩ : ∃ b, decide (ii < 0) = b := ⟨_, rfl⟩
  obtain ⟨c5, x5⟩ : ∃ b, decide ((z : Int) ≤ ii) = b := ⟨_, rfl⟩
  have key : (c1 = true ∨ (c1 = false ∧ c2 = true) ∨ (c1 = false ∧ c2 = false ∧ c3 = true) ∨ (c1 = false ∧ c2 = false ∧ c3 = false ∧ c4 = true) ∨ (c1 = false ∧ c2 = false ∧ c3 = false ∧ c4 = false ∧ c5 = true)) ∨ (c1 = false ∧ c2 = false ∧ c3 = false ∧ c4 = false ∧ c5 = false) := by
    cases c1 <;> cases c2 <;> cases c3 <;> cases c4 <;> cases c5 <;> simp
  rcases key with key | key
  · clear hQ hz hz12 hlb f1 f2
    rcases key with rfl | ⟨rfl, rfl⟩ | ⟨rfl, rfl, rfl⟩ | ⟨rfl, rfl, rfl, rfl⟩ | ⟨rfl, rfl, rfl, rfl, rfl⟩
    all_goals
      go_enter Tryz.func5, Tryz.ntmps5
      go_wp2_with (first
          | (go_at_call 8; (refine (awake_s HI.out _ (HI.out.keep HT.out h0.out)).mono ?_); rintro e wn ⟨rfl, hs⟩; replace h0 := Lib.hid (Stp.trans h0.out hs); replace HB := Lib.hid (HB.out.keep hs HB.out.lt); clear hs; clear q0 q1 q2; obtain ⟨q0, q1, q2⟩ := set_cells3 HB.out)
          | (go_at_call 9; (with_reducible refine (fewt_v t m Hm.out Hml.out _ F1.out T ct _ (Ht.out.keep h0.out)).mono ?_); rintro e wn ⟨rfl, hs⟩; replace h0 := Lib.hid (Stp.trans h0.out hs); replace HB := Lib.hid (HB.out.keep hs HB.out.lt); clear hs; clear q0 q1 q2; obtain ⟨q0, q1, q2⟩ := set_cells3 HB.out)
          | (go_at_call 10; (refine (fews_v s A k _ rfl _ F2.out _).mono ?_); rintro e wn ⟨rfl, hs⟩; replace h0 := Lib.hid (Stp.trans h0.out hs); replace HB := Lib.hid (HB.out.keep hs HB.out.lt); clear hs; clear q0 q1 q2; obtain ⟨q0, q1, q2⟩ := set_cells3 HB.out)
          | (go_at_call 11; (refine (HI.out.split t m Hm.out Hm3.out Hn.out s A k _ rfl Hs.out Q E HQ.out z Hz.out T ct _ (Ht.out.keep h0.out) (RdA.keep Ha.out h0.out) (HI.out.keep HT.out h0.out)).mono ?_); rintro e wn ⟨B1, d1, rfl, hr, hs⟩; replace h0 := Lib.hid (Stp.trans h0.out hs); replace HB := Lib.hid (HB.out.keep hs HB.out.lt); have HR := Lib.hid hr; clear hr; clear hs; clear q0 q1 q2; obtain ⟨q0, q1, q2⟩ := set_cells3 HB.out))
      go_ret
      exact ⟨rfl, h0.out⟩
  · obtain ⟨rfl, rfl, rfl, rfl, rfl⟩ := key
    have hE1 : E ≠ 1 := by
      intro e
      rw [e] at x1
      exact absurd x1 (by decide)
    have hm2 : mayT t = true ∧ mayS s = true := by
      by_cases hm2 : (mayT t && mayS s) = true
      · rwa [Bool.and_eq_true] at hm2
      · rw [split_no (by simpa using hm2), Prod.mk.injEq] at hQ
        exact absurd hQ.2.symm hE1
    have hk0 := of_decide_eq_false x2
    have hkz := of_decide_eq_false x3
    obtain ⟨j, rfl⟩ : ∃ j : Nat, kk = (j : Int) := ⟨kk.toNat, by omega⟩
    obtain ⟨v, hv⟩ : ∃ v, Q[j]? = some v := ⟨_, List.getElem?_eq_getElem (by omega)⟩
    obtain ⟨S, bl, hav⟩ := at_v hm2.1 hm2.2 hQ hv
    have HSV := Lib.hid hav.few
    have HSs := Lib.hid (Parse.may_small hav.may)
    have Hfit := Lib.hid ((split_fit hQ).take j)
    have Htl : Hid ((Q.take j).length = j) := Lib.hid (by rw [List.length_take]; omega)
    have HA : Hid (Q.take j ++ ([] : List LL) = Q.take j) := Lib.hid (List.append_nil _)
    have Hj := Lib.hid (show j ≤ 1000 by omega)
    have Hjz := Lib.hid (show j < z by omega)
    have gj : (0 : Int) ≤ (j : Int) := by omega
    have gjz : (j : Int) < (z : Int) := by omega
    have gj12 : (j : Int) < 12 := by omega
    have x3n : decide (z ≤ j) = false := decide_eq_false (by omega)
    have hw1 : IntKind.i64.wrap ((j : Int) + 1) = (j : Int) + 1 := by rw [IntKind.wrap_i64] <;> omega
    have Hv := Lib.hid hv
    obtain ⟨vl, hvl⟩ : ∃ y, v.length = y := ⟨_, rfl⟩
    have Hvl := Lib.hid hvl
    have hvf := split_fit hQ v (List.mem_of_getElem? hv)
    have Hv1000 : Hid (vl ≤ 1000) := Lib.hid (by rw [← hvl]; exact hvf.1)
    have Hv512 := Lib.hid hvf.2
    have hi0 := of_decide_eq_false x4
    have hiz := of_decide_eq_false x5
    obtain ⟨i2, rfl⟩ : ∃ j : Nat, ii = (j : Int) := ⟨ii.toNat, by omega⟩
    obtain ⟨x, hx⟩ : ∃ v, Q[i2]? = some v := ⟨_, List.getElem?_eq_getElem (by omega)⟩
    have Hx := Lib.hid hx
    obtain ⟨xl, hxl⟩ : ∃ y, x.length = y := ⟨_, rfl⟩
    have Hxl := Lib.hid hxl
    have hxf := split_fit hQ x (List.mem_of_getElem? hx)
    have Hx1000 : Hid (xl ≤ 1000) := Lib.hid (by rw [← hxl]; exact hxf.1)
    have Hx512 := Lib.hid hxf.2
    have gi : (0 : Int) ≤ (i2 : Int) := by omega
    have giz : (i2 : Int) < (z : Int) := by omega
    have x5n : decide (z ≤ i2) = false := decide_eq_false (by omega)
    obtain ⟨b6, x6⟩ : ∃ b, ((i2 : Int) == (j : Int)) = b := ⟨_, rfl⟩
    obtain ⟨b5, x7⟩ : ∃ b, (name == s.label) = b := ⟨_, rfl⟩
    obtain ⟨n1, e1, hO1, k1⟩ : ∃ n1 e1 : Int, oneV S s.label ((j : Int) + 1) x = (n1, e1) ∧ ((b6 = true ∧ e1 = 0) ∨ (b6 = false ∧ n1 = 0 ∧ e1 = 11)) := by
      cases b6
      · have hne : i2 ≠ j := fun e => by
          rw [e] at x6
          simp at x6
        exact ⟨0, 11, hav.other i2 x hx hne, .inr ⟨rfl, rfl, rfl⟩⟩
      · have he : i2 = j := by
          rw [beq_iff_eq] at x6
          omega
        subst he
        rw [hv] at hx
        cases hx
        exact ⟨(bl : Int), 0, hav.one, .inl ⟨rfl, rfl⟩⟩
    obtain ⟨n2, e2, hO2, k2⟩ : ∃ n2 e2 : Int, oneV S name ((j : Int) + 1) v = (n2, e2) ∧ ((b5 = true ∧ e2 = 0) ∨ (b5 = false ∧ e2 = 11)) := by
      cases b5
      · exact ⟨0, 11, hav.name name (fun e => by rw [e] at x7; simp at x7), .inr ⟨rfl, rfl⟩⟩
      · have he : name = s.label := by rwa [beq_iff_eq] at x7
        rw [he]
        exact ⟨(bl : Int), 0, hav.one, .inl ⟨rfl, rfl⟩⟩
    have HO1 := Lib.hid hO1
    have HO2 := Lib.hid hO2
    have X6 := Lib.hid x6
    have X7 := Lib.hid x7
    have K1 := Lib.hid k1
    have K2 := Lib.hid k2
    clear hQ hz hz12 f1 f2 hE1 hm2 hk0 hkz hav hv hvl hvf hi0 hiz hx hxl hxf hO1 hO2 x6 x7 k1 k2
    go_enter Tryz.func5, Tryz.ntmps5
    go_upto_region 9 with (first
        | (go_at_call 8; (refine (awake_s HI.out _ (HI.out.keep HT.out h0.out)).mono ?_); rintro e wn ⟨rfl, hs⟩; replace h0 := Lib.hid (Stp.trans h0.out hs); replace HB := Lib.hid (HB.out.keep hs HB.out.lt); clear hs; clear q0 q1 q2; obtain ⟨q0, q1, q2⟩ := set_cells3 HB.out)
        | (go_at_call 9; (with_reducible refine (fewt_v t m Hm.out Hml.out _ F1.out T ct _ (Ht.out.keep h0.out)).mono ?_); rintro e wn ⟨rfl, hs⟩; replace h0 := Lib.hid (Stp.trans h0.out hs); replace HB := Lib.hid (HB.out.keep hs HB.out.lt); clear hs; clear q0 q1 q2; obtain ⟨q0, q1, q2⟩ := set_cells3 HB.out)
        | (go_at_call 10; (refine (fews_v s A k _ rfl _ F2.out _).mono ?_); rintro e wn ⟨rfl, hs⟩; replace h0 := Lib.hid (Stp.trans h0.out hs); replace HB := Lib.hid (HB.out.keep hs HB.out.lt); clear hs; clear q0 q1 q2; obtain ⟨q0, q1, q2⟩ := set_cells3 HB.out)
        | (go_at_call 11; (refine (HI.out.split t m Hm.out Hm3.out Hn.out s A k _ rfl Hs.out Q E HQ.out z Hz.out T ct _ (Ht.out.keep h0.out) (RdA.keep Ha.out h0.out) (HI.out.keep HT.out h0.out)).mono ?_); rintro e wn ⟨B1, d1, rfl, hr, hs⟩; replace h0 := Lib.hid (Stp.trans h0.out hs); replace HB := Lib.hid (HB.out.keep hs HB.out.lt); have HR := Lib.hid hr; clear hr; clear hs; clear q0 q1 q2; obtain ⟨q0, q1, q2⟩ := set_cells3 HB.out))
    have hzc := HR.out.le
    rw [Hz.out] at hzc
    obtain ⟨A2, csl, hV2⟩ := slice3 B1 z d1 j (by have := Hjz.out; omega)
    have HV2 := Lib.hid hV2
    clear hzc hV2
    clear q0 q1 q2
    go_cut [16] from 70 (fun sx wx => ∃ pS, sx = .pointer (some ⟨pS, 0, none⟩) ∧ Hid (Blk wx pS 46 (Parse.scells S)) ∧ Hid (Stp wn wx))
    case first =>
      have Xa := Lib.hid (show Stp wn wn.drew from Stp.drewN (Stp.refl wn) 1)
      have Xb := Lib.hid (show Stp wn (wn.alloc (.cells #[.int .i64 0, .string ⟨#[]⟩, .string ⟨#[]⟩, .int .u8 0, .int .i64 0, .int .i64 0, .int .i64 0, .int .i64 0, .string ⟨#[]⟩, .int .i64 0, .int .i64 0, .string ⟨#[]⟩, .string ⟨#[]⟩, .string ⟨#[]⟩] 46)).drew from Stp.drewN (Stp.alloc (Stp.refl wn) _) 1)
      have Nb : Hid (Blk (wn.alloc (.cells #[.int .i64 0, .string ⟨#[]⟩, .string ⟨#[]⟩, .int .u8 0, .int .i64 0, .int .i64 0, .int .i64 0, .int .i64 0, .string ⟨#[]⟩, .int .i64 0, .int .i64 0, .string ⟨#[]⟩, .string ⟨#[]⟩, .string ⟨#[]⟩] 46)).drew wn.heap.size 46 (Parse.scells zeroS)) := Lib.hid (Blk.drew (Blk.new wn _ _))
      have Ca := Lib.hid (HI.out.left s.label _ rfl hlb (Q.take j) [] (Q.take j) HA.out j Htl.out Hj.out Hfit.out (.inl rfl) S [] 7 HSV.out A2 d1 wn.drew (HV2.out _ _ (HR.out.keep Xa.out)) (HI.out.keep HT.out (Stp.trans h0.out Xa.out)))
      have Cb := Lib.hid (HI.out.left s.label _ rfl hlb (Q.take j) [] (Q.take j) HA.out j Htl.out Hj.out Hfit.out (.inl rfl) S [] 7 HSV.out A2 d1 (wn.alloc (.cells #[.int .i64 0, .string ⟨#[]⟩, .string ⟨#[]⟩, .int .u8 0, .int .i64 0, .int .i64 0, .int .i64 0, .int .i64 0, .string ⟨#[]⟩, .int .i64 0, .int .i64 0, .string ⟨#[]⟩, .string ⟨#[]⟩, .string ⟨#[]⟩] 46)).drew (HV2.out _ _ (HR.out.keep Xb.out)) (HI.out.keep HT.out (Stp.trans h0.out Xb.out)))
      obtain ⟨q0, q1, q2⟩ := set_cells3 (Blk.drew HB.out)
      obtain ⟨r0, r1, r2⟩ := set_cells3 (HB.out.alloc (.cells #[.int .i64 0, .string ⟨#[]⟩, .string ⟨#[]⟩, .int .u8 0, .int .i64 0, .int .i64 0, .int .i64 0, .int .i64 0, .string ⟨#[]⟩, .int .i64 0, .int .i64 0, .string ⟨#[]⟩, .string ⟨#[]⟩, .string ⟨#[]⟩] 46))
      obtain ⟨p0, p1, p2⟩ := set_cells3 (Blk.drew (HB.out.alloc (.cells #[.int .i64 0, .string ⟨#[]⟩, .string ⟨#[]⟩, .int .u8 0, .int .i64 0, .int .i64 0, .int .i64 0, .int .i64 0, .string ⟨#[]⟩, .int .i64 0, .int .i64 0, .string ⟨#[]⟩, .string ⟨#[]⟩, .string ⟨#[]⟩] 46)))
      go_region_law (first
        | (go_simp; go_at_call 17; (with_reducible refine Ca.out.mono ?_); rintro e wx ⟨rfl, hs⟩; have HY := Lib.hid (new_state (S := S) Xa.out hs); clear hs)
        | (go_simp; go_at_call 17; (with_reducible refine Cb.out.mono ?_); rintro e wx ⟨rfl, hs⟩; have HY := Lib.hid (fill_state (S := S) Xb.out hs Nb.out (Nat.le_refl _)); obtain ⟨n0, n1, n2, n3, n4, n5, n6, n7, n8, n9, n10, n11, n12, n13⟩ := Parse.st_cells HY.out.2.2; obtain ⟨m0, m1, m2, m3, m4, m5, m6, m7, m8, m9, m10, m11, m12, m13⟩ := Ends.st_free HY.out.2.2; clear hs))
      all_goals
        go_wp2_with fail
        go_simp
        go_meet
        first | with_reducible exact ⟨_, rfl, Lib.hid HY.out.1, Lib.hid HY.out.2⟩ | with_reducible exact ⟨_, rfl, Lib.hid HY.out.1, Lib.hid HY.out.2.1⟩
    case rest =>
      obtain ⟨pS, rfl, HS, HC⟩ := hcut
      replace h0 := Lib.hid (Stp.trans h0.out HC.out)
      replace HB := Lib.hid (HB.out.keep HC.out HB.out.lt)
      replace HR := Lib.hid (HR.out.keep HC.out)
      obtain ⟨q0, q1, q2⟩ := set_cells3 HB.out
      obtain ⟨y0, y1, y2, y3, y4, y5, y6, y7, y8, y9, y10, y11, y12, y13⟩ := Parse.st_cells HS.out

      go_upto_region 10 with fail
      obtain ⟨gb, ob, Bx, dx, hB, qx, hLx⟩ := HR.out.at_ Hx.out
      subst hB
      rw [Hxl.out] at qx
      have HLx := Lib.hid hLx
      clear hLx csl HV2
      have v0 := cell_regrown q0
      have v1 := cell_regrown q1
      have v2 := cell_regrown q2
      have v3 := cell_regrown y0
      have v4 := cell_regrown y1
      have v5 := cell_regrown y2
      have v6 := cell_regrown y3
      have v7 := cell_regrown y4
      have v8 := cell_regrown y5
      have v9 := cell_regrown y6
      have v10 := cell_regrown y7
      have v11 := cell_regrown y8
      have v12 := cell_regrown y9
      have v13 := cell_regrown y10
      have v14 := cell_regrown y11
      have v15 := cell_regrown y12
      have v16 := cell_regrown y13
      have v17 := cell_regrown qx
      have cO : ∀ d os, Calls Tryz.prog 19 #[Parse.sv S, .string ⟨s.label.toArray⟩, .int .i64 ((j : Int) + 1), .slice Bx xl dx] (grow (redrawn wc d) os) fun e w'' => e = .returned (.tuple #[.int .i64 n1, .int .i64 e1]) ∧ ∃ p : Regrown, w'' = grow (redrawn wc p.d) p.os := fun d os => Calls.regrown_of (HI.out.one S _ rfl HSs.out s.label _ rfl hlb ((j : Int) + 1) (by omega) (by omega) x xl Hxl.out Hx1000.out Hx512.out n1 e1 HO1.out Bx dx _ (HLx.out.keep (below_regrown wc d os)) (HI.out.keep HT.out (Stp.trans h0.out (below_regrown wc d os))))
      clear q0 q1 q2 y0 y1 y2 y3 y4 y5 y6 y7 y8 y9 y10 y11 y12 y13 qx
      refine wp_region_quiet_below (by kernel_rfl) (by kernel_rfl) ?_
      repeat (go_big_quiet_step (with_reducible exact cO _ _))
      refine wpQuiet_nil ?_
      intro _ hw'
      obtain ⟨⟨dq, osq⟩, hw''⟩ := hw'
      subst hw''
      have X1 := Lib.hid (show Stp wc (grow (redrawn wc dq) osq) from below_regrown wc dq osq)
      clear cO v0 v1 v2 v3 v4 v5 v6 v7 v8 v9 v10 v11 v12 v13 v14 v15 v16 v17
      dsimp only
      generalize grow (redrawn wc dq) osq = Y at X1 ⊢
      replace h0 := Lib.hid (Stp.trans h0.out X1.out)
      replace HB := Lib.hid (HB.out.keep X1.out HB.out.lt)
      replace HS := Lib.hid (HS.out.keep X1.out HS.out.lt)
      replace HR := Lib.hid (HR.out.keep X1.out)
      clear X1
      obtain ⟨q0, q1, q2⟩ := set_cells3 HB.out
      obtain ⟨y0, y1, y2, y3, y4, y5, y6, y7, y8, y9, y10, y11, y12, y13⟩ := Parse.st_cells HS.out
      go_upto_region 11 with fail
      obtain ⟨gb2, ob2, Bv, dv, hB2, qv, hLv⟩ := HR.out.at_ Hv.out
      cases hB2
      rw [Hvl.out] at qv
      have HLv := Lib.hid hLv
      clear hLv
      have v0 := cell_regrown q0
      have v1 := cell_regrown q1
      have v2 := cell_regrown q2
      have v3 := cell_regrown y0
      have v4 := cell_regrown y1
      have v5 := cell_regrown y2
      have v6 := cell_regrown y3
      have v7 := cell_regrown y4
      have v8 := cell_regrown y5
      have v9 := cell_regrown y6
      have v10 := cell_regrown y7
      have v11 := cell_regrown y8
      have v12 := cell_regrown y9
      have v13 := cell_regrown y10
      have v14 := cell_regrown y11
      have v15 := cell_regrown y12
      have v16 := cell_regrown y13
      have v17 := cell_regrown qv
      have cO : ∀ d os, Calls Tryz.prog 19 #[Parse.sv S, .string ⟨name.toArray⟩, .int .i64 ((j : Int) + 1), .slice Bv vl dv] (grow (redrawn Y d) os) fun e w'' => e = .returned (.tuple #[.int .i64 n2, .int .i64 e2]) ∧ ∃ p : Regrown, w'' = grow (redrawn Y p.d) p.os := fun d os => Calls.regrown_of (HI.out.one S _ rfl HSs.out name _ rfl hname ((j : Int) + 1) (by omega) (by omega) v vl Hvl.out Hv1000.out Hv512.out n2 e2 HO2.out Bv dv _ (HLv.out.keep (below_regrown Y d os)) (HI.out.keep HT.out (Stp.trans h0.out (below_regrown Y d os))))
      clear q0 q1 q2 y0 y1 y2 y3 y4 y5 y6 y7 y8 y9 y10 y11 y12 y13 qv
      refine wp_region_quiet_below (by kernel_rfl) (by kernel_rfl) ?_
      repeat (go_big_quiet_step (with_reducible exact cO _ _))
      refine wpQuiet_nil ?_
      intro _ hw'
      obtain ⟨⟨dq, osq⟩, hw''⟩ := hw'
      subst hw''
      have X1 := Lib.hid (show Stp Y (grow (redrawn Y dq) osq) from below_regrown Y dq osq)
      clear cO v0 v1 v2 v3 v4 v5 v6 v7 v8 v9 v10 v11 v12 v13 v14 v15 v16 v17
      dsimp only
      generalize grow (redrawn Y dq) osq = Y2 at X1 ⊢
      replace h0 := Lib.hid (Stp.trans h0.out X1.out)
      replace HB := Lib.hid (HB.out.keep X1.out HB.out.lt)
      replace HS := Lib.hid (HS.out.keep X1.out HS.out.lt)
      replace HR := Lib.hid (HR.out.keep X1.out)
      clear X1
      obtain ⟨q0, q1, q2⟩ := set_cells3 HB.out
      obtain ⟨y0, y1, y2, y3, y4, y5, y6, y7, y8, y9, y10, y11, y12, y13⟩ := Parse.st_cells HS.out
      have x6 := X6.out
      have x7 := X7.out
      rcases K1.out with ⟨rfl, rfl⟩ | ⟨rfl, rfl, rfl⟩
      all_goals
        rcases K2.out with ⟨rfl, rfl⟩ | ⟨rfl, rfl⟩
      all_goals
        go_wp2_with fail
        go_ret
        exact ⟨rfl, h0.out⟩
theorem other_walk {Tb : World → Prop} (I : StripI Tb) (t : List Nd) (m : Nat) (hm : t.length = m) (hml : m < 9223372036854775808) (hn : ∀ n ∈ t, SmallN n) (s : Sett) (hs : Vol.SmallS s) (T A : Option Addr) (ct k : Nat) (w : World) (ht : RdN w T ct t) (ha : RdZ w A k s.caps) (htab : Tb w) (kk ii : Int) (name : List UInt8) (hname : name.length ≤ 9223372036854775807) :
    Calls Tryz.prog 5 #[.slice T m ct, Vol.sv s A k, .int .i64 kk, .int .i64 ii, .string ⟨name.toArray⟩] w fun e w' => e = .returned (.bool true) ∧ Stp w w' := by
  by_cases h : fewT t = false ∨ fewS s = false ∨ decide ((200 : Int) < (name.length : Int)) = true
  · exact other_out I t m hm hml hn s hs T A ct k w ht ha htab kk ii name hname h
  · rw [not_or, not_or] at h
    exact other_in I t m hm hml hn s hs T A ct k w ht ha htab kk ii name hname (by simpa using h.1) (by simpa using h.2.1) (by simpa using h.2.2)
theorem other_any {Tb : World → Prop} (I : StripI Tb) (t : List Nd) (m : Nat) (hm : t.length = m) (hml : m < 9223372036854775808) (hn : ∀ n ∈ t, SmallN n) (s : Sett) (hs : Vol.SmallS s) (T A : Option Addr) (ct k : Nat) (w : World) (ht : RdN w T ct t) (ha : RdZ w A k s.caps) (htab : Tb w) (kk ii : Int) (a : ByteArray) (hsz : a.size ≤ maxLen) :
    Calls Tryz.prog 5 #[.slice T m ct, Vol.sv s A k, .int .i64 kk, .int .i64 ii, .string a] w fun e w' => e = .returned (.bool true) ∧ Stp w w' := by
  obtain ⟨name, rfl, hname⟩ := str_form a hsz
  exact other_walk I t m hm hml hn s hs T A ct k w ht ha htab kk ii name hname
end Go.Proofs.YthjdejjejlhioaaGreatDoor.Strip
