/-
  The law StripSpoilt, walked over the contracts: no statement is proved here.
-/
import Derived.Test.YthjdejjejlhioaaGreatDoorStripI
import Derived.Deep.RegionWith
import Derived.Deep.RegionLaw
namespace Go.Proofs.YthjdejjejlhioaaGreatDoor.Strip
open Go.Sort Go.RowKit Go.Proofs.YthjdejjejlhioaaGreatDoor.Str Go.Proofs.YthjdejjejlhioaaGreatDoor.Base Go.Proofs.YthjdejjejlhioaaGreatDoor.Node Go.Proofs.YthjdejjejlhioaaGreatDoor.Head Go.Proofs.YthjdejjejlhioaaGreatDoor.Long Go.Proofs.YthjdejjejlhioaaGreatDoor.Entry Go.Proofs.YthjdejjejlhioaaGreatDoor.LabelM Go.Proofs.YthjdejjejlhioaaGreatDoor.ContM Go.Proofs.YthjdejjejlhioaaGreatDoor.Stream Go.Proofs.YthjdejjejlhioaaGreatDoor.VolM Go.Proofs.YthjdejjejlhioaaGreatDoor.Vol Go.Proofs.YthjdejjejlhioaaGreatDoor.StripM
open Go.Proofs.YthjdejjejlhioaaGreatDoor.Tree (oneB mayT fewT)
open Go.Proofs.YthjdejjejlhioaaGreatDoor.Parse (St zeroS phS runS)
set_option linter.unusedVariables false

set_option maxRecDepth 100000 in
set_option maxHeartbeats 4000000 in
theorem spoilt_out {Tb : World → Prop} (I : StripI Tb) (t : List Nd) (m : Nat) (hm : t.length = m) (hml : m < 9223372036854775808) (hn : ∀ n ∈ t, SmallN n) (s : Sett) (hs : Vol.SmallS s) (T A : Option Addr) (ct k : Nat) (w : World) (ht : RdN w T ct t) (ha : RdZ w A k s.caps) (htab : Tb w) (kk ii : Int) (c : UInt8) (hout : fewT t = false ∨ fewS s = false) :
    Calls Tryz.prog 7 #[.slice T m ct, Vol.sv s A k, .int .i64 kk, .int .i64 ii, .int .u8 (c.toNat : Int)] w fun e w' => e = .returned (.bool true) ∧ Stp w w' := by
  have h0 := Lib.hid (Stp.alloc (Stp.refl w) (.cells (scells s A k) 25))
  have HB := Lib.hid (Blk.new w 25 (scells s A k))
  have Ht := Lib.hid ht
  have Ha : Hid (RdZ w A k s.caps) := Lib.hid ha
  have HT := Lib.hid htab
  have HI := Lib.hid I
  have Hm := Lib.hid hm
  have Hml := Lib.hid hml
  have Hn := Lib.hid hn
  have Hs := Lib.hid hs
  obtain ⟨q0, q1, q2⟩ := set_cells3 HB.out
  clear ht ha htab I hm hml hn hs
  obtain ⟨b1, f1⟩ : ∃ b, fewT t = b := ⟨_, rfl⟩
  obtain ⟨b2, f2⟩ : ∃ b, fewS s = b := ⟨_, rfl⟩
  have F1 := Lib.hid f1
  have F2 := Lib.hid f2
  have key : b1 = false ∨ (b1 = true ∧ b2 = false) := by
    rw [f1, f2] at hout
    cases b1 <;> simp_all
  clear f1 f2 hout
  rcases key with rfl | ⟨rfl, rfl⟩
  all_goals
    go_enter Tryz.func7, Tryz.ntmps7
    go_wp2_with (first
        | (go_at_call 8; (refine (awake_s HI.out _ (HI.out.keep HT.out h0.out)).mono ?_); rintro e wn ⟨rfl, hs⟩; replace h0 := Lib.hid (Stp.trans h0.out hs); replace HB := Lib.hid (HB.out.keep hs HB.out.lt); clear hs; clear q0 q1 q2; obtain ⟨q0, q1, q2⟩ := set_cells3 HB.out)
        | (go_at_call 9; (with_reducible refine (fewt_v t m Hm.out Hml.out _ F1.out T ct _ (Ht.out.keep h0.out)).mono ?_); rintro e wn ⟨rfl, hs⟩; replace h0 := Lib.hid (Stp.trans h0.out hs); replace HB := Lib.hid (HB.out.keep hs HB.out.lt); clear hs; clear q0 q1 q2; obtain ⟨q0, q1, q2⟩ := set_cells3 HB.out)
        | (go_at_call 10; (refine (fews_v s A k _ rfl _ F2.out _).mono ?_); rintro e wn ⟨rfl, hs⟩; replace h0 := Lib.hid (Stp.trans h0.out hs); replace HB := Lib.hid (HB.out.keep hs HB.out.lt); clear hs; clear q0 q1 q2; obtain ⟨q0, q1, q2⟩ := set_cells3 HB.out))
    go_ret
    exact ⟨rfl, h0.out⟩
set_option maxRecDepth 100000 in
set_option maxHeartbeats 16000000 in
theorem spoilt_in {Tb : World → Prop} (I : StripI Tb) (t : List Nd) (m : Nat) (hm : t.length = m) (hml : m < 9223372036854775808) (hn : ∀ n ∈ t, SmallN n) (s : Sett) (hs : Vol.SmallS s) (T A : Option Addr) (ct k : Nat) (w : World) (ht : RdN w T ct t) (ha : RdZ w A k s.caps) (htab : Tb w) (kk ii : Int) (c : UInt8) (hii : ii < 9223372036854775808) (f1 : fewT t = true) (f2 : fewS s = true) :
    Calls Tryz.prog 7 #[.slice T m ct, Vol.sv s A k, .int .i64 kk, .int .i64 ii, .int .u8 (c.toNat : Int)] w fun e w' => e = .returned (.bool true) ∧ Stp w w' := by
  have h0 := Lib.hid (Stp.alloc (Stp.refl w) (.cells (scells s A k) 25))
  have HB := Lib.hid (Blk.new w 25 (scells s A k))
  have Ht := Lib.hid ht
  have Ha : Hid (RdZ w A k s.caps) := Lib.hid ha
  have HT := Lib.hid htab
  have HI := Lib.hid I
  have Hm := Lib.hid hm
  have Hml := Lib.hid hml
  have Hn := Lib.hid hn
  have Hs := Lib.hid hs
  obtain ⟨q0, q1, q2⟩ := set_cells3 HB.out
  clear ht ha htab I hm hml hn hs
  have F1 := Lib.hid f1
  have F2 := Lib.hid f2
  have Hm3 : Hid (m ≤ 1000) := Lib.hid (by have := (Tree.fewT_iff.1 f1).1; rw [Hm.out] at this; omega)
  obtain ⟨Q, E, hQ⟩ : ∃ Q E, splitV t s = (Q, E) := ⟨_, _, rfl⟩
  obtain ⟨z, hz⟩ : ∃ z, Q.length = z := ⟨_, rfl⟩
  have HQ := Lib.hid hQ
  have Hz := Lib.hid hz
  have hz12 : z ≤ 12 := by rw [← hz]; exact split_few hQ
  have Hz12 := Lib.hid hz12
  have hlb := Hs.out.label
  obtain ⟨c1, x1⟩ : ∃ b, (E == 1) = b := ⟨_, rfl⟩
  obtain ⟨c2, x2⟩ : ∃ b, decide (kk < 0) = b := ⟨_, rfl⟩
  obtain ⟨c3, x3⟩ : ∃ b, decide ((z : Int) ≤ kk) = b := ⟨_, rfl⟩
  obtain ⟨c4, x4⟩ : ∃ b, decide (ii < 0) = b := ⟨_, rfl⟩
  have key : (c1 = true ∨ (c1 = false ∧ c2 = true) ∨ (c1 = false ∧ c2 = false ∧ c3 = true) ∨ (c1 = false ∧ c2 = false ∧ c3 = false ∧ c4 = true)) ∨ (c1 = false ∧ c2 = false ∧ c3 = false ∧ c4 = false) := by
    cases c1 <;> cases c2 <;> cases c3 <;> cases c4 <;> simp
  rcases key with key | key
  · clear hQ hz hz12 hlb f1 f2
    rcases key with rfl | ⟨rfl, rfl⟩ | ⟨rfl, rfl, rfl⟩ | ⟨rfl, rfl, rfl, rfl⟩
    all_goals
      go_enter Tryz.func7, Tryz.ntmps7
      go_wp2_with (first
          | (go_at_call 8; (refine (awake_s HI.out _ (HI.out.keep HT.out h0.out)).mono ?_); rintro e wn ⟨rfl, hs⟩; replace h0 := Lib.hid (Stp.trans h0.out hs); replace HB := Lib.hid (HB.out.keep hs HB.out.lt); clear hs; clear q0 q1 q2; obtain ⟨q0, q1, q2⟩ := set_cells3 HB.out)
          | (go_at_call 9; (with_reducible refine (fewt_v t m Hm.out Hml.out _ F1.out T ct _ (Ht.out.keep h0.out)).mono ?_); rintro e wn ⟨rfl, hs⟩; replace h0 := Lib.hid (Stp.trans h0.out hs); replace HB := Lib.hid (HB.out.keep hs HB.out.lt); clear hs; clear q0 q1 q2; obtain ⟨q0, q1, q2⟩ := set_cells3 HB.out)
          | (go_at_call 10; (refine (fews_v s A k _ rfl _ F2.out _).mono ?_); rintro e wn ⟨rfl, hs⟩; replace h0 := Lib.hid (Stp.trans h0.out hs); replace HB := Lib.hid (HB.out.keep hs HB.out.lt); clear hs; clear q0 q1 q2; obtain ⟨q0, q1, q2⟩ := set_cells3 HB.out)
          | (go_at_call 11; (refine (HI.out.split t m Hm.out Hm3.out Hn.out s A k _ rfl Hs.out Q E HQ.out z Hz.out T ct _ (Ht.out.keep h0.out) (RdA.keep Ha.out h0.out) (HI.out.keep HT.out h0.out)).mono ?_); rintro e wn ⟨B1, d1, rfl, hr, hs⟩; replace h0 := Lib.hid (Stp.trans h0.out hs); replace HB := Lib.hid (HB.out.keep hs HB.out.lt); have HR := Lib.hid hr; clear hr; clear hs; clear q0 q1 q2; obtain ⟨q0, q1, q2⟩ := set_cells3 HB.out))
      go_ret
      exact ⟨rfl, h0.out⟩
  · obtain ⟨rfl, rfl, rfl, rfl⟩ := key
    have hE1 : E ≠ 1 := by
      intro e
      rw [e] at x1
      exact absurd x1 (by decide)
    have hm2 : mayT t = true ∧ mayS s = true := by
      by_cases hm2 : (mayT t && mayS s) = true
      · rwa [Bool.and_eq_true] at hm2
      · rw [split_no (by simpa using hm2), Prod.mk.injEq] at hQ
        exact absurd hQ.2.symm hE1
    have hk0 := of_decide_eq_false x2
    have hkz := of_decide_eq_false x3
    obtain ⟨j, rfl⟩ : ∃ j : Nat, kk = (j : Int) := ⟨kk.toNat, by omega⟩
    obtain ⟨v, hv⟩ : ∃ v, Q[j]? = some v := ⟨_, List.getElem?_eq_getElem (by omega)⟩
    obtain ⟨S, bl, hav⟩ := at_v hm2.1 hm2.2 hQ hv
    have HSV := Lib.hid hav.few
    have HSs := Lib.hid (Parse.may_small hav.may)
    have Hfit := Lib.hid ((split_fit hQ).take j)
    have Htl : Hid ((Q.take j).length = j) := Lib.hid (by rw [List.length_take]; omega)
    have HA : Hid (Q.take j ++ ([] : List LL) = Q.take j) := Lib.hid (List.append_nil _)
    have Hj := Lib.hid (show j ≤ 1000 by omega)
    have Hjz := Lib.hid (show j < z by omega)
    have gj : (0 : Int) ≤ (j : Int) := by omega
    have gjz : (j : Int) < (z : Int) := by omega
    have gj12 : (j : Int) < 12 := by omega
    have x3n : decide (z ≤ j) = false := decide_eq_false (by omega)
    have hw1 : IntKind.i64.wrap ((j : Int) + 1) = (j : Int) + 1 := by rw [IntKind.wrap_i64] <;> omega
    have Hv := Lib.hid hv
    obtain ⟨vl, hvl⟩ : ∃ y, v.length = y := ⟨_, rfl⟩
    have Hvl := Lib.hid hvl
    have hvf := split_fit hQ v (List.mem_of_getElem? hv)
    have Hv1000 : Hid (vl ≤ 1000) := Lib.hid (by rw [← hvl]; exact hvf.1)
    have Hv512 := Lib.hid hvf.2
    have hi0 := of_decide_eq_false x4
    obtain ⟨i2, rfl⟩ : ∃ j : Nat, ii = (j : Int) := ⟨ii.toNat, by omega⟩
    have hav1 := hav.bl1
    have hav4 := hav.bl4
    have havl := hav.len
    rw [hvl] at havl
    have HO1 := Lib.hid hav.one
    have HSp := Lib.hid hav.spoilt
    have hl512 := (split_len hQ v (List.mem_of_getElem? hv)).2
    obtain ⟨a, ha⟩ : ∃ a, i2 / 512 = a := ⟨_, rfl⟩
    obtain ⟨r, hr⟩ : ∃ r, i2 % 512 = r := ⟨_, rfl⟩
    have hr512 : r < 512 := by omega
    have Ha2 := Lib.hid ha
    have Hr2 := Lib.hid hr
    have Hav1 := Lib.hid hav1
    have Hav4 := Lib.hid hav4
    have Havl := Lib.hid havl
    have Hl512 := Lib.hid hl512
    have Hii := Lib.hid hii
    have gv0 : ((vl : Int) == 0) = false := by rw [beq_eq_false_iff_ne]; omega
    have gi0 : (0 : Int) ≤ (i2 : Int) := by omega
    clear hQ hz hz12 f1 f2 hE1 hm2 hk0 hkz hav hv hvl hvf hi0 hav1 hav4 havl hl512 ha hr hii
    go_enter Tryz.func7, Tryz.ntmps7
    go_upto_region 7 with (first
        | (go_at_call 8; (refine (awake_s HI.out _ (HI.out.keep HT.out h0.out)).mono ?_); rintro e wn ⟨rfl, hs⟩; replace h0 := Lib.hid (Stp.trans h0.out hs); replace HB := Lib.hid (HB.out.keep hs HB.out.lt); clear hs; clear q0 q1 q2; obtain ⟨q0, q1, q2⟩ := set_cells3 HB.out)
        | (go_at_call 9; (with_reducible refine (fewt_v t m Hm.out Hml.out _ F1.out T ct _ (Ht.out.keep h0.out)).mono ?_); rintro e wn ⟨rfl, hs⟩; replace h0 := Lib.hid (Stp.trans h0.out hs); replace HB := Lib.hid (HB.out.keep hs HB.out.lt); clear hs; clear q0 q1 q2; obtain ⟨q0, q1, q2⟩ := set_cells3 HB.out)
        | (go_at_call 10; (refine (fews_v s A k _ rfl _ F2.out _).mono ?_); rintro e wn ⟨rfl, hs⟩; replace h0 := Lib.hid (Stp.trans h0.out hs); replace HB := Lib.hid (HB.out.keep hs HB.out.lt); clear hs; clear q0 q1 q2; obtain ⟨q0, q1, q2⟩ := set_cells3 HB.out)
        | (go_at_call 11; (refine (HI.out.split t m Hm.out Hm3.out Hn.out s A k _ rfl Hs.out Q E HQ.out z Hz.out T ct _ (Ht.out.keep h0.out) (RdA.keep Ha.out h0.out) (HI.out.keep HT.out h0.out)).mono ?_); rintro e wn ⟨B1, d1, rfl, hr, hs⟩; replace h0 := Lib.hid (Stp.trans h0.out hs); replace HB := Lib.hid (HB.out.keep hs HB.out.lt); have HR := Lib.hid hr; clear hr; clear hs; clear q0 q1 q2; obtain ⟨q0, q1, q2⟩ := set_cells3 HB.out))
    obtain ⟨gb, ob, Bv, dv, hB, qv, hLv⟩ := HR.out.at_ Hv.out
    subst hB
    rw [Hvl.out] at qv
    have HLv := Lib.hid hLv
    have QV : Hid (∀ w', Stp wn w' → w'.cell? ⟨gb, ob + j, none⟩ = some (.slice Bv vl dv)) := Lib.hid fun w' hs => (hs.cell (p := ⟨gb, ob + j, none⟩) (World.block_lt_of_cell? wn _ qv)).trans qv
    clear hLv
    go_upto_region 9 with fail
    have hzc := HR.out.le
    rw [Hz.out] at hzc
    obtain ⟨A2, csl, hV2⟩ := slice3 (some ⟨gb, ob, none⟩) z d1 j (by have := Hjz.out; omega)
    have HV2 := Lib.hid hV2
    have Hst0 := Lib.hid (Stp.refl wn)
    clear hzc hV2 qv
    clear q0 q1 q2
    go_cut [16] from 69 (fun sx wx => ∃ pS, sx = .pointer (some ⟨pS, 0, none⟩) ∧ Hid (Blk wx pS 46 (Parse.scells S)) ∧ Hid (Stp wn wx))
    case first =>
      have Xa := Lib.hid (show Stp wn wn.drew from Stp.drewN (Stp.refl wn) 1)
      have Xb := Lib.hid (show Stp wn (wn.alloc (.cells #[.int .i64 0, .string ⟨#[]⟩, .string ⟨#[]⟩, .int .u8 0, .int .i64 0, .int .i64 0, .int .i64 0, .int .i64 0, .string ⟨#[]⟩, .int .i64 0, .int .i64 0, .string ⟨#[]⟩, .string ⟨#[]⟩, .string ⟨#[]⟩] 46)).drew from Stp.drewN (Stp.alloc (Stp.refl wn) _) 1)
      have Nb : Hid (Blk (wn.alloc (.cells #[.int .i64 0, .string ⟨#[]⟩, .string ⟨#[]⟩, .int .u8 0, .int .i64 0, .int .i64 0, .int .i64 0, .int .i64 0, .string ⟨#[]⟩, .int .i64 0, .int .i64 0, .string ⟨#[]⟩, .string ⟨#[]⟩, .string ⟨#[]⟩] 46)).drew wn.heap.size 46 (Parse.scells zeroS)) := Lib.hid (Blk.drew (Blk.new wn _ _))
      have Ca := Lib.hid (HI.out.left s.label _ rfl hlb (Q.take j) [] (Q.take j) HA.out j Htl.out Hj.out Hfit.out (.inl rfl) S [] 7 HSV.out A2 d1 wn.drew (HV2.out _ _ (HR.out.keep Xa.out)) (HI.out.keep HT.out (Stp.trans h0.out Xa.out)))
      have Cb := Lib.hid (HI.out.left s.label _ rfl hlb (Q.take j) [] (Q.take j) HA.out j Htl.out Hj.out Hfit.out (.inl rfl) S [] 7 HSV.out A2 d1 (wn.alloc (.cells #[.int .i64 0, .string ⟨#[]⟩, .string ⟨#[]⟩, .int .u8 0, .int .i64 0, .int .i64 0, .int .i64 0, .int .i64 0, .string ⟨#[]⟩, .int .i64 0, .int .i64 0, .string ⟨#[]⟩, .string ⟨#[]⟩, .string ⟨#[]⟩] 46)).drew (HV2.out _ _ (HR.out.keep Xb.out)) (HI.out.keep HT.out (Stp.trans h0.out Xb.out)))
      obtain ⟨q0, q1, q2⟩ := set_cells3 (Blk.drew HB.out)
      obtain ⟨r0, r1, r2⟩ := set_cells3 (HB.out.alloc (.cells #[.int .i64 0, .string ⟨#[]⟩, .string ⟨#[]⟩, .int .u8 0, .int .i64 0, .int .i64 0, .int .i64 0, .int .i64 0, .string ⟨#[]⟩, .int .i64 0, .int .i64 0, .string ⟨#[]⟩, .string ⟨#[]⟩, .string ⟨#[]⟩] 46))
      obtain ⟨p0, p1, p2⟩ := set_cells3 (Blk.drew (HB.out.alloc (.cells #[.int .i64 0, .string ⟨#[]⟩, .string ⟨#[]⟩, .int .u8 0, .int .i64 0, .int .i64 0, .int .i64 0, .int .i64 0, .string ⟨#[]⟩, .int .i64 0, .int .i64 0, .string ⟨#[]⟩, .string ⟨#[]⟩, .string ⟨#[]⟩] 46)))
      go_region_law (first
        | (go_simp; go_at_call 17; (with_reducible refine Ca.out.mono ?_); rintro e wx ⟨rfl, hs⟩; have HY := Lib.hid (new_state (S := S) Xa.out hs); clear hs)
        | (go_simp; go_at_call 17; (with_reducible refine Cb.out.mono ?_); rintro e wx ⟨rfl, hs⟩; have HY := Lib.hid (fill_state (S := S) Xb.out hs Nb.out (Nat.le_refl _)); obtain ⟨n0, n1, n2, n3, n4, n5, n6, n7, n8, n9, n10, n11, n12, n13⟩ := Parse.st_cells HY.out.2.2; obtain ⟨m0, m1, m2, m3, m4, m5, m6, m7, m8, m9, m10, m11, m12, m13⟩ := Ends.st_free HY.out.2.2; clear hs))
      all_goals
        go_wp2_with fail
        go_simp
        go_meet
        first | with_reducible exact ⟨_, rfl, Lib.hid HY.out.1, Lib.hid HY.out.2⟩ | with_reducible exact ⟨_, rfl, Lib.hid HY.out.1, Lib.hid HY.out.2.1⟩
    case rest =>
      obtain ⟨pS, rfl, HS, HC⟩ := hcut
      replace h0 := Lib.hid (Stp.trans h0.out HC.out)
      replace HB := Lib.hid (HB.out.keep HC.out HB.out.lt)
      replace HR := Lib.hid (HR.out.keep HC.out)
      obtain ⟨q0, q1, q2⟩ := set_cells3 HB.out
      obtain ⟨y0, y1, y2, y3, y4, y5, y6, y7, y8, y9, y10, y11, y12, y13⟩ := Parse.st_cells HS.out

      go_upto_region 10 with fail
      have HLw := Lib.hid (HLv.out.keep HC.out)
      have qv := QV.out _ HC.out
      clear csl HV2
      have v0 := cell_regrown q0
      have v1 := cell_regrown q1
      have v2 := cell_regrown q2
      have v3 := cell_regrown y0
      have v4 := cell_regrown y1
      have v5 := cell_regrown y2
      have v6 := cell_regrown y3
      have v7 := cell_regrown y4
      have v8 := cell_regrown y5
      have v9 := cell_regrown y6
      have v10 := cell_regrown y7
      have v11 := cell_regrown y8
      have v12 := cell_regrown y9
      have v13 := cell_regrown y10
      have v14 := cell_regrown y11
      have v15 := cell_regrown y12
      have v16 := cell_regrown y13
      have v17 := cell_regrown qv
      have cO : ∀ d os, Calls Tryz.prog 19 #[Parse.sv S, .string ⟨s.label.toArray⟩, .int .i64 ((j : Int) + 1), .slice Bv vl dv] (grow (redrawn wc d) os) fun e w'' => e = .returned (.tuple #[.int .i64 (bl : Int), .int .i64 0]) ∧ ∃ p : Regrown, w'' = grow (redrawn wc p.d) p.os := fun d os => Calls.regrown_of (HI.out.one S _ rfl HSs.out s.label _ rfl hlb ((j : Int) + 1) (by omega) (by omega) v vl Hvl.out Hv1000.out Hv512.out (bl : Int) 0 HO1.out Bv dv _ (HLw.out.keep (below_regrown wc d os)) (HI.out.keep HT.out (Stp.trans h0.out (below_regrown wc d os))))
      clear q0 q1 q2 y0 y1 y2 y3 y4 y5 y6 y7 y8 y9 y10 y11 y12 y13 qv
      refine wp_region_quiet_below (by kernel_rfl) (by kernel_rfl) ?_
      repeat (go_big_quiet_step (with_reducible exact cO _ _))
      refine wpQuiet_nil ?_
      intro _ hw'
      obtain ⟨⟨dq, osq⟩, hw''⟩ := hw'
      subst hw''
      have X1 := Lib.hid (show Stp wc (grow (redrawn wc dq) osq) from below_regrown wc dq osq)
      clear cO v0 v1 v2 v3 v4 v5 v6 v7 v8 v9 v10 v11 v12 v13 v14 v15 v16 v17
      dsimp only
      generalize grow (redrawn wc dq) osq = Y at X1 ⊢
      replace h0 := Lib.hid (Stp.trans h0.out X1.out)
      replace HB := Lib.hid (HB.out.keep X1.out HB.out.lt)
      replace HS := Lib.hid (HS.out.keep X1.out HS.out.lt)
      replace HR := Lib.hid (HR.out.keep X1.out)
      clear X1
      obtain ⟨q0, q1, q2⟩ := set_cells3 HB.out
      obtain ⟨y0, y1, y2, y3, y4, y5, y6, y7, y8, y9, y10, y11, y12, y13⟩ := Parse.st_cells HS.out
      go_upto_region 12 with fail
      obtain ⟨gb5, ob5, Bw, dw, hB5, qw, hLw⟩ := HR.out.at_ Hv.out
      cases hB5
      rw [Hvl.out] at qw
      have HLY := Lib.hid hLw
      rw [show wrap64 ((i2 : Int) / 512) = (a : Int) from by have := Ha2.out; have := Hii.out; unfold wrap64; omega]
      have gbl : decide ((bl : Int) < 1) = false := decide_eq_false (by have := Hav1.out; omega)
      clear hLw
      by_cases hA : bl ≤ a
      · have gA : decide (bl ≤ a) = true := decide_eq_true hA
        go_wp2_with fail
        go_ret
        exact ⟨rfl, h0.out⟩
      · have gA : decide (bl ≤ a) = false := decide_eq_false hA
        have gA2 : decide (vl ≤ a) = false := decide_eq_false (by have := Havl.out; omega)
        obtain ⟨b0, hb0⟩ : ∃ b, v[a]? = some b := ⟨_, List.getElem?_eq_getElem (by rw [Hvl.out]; have := Havl.out; omega)⟩
        have hb512 : b0.length = 512 := Hl512.out b0 (List.mem_of_getElem? hb0)
        obtain ⟨gx, ox, Ab, cb, hBx, qx, hRb⟩ := HLY.out.at_ hb0
        obtain ⟨m5, hm5⟩ : ∃ m, b0.length = m := ⟨_, rfl⟩
        rw [hm5] at qx
        have hrb : r < b0.length := by omega
        obtain ⟨x, hx⟩ : ∃ x, b0[r]? = some x := ⟨_, List.getElem?_eq_getElem hrb⟩
        obtain ⟨g3, o3, hAb, hcb⟩ := hRb.at_ (j := r) (by rw [bs_length]; exact hrb)
        have q3 := hcb r _ (bs_at hrb)
        have hxe : b0[r] = x := (List.getElem?_eq_some_iff.1 hx).2
        rw [hxe] at q3
        have k0 : (i2 : Int) % 512 = (r : Int) := by have := Hr2.out; omega
        have gr0 : (0 : Int) ≤ (r : Int) := by omega
        have gr1 : (r : Int) < (m5 : Int) := by omega
        have Hm5 := Lib.hid hm5
        have Hm512 : Hid (m5 = 512) := Lib.hid (by omega)
        have ga0 : (0 : Int) ≤ (a : Int) := by omega
        have ga1 : (a : Int) < (vl : Int) := by have := Havl.out; omega
        have HRb := Lib.hid hRb
        have Hb0 := Lib.hid hb0
        have Hx := Lib.hid hx
        subst hBx hAb
        clear hb0 hb512 hRb hrb hx hcb hxe hm5
        by_cases hxc : x = c
        · have k1 : ((x.toNat : Int) == (c.toNat : Int)) = true := by rw [hxc]; simp
          clear hxc
          go_wp2_with fail
          go_ret
          exact ⟨rfl, h0.out⟩
        · have k1 : ((x.toNat : Int) == (c.toNat : Int)) = false := by
            rw [beq_eq_false_iff_ne]
            intro e
            exact hxc (UInt8.toNat_inj.1 (by omega))
          have Hxc := Lib.hid hxc
          clear hxc
          have hne : v[a]? ≠ some (b0.set r c) := by
            rw [Hb0.out]
            intro e
            injection e with e
            have h9 := Hx.out
            rw [e, List.getElem?_set_self (by have := (List.getElem?_eq_some_iff.1 Hx.out).1; exact this)] at h9
            injection h9 with h9
            exact Hxc.out h9.symm
          obtain ⟨e7, he7⟩ : ∃ e : Int, (if a = 0 then (11 : Int) else 12) = e := ⟨_, rfl⟩
          have hO7 := HSp.out a (b0.set r c) (by omega) hne
          rw [he7] at hO7
          have HO7 := Lib.hid hO7
          have HE7 := Lib.hid he7
          have Hsl7 : Hid ((v.set a (b0.set r c)).length = vl) := Lib.hid (by rw [List.length_set]; exact Hvl.out)
          have Hs512 : Hid (∀ b ∈ v.set a (b0.set r c), b.length < 9223372036854775808) := Lib.hid (fun b hb => by
            rcases List.mem_or_eq_of_mem_set hb with h | h
            · exact Hv512.out b h
            · rw [h, List.length_set, Hm5.out, Hm512.out]; omega)
          have Hav := Lib.hid (show a < vl by have := Havl.out; omega)
          have Hrm := Lib.hid (show r < m5 by omega)
          have Hvl1 := Lib.hid (show 1 ≤ vl by have := Havl.out; omega)
          clear hne he7 hO7
          go_upto_region 15 with (at_builtin; refine Base.wpList_append_rows (P := Tryz.prog) rfl (.const (.slice none 0 0)) (.tmp 130) 33 rfl 57 Tryz.underlying33 rows_info _ rfl (Base.Rows.nil _ Y.heap.size _) rfl HLY.out Hvl.out (by have := Hvl.out; have := Hv1000.out; simp only [List.length_nil]; omega) (Nat.le_refl _) ?_; intro v8 w8 hR8 hg8; have H8 : Hid (Stp Y w8) := Lib.hid (Below.grown (Stp.refl Y) hg8 (Nat.le_refl _) (fun j hj => ((Base.Own.nil Y Y.heap.size 57).lt j hj).1)); rw [List.nil_append] at hR8; obtain ⟨g8, cap8, he8, hlo8, hlt8⟩ := rows_form hR8 Hvl.out Hvl1.out; subst he8; have HR8 := Lib.hid hR8; have Hlo8 := Lib.hid hlo8; clear hR8 hg8 hlo8 hlt8)
          have HRb8 := Lib.hid (HRb.out.keep H8.out)
          have rb8 : Hid (Rd w8 w8.heap.size (.slice (some ⟨g3, o3, none⟩) m5 cb) (bs b0)) := Lib.hid (by have := HRb8.out; unfold RdA at this; rwa [bs_length, Hm5.out] at this)
          have qw8 := (H8.out.cell (p := ⟨gb, ob + j, none⟩) (World.block_lt_of_cell? Y _ qw)).trans qw
          have qx8 := (H8.out.cell (p := ⟨gx, ox + a, none⟩) (World.block_lt_of_cell? Y _ qx)).trans qx
          clear qw qx q3 q0 q1 q2 y0 y1 y2 y3 y4 y5 y6 y7 y8 y9 y10 y11 y12 y13
          go_upto_region 16 with (at_builtin; refine wpList_append_rd w8 rfl (.const (.slice none 0 0)) (.tmp 140) 57 rfl w8.heap.size 5 (.int .u8 0) 1 Tryz.underlying57 byte_info17 rfl _ [] rfl (Base.Own.nil _ _ _) _ _ (bs b0) rfl rb8.out (bs_one b0) (by rw [bs_length, Hm5.out, Hm512.out]; unfold maxLen; simp) (by rw [bs_length, Hm5.out, Hm512.out]; simp) (Nat.le_refl _) ?_; intro v9 w9 ho9 hg9 _; have H9 : Hid (Stp w8 w9) := Lib.hid (Below.grown (Stp.refl w8) hg9 (Nat.le_refl _) (fun j hj => ((Base.Own.nil w8 w8.heap.size 5).lt j hj).1)); rw [List.nil_append] at ho9; obtain ⟨g9, cap9, he9, hlo9, hlt9⟩ := own_form ho9 (by rw [bs_length, Hm5.out]) (by have := Hm512.out; omega); subst he9; have HO9 := Lib.hid ho9; have Hlo9 := Lib.hid hlo9; obtain ⟨u9, hc9, hf9⟩ := rows_cell (HR8.out.keep H9.out) Hvl.out Hav.out; clear ho9 hg9 hlo9 hlt9 qw8 qx8)
          have hmid := spoil_mid HR8.out Hvl.out H9.out HO9.out Hm5.out Hav.out Hx.out
          have hrl := spoil_rows (c := c) HR8.out Hvl.out H9.out HO9.out Hm5.out Hav.out Hrm.out
          have hst2 : Stp w8 w9 := H9.out
          have hst3 := set_stp (w := Y) (Stp.trans H8.out hst2) Hlo8.out a (.slice (some ⟨g9, 0, none⟩) m5 cap9)
          have hst4 := set_stp hst3 (Nat.le_trans H8.out.size Hlo9.out) r (.int .u8 (c.toNat : Int))
          obtain ⟨p0, p1, p2⟩ := hmid
          clear hc9 hf9 u9
          change Code.wp _ _ _ _ (w9.setCell ⟨g8, a, none⟩ (.slice (some ⟨g9, 0, none⟩) m5 cap9))
          clear hst2 hst3
          generalize w9.setCell ⟨g8, a, none⟩ (.slice (some ⟨g9, 0, none⟩) m5 cap9) = W3 at p0 p1 p2 hrl hst4 ⊢
          have HRL := Lib.hid hrl
          have HST := Lib.hid hst4
          clear hrl hst4
          go_upto_region 17 with fail
          change Code.wp _ _ _ _ (W3.setCell ⟨g9, r, none⟩ (.int .u8 (c.toNat : Int)))
          clear p0 p1 p2
          generalize W3.setCell ⟨g9, r, none⟩ (.int .u8 (c.toNat : Int)) = W4 at HRL HST ⊢
          replace h0 := Lib.hid (Stp.trans h0.out HST.out)
          replace HB := Lib.hid (HB.out.keep HST.out HB.out.lt)
          replace HS := Lib.hid (HS.out.keep HST.out HS.out.lt)
          obtain ⟨q0, q1, q2⟩ := set_cells3 HB.out
          obtain ⟨y0, y1, y2, y3, y4, y5, y6, y7, y8, y9, y10, y11, y12, y13⟩ := Parse.st_cells HS.out
          go_upto_region 18 with (go_at_call 19; (refine (HI.out.one S _ rfl HSs.out s.label _ rfl hlb ((j : Int) + 1) (by omega) (by omega) (v.set a (b0.set r c)) vl Hsl7.out Hv1000.out Hs512.out 0 e7 HO7.out _ cap8 _ HRL.out (HI.out.keep HT.out h0.out)).mono ?_); rintro e w12 ⟨rfl, hs⟩; replace h0 := Lib.hid (Stp.trans h0.out hs); clear hs q0 q1 q2 y0 y1 y2 y3 y4 y5 y6 y7 y8 y9 y10 y11 y12 y13)
          by_cases ha0 : a = 0
          · obtain rfl : e7 = 11 := by
              have := HE7.out
              rw [if_pos ha0] at this
              exact this.symm
            have k5 : ((a : Int) == 0) = true := by rw [beq_iff_eq]; omega
            clear ha0
            go_wp2_with fail
            go_ret
            exact ⟨rfl, h0.out⟩
          · obtain rfl : e7 = 12 := by
              have := HE7.out
              rw [if_neg ha0] at this
              exact this.symm
            have k5 : ((a : Int) == 0) = false := by rw [beq_eq_false_iff_ne]; omega
            have k6 : decide ((0 : Int) < (a : Int)) = true := decide_eq_true (by omega)
            have k7 : decide (0 < a) = true := decide_eq_true (by omega)
            clear ha0
            go_wp2_with fail
            go_ret
            exact ⟨rfl, h0.out⟩
theorem spoilt_walk {Tb : World → Prop} (I : StripI Tb) (t : List Nd) (m : Nat) (hm : t.length = m) (hml : m < 9223372036854775808) (hn : ∀ n ∈ t, SmallN n) (s : Sett) (hs : Vol.SmallS s) (T A : Option Addr) (ct k : Nat) (w : World) (ht : RdN w T ct t) (ha : RdZ w A k s.caps) (htab : Tb w) (kk ii : Int) (c : UInt8) (hii : ii < 9223372036854775808) :
    Calls Tryz.prog 7 #[.slice T m ct, Vol.sv s A k, .int .i64 kk, .int .i64 ii, .int .u8 (c.toNat : Int)] w fun e w' => e = .returned (.bool true) ∧ Stp w w' := by
  by_cases h : fewT t = false ∨ fewS s = false
  · exact spoilt_out I t m hm hml hn s hs T A ct k w ht ha htab kk ii c h
  · rw [not_or] at h
    exact spoilt_in I t m hm hml hn s hs T A ct k w ht ha htab kk ii c hii (by simpa using h.1) (by simpa using h.2)
theorem byte_form {c : Int} (h0 : 0 ≤ c) (h1 : c ≤ 255) : ((UInt8.ofNat c.toNat).toNat : Int) = c := by
  rw [UInt8.toNat_ofNat']
  omega
theorem spoilt_any {Tb : World → Prop} (I : StripI Tb) (t : List Nd) (m : Nat) (hm : t.length = m) (hml : m < 9223372036854775808) (hn : ∀ n ∈ t, SmallN n) (s : Sett) (hs : Vol.SmallS s) (T A : Option Addr) (ct k : Nat) (w : World) (ht : RdN w T ct t) (ha : RdZ w A k s.caps) (htab : Tb w) (kk ii : Int) (c : Int) (hii : ii ≤ 9223372036854775807) (h0 : 0 ≤ c) (h1 : c ≤ 255) :
    Calls Tryz.prog 7 #[.slice T m ct, Vol.sv s A k, .int .i64 kk, .int .i64 ii, .int .u8 c] w fun e w' => e = .returned (.bool true) ∧ Stp w w' := by
  have h := spoilt_walk I t m hm hml hn s hs T A ct k w ht ha htab kk ii (UInt8.ofNat c.toNat) (by omega)
  rwa [byte_form h0 h1] at h
end Go.Proofs.YthjdejjejlhioaaGreatDoor.Strip
