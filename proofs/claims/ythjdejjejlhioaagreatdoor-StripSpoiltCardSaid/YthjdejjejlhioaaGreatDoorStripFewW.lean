/-
  The law StripFew, walked over the contracts: no statement is proved here.
-/
import Derived.Test.YthjdejjejlhioaaGreatDoorStripI
import Derived.Deep.RegionWith
import Derived.Deep.RegionLaw
namespace Go.Proofs.YthjdejjejlhioaaGreatDoor.Strip
open Go.Sort Go.RowKit Go.Proofs.YthjdejjejlhioaaGreatDoor.Str Go.Proofs.YthjdejjejlhioaaGreatDoor.Base Go.Proofs.YthjdejjejlhioaaGreatDoor.Node Go.Proofs.YthjdejjejlhioaaGreatDoor.Head Go.Proofs.YthjdejjejlhioaaGreatDoor.Long Go.Proofs.YthjdejjejlhioaaGreatDoor.Entry Go.Proofs.YthjdejjejlhioaaGreatDoor.LabelM Go.Proofs.YthjdejjejlhioaaGreatDoor.ContM Go.Proofs.YthjdejjejlhioaaGreatDoor.Stream Go.Proofs.YthjdejjejlhioaaGreatDoor.VolM Go.Proofs.YthjdejjejlhioaaGreatDoor.Vol Go.Proofs.YthjdejjejlhioaaGreatDoor.StripM
open Go.Proofs.YthjdejjejlhioaaGreatDoor.Tree (oneB mayT fewT)
open Go.Proofs.YthjdejjejlhioaaGreatDoor.Parse (St zeroS phS runS)
set_option linter.unusedVariables false

set_option maxRecDepth 100000 in
set_option maxHeartbeats 4000000 in
theorem few_out {Tb : World → Prop} (I : StripI Tb) (t : List Nd) (m : Nat) (hm : t.length = m) (hml : m < 9223372036854775808) (hn : ∀ n ∈ t, SmallN n) (s : Sett) (hs : Vol.SmallS s) (T A : Option Addr) (ct k : Nat) (w : World) (ht : RdN w T ct t) (ha : RdZ w A k s.caps) (htab : Tb w) (kk : Int) (hout : fewT t = false ∨ fewS s = false) :
    Calls Tryz.prog 4 #[.slice T m ct, Vol.sv s A k, .int .i64 kk] w fun e w' => e = .returned (.bool true) ∧ Stp w w' := by
  have h0 := Lib.hid (Stp.alloc (Stp.refl w) (.cells (scells s A k) 25))
  have HB := Lib.hid (Blk.new w 25 (scells s A k))
  have Ht := Lib.hid ht
  have Ha : Hid (RdZ w A k s.caps) := Lib.hid ha
  have HT := Lib.hid htab
  have HI := Lib.hid I
  have Hm := Lib.hid hm
  have Hml := Lib.hid hml
  have Hn := Lib.hid hn
  have Hs := Lib.hid hs
  obtain ⟨q0, q1, q2⟩ := set_cells3 HB.out
  clear ht ha htab I hm hml hn hs
  obtain ⟨b1, f1⟩ : ∃ b, fewT t = b := ⟨_, rfl⟩
  obtain ⟨b2, f2⟩ : ∃ b, fewS s = b := ⟨_, rfl⟩
  have F1 := Lib.hid f1
  have F2 := Lib.hid f2
  have key : b1 = false ∨ (b1 = true ∧ b2 = false) := by
    rw [f1, f2] at hout
    cases b1 <;> simp_all
  clear f1 f2 hout
  rcases key with rfl | ⟨rfl, rfl⟩
  all_goals
    go_enter Tryz.func4, Tryz.ntmps4
    go_wp2_with (first
        | (go_at_call 8; (refine (awake_s HI.out _ (HI.out.keep HT.out h0.out)).mono ?_); rintro e wn ⟨rfl, hs⟩; replace h0 := Lib.hid (Stp.trans h0.out hs); replace HB := Lib.hid (HB.out.keep hs HB.out.lt); clear hs; clear q0 q1 q2; obtain ⟨q0, q1, q2⟩ := set_cells3 HB.out)
        | (go_at_call 9; (with_reducible refine (fewt_v t m Hm.out Hml.out _ F1.out T ct _ (Ht.out.keep h0.out)).mono ?_); rintro e wn ⟨rfl, hs⟩; replace h0 := Lib.hid (Stp.trans h0.out hs); replace HB := Lib.hid (HB.out.keep hs HB.out.lt); clear hs; clear q0 q1 q2; obtain ⟨q0, q1, q2⟩ := set_cells3 HB.out)
        | (go_at_call 10; (refine (fews_v s A k _ rfl _ F2.out _).mono ?_); rintro e wn ⟨rfl, hs⟩; replace h0 := Lib.hid (Stp.trans h0.out hs); replace HB := Lib.hid (HB.out.keep hs HB.out.lt); clear hs; clear q0 q1 q2; obtain ⟨q0, q1, q2⟩ := set_cells3 HB.out))
    go_ret
    exact ⟨rfl, h0.out⟩
abbrev MayI : Prop := ∀ (s : St) (v : Value), v = Parse.sv s → Parse.SmallS s → ∀ (b : Bool), Parse.mayS s = b → ∀ w : World, Calls Tryz.prog 18 #[v] w fun e w' => e = .returned (.bool b) ∧ Stp w w'
set_option maxRecDepth 100000 in
set_option maxHeartbeats 8000000 in
theorem few_in {Tb : World → Prop} (I : StripI Tb) (t : List Nd) (m : Nat) (hm : t.length = m) (hml : m < 9223372036854775808) (hn : ∀ n ∈ t, SmallN n) (s : Sett) (hs : Vol.SmallS s) (T A : Option Addr) (ct k : Nat) (w : World) (ht : RdN w T ct t) (ha : RdZ w A k s.caps) (htab : Tb w) (kk : Int) (hmay : MayI) (f1 : fewT t = true) (f2 : fewS s = true) :
    Calls Tryz.prog 4 #[.slice T m ct, Vol.sv s A k, .int .i64 kk] w fun e w' => e = .returned (.bool true) ∧ Stp w w' := by
  have h0 := Lib.hid (Stp.alloc (Stp.refl w) (.cells (scells s A k) 25))
  have HB := Lib.hid (Blk.new w 25 (scells s A k))
  have Ht := Lib.hid ht
  have Ha : Hid (RdZ w A k s.caps) := Lib.hid ha
  have HT := Lib.hid htab
  have HI := Lib.hid I
  have Hm := Lib.hid hm
  have Hml := Lib.hid hml
  have Hn := Lib.hid hn
  have Hs := Lib.hid hs
  obtain ⟨q0, q1, q2⟩ := set_cells3 HB.out
  clear ht ha htab I hm hml hn hs
  have F1 := Lib.hid f1
  have F2 := Lib.hid f2
  have Hm3 : Hid (m ≤ 1000) := Lib.hid (by have := (Tree.fewT_iff.1 f1).1; rw [Hm.out] at this; omega)
  obtain ⟨Q, E, hQ⟩ : ∃ Q E, splitV t s = (Q, E) := ⟨_, _, rfl⟩
  obtain ⟨z, hz⟩ : ∃ z, Q.length = z := ⟨_, rfl⟩
  have HQ := Lib.hid hQ
  have Hz := Lib.hid hz
  have hz12 : z ≤ 12 := by rw [← hz]; exact split_few hQ
  have Hz12 := Lib.hid hz12
  have hlb := Hs.out.label
  obtain ⟨c1, x1⟩ : ∃ b, (E == 1) = b := ⟨_, rfl⟩
  obtain ⟨c2, x2⟩ : ∃ b, decide (kk < 0) = b := ⟨_, rfl⟩
  obtain ⟨c3, x3⟩ : ∃ b, decide ((z : Int) < kk) = b := ⟨_, rfl⟩
  obtain ⟨c4, x4⟩ : ∃ b, (E == 0) = b := ⟨_, rfl⟩
  obtain ⟨c5, x5⟩ : ∃ b, (kk == (z : Int)) = b := ⟨_, rfl⟩
  have HMay := Lib.hid hmay
  have key : (c1 = true ∨ (c1 = false ∧ c2 = true) ∨ (c1 = false ∧ c2 = false ∧ c3 = true) ∨ (c1 = false ∧ c2 = false ∧ c3 = false ∧ c4 = true ∧ c5 = true)) ∨ ((c1 = false ∧ c2 = false ∧ c3 = false ∧ c4 = false) ∨ (c1 = false ∧ c2 = false ∧ c3 = false ∧ c4 = true ∧ c5 = false)) := by
    cases c1 <;> cases c2 <;> cases c3 <;> cases c4 <;> cases c5 <;> simp
  rcases key with key | key
  · clear hmay hQ hz hz12 hlb f1 f2
    rcases key with rfl | ⟨rfl, rfl⟩ | ⟨rfl, rfl, rfl⟩ | ⟨rfl, rfl, rfl, rfl, rfl⟩
    all_goals
      go_enter Tryz.func4, Tryz.ntmps4
      go_wp2_with (first
          | (go_at_call 8; (refine (awake_s HI.out _ (HI.out.keep HT.out h0.out)).mono ?_); rintro e wn ⟨rfl, hs⟩; replace h0 := Lib.hid (Stp.trans h0.out hs); replace HB := Lib.hid (HB.out.keep hs HB.out.lt); clear hs; clear q0 q1 q2; obtain ⟨q0, q1, q2⟩ := set_cells3 HB.out)
          | (go_at_call 9; (with_reducible refine (fewt_v t m Hm.out Hml.out _ F1.out T ct _ (Ht.out.keep h0.out)).mono ?_); rintro e wn ⟨rfl, hs⟩; replace h0 := Lib.hid (Stp.trans h0.out hs); replace HB := Lib.hid (HB.out.keep hs HB.out.lt); clear hs; clear q0 q1 q2; obtain ⟨q0, q1, q2⟩ := set_cells3 HB.out)
          | (go_at_call 10; (refine (fews_v s A k _ rfl _ F2.out _).mono ?_); rintro e wn ⟨rfl, hs⟩; replace h0 := Lib.hid (Stp.trans h0.out hs); replace HB := Lib.hid (HB.out.keep hs HB.out.lt); clear hs; clear q0 q1 q2; obtain ⟨q0, q1, q2⟩ := set_cells3 HB.out)
          | (go_at_call 11; (refine (HI.out.split t m Hm.out Hm3.out Hn.out s A k _ rfl Hs.out Q E HQ.out z Hz.out T ct _ (Ht.out.keep h0.out) (RdA.keep Ha.out h0.out) (HI.out.keep HT.out h0.out)).mono ?_); rintro e wn ⟨B1, d1, rfl, hr, hs⟩; replace h0 := Lib.hid (Stp.trans h0.out hs); replace HB := Lib.hid (HB.out.keep hs HB.out.lt); have HR := Lib.hid hr; clear hr; clear hs; clear q0 q1 q2; obtain ⟨q0, q1, q2⟩ := set_cells3 HB.out))
      go_ret
      exact ⟨rfl, h0.out⟩
  · have hE1 : E ≠ 1 := by
      have : c1 = false := by rcases key with h | h <;> exact h.1
      rw [this] at x1
      intro e
      rw [e] at x1
      exact absurd x1 (by decide)
    have hm2 : mayT t = true ∧ mayS s = true := by
      by_cases hm2 : (mayT t && mayS s) = true
      · rwa [Bool.and_eq_true] at hm2
      · rw [split_no (by simpa using hm2), Prod.mk.injEq] at hQ
        exact absurd hQ.2.symm hE1
    have hk0 : ¬ kk < 0 := by
      have : c2 = false := by rcases key with h | h <;> exact h.2.1
      rw [this] at x2
      exact of_decide_eq_false x2
    have hkz : ¬ (z : Int) < kk := by
      have : c3 = false := by rcases key with h | h <;> exact h.2.2.1
      rw [this] at x3
      exact of_decide_eq_false x3
    obtain ⟨j, rfl⟩ : ∃ j : Nat, kk = (j : Int) := ⟨kk.toNat, by omega⟩
    have hne : ¬ (E = 0 ∧ j = Q.length) := by
      rintro ⟨e1, e2⟩
      have y4 : c4 = true := by rw [← x4, e1]; rfl
      have y5 : c5 = true := by rw [← x5, e2, hz]; simp
      rcases key with h | h
      · rw [y4] at h
        exact absurd h.2.2.2 (by decide)
      · rw [y5] at h
        exact absurd h.2.2.2.2 (by decide)
    obtain ⟨pos, hinv⟩ := sinv_ex hm2.1 hm2.2 hQ j (by omega)
    obtain ⟨hp, hst⟩ := strip_few hm2.1 hinv hne
    have fA := at_f hm2.1 (Nat.le_of_lt hp)
    have hph := fA.ph hp
    have hmy := fA.may
    obtain ⟨S, hS⟩ : ∃ S, stA t pos = S := ⟨_, rfl⟩
    rw [hS] at hst hph hmy
    have HSV := Lib.hid hst
    have HMy := Lib.hid hmy
    have HSs := Lib.hid (Parse.may_small hmy)
    have g5 : (S.phase != 5) = true := by simpa using hph
    have Hfit := Lib.hid ((split_fit hQ).take j)
    have Htl : Hid ((Q.take j).length = j) := Lib.hid (by rw [List.length_take]; omega)
    have HA : Hid (Q.take j ++ ([] : List LL) = Q.take j) := Lib.hid (List.append_nil _)
    have Hj := Lib.hid (show j ≤ 1000 by omega)
    have Hjz := Lib.hid (show j ≤ z by omega)
    have gj : (0 : Int) ≤ (j : Int) := by omega
    have x3n : decide (z < j) = false := decide_eq_false (by omega)
    clear hmay hQ hz hz12 f1 f2 hE1 hm2 hk0 hkz hne hinv hp hst fA hph hmy hS
    rcases key with ⟨rfl, rfl, rfl, rfl⟩ | ⟨rfl, rfl, rfl, rfl, rfl⟩
    all_goals
      go_enter Tryz.func4, Tryz.ntmps4
      go_upto_region 9 with (first
          | (go_at_call 8; (refine (awake_s HI.out _ (HI.out.keep HT.out h0.out)).mono ?_); rintro e wn ⟨rfl, hs⟩; replace h0 := Lib.hid (Stp.trans h0.out hs); replace HB := Lib.hid (HB.out.keep hs HB.out.lt); clear hs; clear q0 q1 q2; obtain ⟨q0, q1, q2⟩ := set_cells3 HB.out)
          | (go_at_call 9; (with_reducible refine (fewt_v t m Hm.out Hml.out _ F1.out T ct _ (Ht.out.keep h0.out)).mono ?_); rintro e wn ⟨rfl, hs⟩; replace h0 := Lib.hid (Stp.trans h0.out hs); replace HB := Lib.hid (HB.out.keep hs HB.out.lt); clear hs; clear q0 q1 q2; obtain ⟨q0, q1, q2⟩ := set_cells3 HB.out)
          | (go_at_call 10; (refine (fews_v s A k _ rfl _ F2.out _).mono ?_); rintro e wn ⟨rfl, hs⟩; replace h0 := Lib.hid (Stp.trans h0.out hs); replace HB := Lib.hid (HB.out.keep hs HB.out.lt); clear hs; clear q0 q1 q2; obtain ⟨q0, q1, q2⟩ := set_cells3 HB.out)
          | (go_at_call 11; (refine (HI.out.split t m Hm.out Hm3.out Hn.out s A k _ rfl Hs.out Q E HQ.out z Hz.out T ct _ (Ht.out.keep h0.out) (RdA.keep Ha.out h0.out) (HI.out.keep HT.out h0.out)).mono ?_); rintro e wn ⟨B1, d1, rfl, hr, hs⟩; replace h0 := Lib.hid (Stp.trans h0.out hs); replace HB := Lib.hid (HB.out.keep hs HB.out.lt); have HR := Lib.hid hr; clear hr; clear hs; clear q0 q1 q2; obtain ⟨q0, q1, q2⟩ := set_cells3 HB.out))
      have hzc := HR.out.le
      rw [Hz.out] at hzc
      obtain ⟨A2, csl, hV2⟩ := slice3 B1 z d1 j (by have := Hjz.out; omega)
      have HV2 := Lib.hid hV2
      clear hzc hV2
      clear q0 q1 q2
      go_cut [12, 13] from 59 (fun sx se wx => ∃ Bx dx, sx = .slice Bx 0 dx ∧ se = .int .i64 7 ∧ Hid (RdL wx Bx dx []) ∧ Hid (Stp wn wx))
      case first =>
        have X := Lib.hid (show Stp wn wn.drew from Stp.drewN (Stp.refl wn) 1)
        have C := Lib.hid (HI.out.strip s.label _ rfl hlb (Q.take j) [] (Q.take j) HA.out j Htl.out Hj.out Hfit.out (.inl rfl) S [] 7 HSV.out 0 rfl A2 d1 wn.drew (HV2.out _ _ (HR.out.keep X.out)) (HI.out.keep HT.out (Stp.trans h0.out X.out)))
        obtain ⟨q0, q1, q2⟩ := set_cells3 (Blk.drew HB.out)
        go_region_with (first
          | (go_at_call 13; (with_reducible refine C.out.mono ?_); rintro e wx ⟨Bx, dx, rfl, hr, hs⟩; have HX := Lib.hid hr; have HY := Lib.hid (Stp.trans X.out hs); clear hr hs))
        all_goals
          go_wp2_with fail
          go_simp
          go_meet
          with_reducible exact ⟨Bx, dx, rfl, rfl, HX, HY⟩
      case rest =>
        obtain ⟨Bx, dx, rfl, rfl, HX, HC⟩ := hcut
        replace h0 := Lib.hid (Stp.trans h0.out HC.out)
        replace HB := Lib.hid (HB.out.keep HC.out HB.out.lt)
        replace HR := Lib.hid (HR.out.keep HC.out)
        obtain ⟨q0, q1, q2⟩ := set_cells3 HB.out

        go_upto_region 10 with fail
        clear q0 q1 q2
        go_cut [14] from 68 (fun sx wx => ∃ pS, sx = .pointer (some ⟨pS, 0, none⟩) ∧ Hid (Blk wx pS 46 (Parse.scells S)) ∧ Hid (Stp wc wx))
        case first =>
          have Xa := Lib.hid (show Stp wc wc.drew from Stp.drewN (Stp.refl wc) 1)
          have Xb := Lib.hid (show Stp wc (wc.alloc (.cells #[.int .i64 0, .string ⟨#[]⟩, .string ⟨#[]⟩, .int .u8 0, .int .i64 0, .int .i64 0, .int .i64 0, .int .i64 0, .string ⟨#[]⟩, .int .i64 0, .int .i64 0, .string ⟨#[]⟩, .string ⟨#[]⟩, .string ⟨#[]⟩] 46)).drew from Stp.drewN (Stp.alloc (Stp.refl wc) _) 1)
          have Nb : Hid (Blk (wc.alloc (.cells #[.int .i64 0, .string ⟨#[]⟩, .string ⟨#[]⟩, .int .u8 0, .int .i64 0, .int .i64 0, .int .i64 0, .int .i64 0, .string ⟨#[]⟩, .int .i64 0, .int .i64 0, .string ⟨#[]⟩, .string ⟨#[]⟩, .string ⟨#[]⟩] 46)).drew wc.heap.size 46 (Parse.scells zeroS)) := Lib.hid (Blk.drew (Blk.new wc _ _))
          have Ca := Lib.hid (HI.out.left s.label _ rfl hlb (Q.take j) [] (Q.take j) HA.out j Htl.out Hj.out Hfit.out (.inl rfl) S [] 7 HSV.out A2 d1 wc.drew (HV2.out _ _ (HR.out.keep Xa.out)) (HI.out.keep HT.out (Stp.trans h0.out Xa.out)))
          have Cb := Lib.hid (HI.out.left s.label _ rfl hlb (Q.take j) [] (Q.take j) HA.out j Htl.out Hj.out Hfit.out (.inl rfl) S [] 7 HSV.out A2 d1 (wc.alloc (.cells #[.int .i64 0, .string ⟨#[]⟩, .string ⟨#[]⟩, .int .u8 0, .int .i64 0, .int .i64 0, .int .i64 0, .int .i64 0, .string ⟨#[]⟩, .int .i64 0, .int .i64 0, .string ⟨#[]⟩, .string ⟨#[]⟩, .string ⟨#[]⟩] 46)).drew (HV2.out _ _ (HR.out.keep Xb.out)) (HI.out.keep HT.out (Stp.trans h0.out Xb.out)))
          obtain ⟨q0, q1, q2⟩ := set_cells3 (Blk.drew HB.out)
          obtain ⟨r0, r1, r2⟩ := set_cells3 (HB.out.alloc (.cells #[.int .i64 0, .string ⟨#[]⟩, .string ⟨#[]⟩, .int .u8 0, .int .i64 0, .int .i64 0, .int .i64 0, .int .i64 0, .string ⟨#[]⟩, .int .i64 0, .int .i64 0, .string ⟨#[]⟩, .string ⟨#[]⟩, .string ⟨#[]⟩] 46))
          obtain ⟨p0, p1, p2⟩ := set_cells3 (Blk.drew (HB.out.alloc (.cells #[.int .i64 0, .string ⟨#[]⟩, .string ⟨#[]⟩, .int .u8 0, .int .i64 0, .int .i64 0, .int .i64 0, .int .i64 0, .string ⟨#[]⟩, .int .i64 0, .int .i64 0, .string ⟨#[]⟩, .string ⟨#[]⟩, .string ⟨#[]⟩] 46)))
          go_region_law (first
            | (go_simp; go_at_call 17; (with_reducible refine Ca.out.mono ?_); rintro e wx ⟨rfl, hs⟩; have HY := Lib.hid (new_state (S := S) Xa.out hs); clear hs)
            | (go_simp; go_at_call 17; (with_reducible refine Cb.out.mono ?_); rintro e wx ⟨rfl, hs⟩; have HY := Lib.hid (fill_state (S := S) Xb.out hs Nb.out (Nat.le_refl _)); obtain ⟨n0, n1, n2, n3, n4, n5, n6, n7, n8, n9, n10, n11, n12, n13⟩ := Parse.st_cells HY.out.2.2; obtain ⟨m0, m1, m2, m3, m4, m5, m6, m7, m8, m9, m10, m11, m12, m13⟩ := Ends.st_free HY.out.2.2; clear hs))
          all_goals
            go_wp2_with fail
            go_simp
            go_meet
            first | with_reducible exact ⟨_, rfl, Lib.hid HY.out.1, Lib.hid HY.out.2⟩ | with_reducible exact ⟨_, rfl, Lib.hid HY.out.1, Lib.hid HY.out.2.1⟩
        case rest =>
          obtain ⟨pS, rfl, HS, HC⟩ := hcut
          replace h0 := Lib.hid (Stp.trans h0.out HC.out)
          replace HB := Lib.hid (HB.out.keep HC.out HB.out.lt)
          replace HR := Lib.hid (HR.out.keep HC.out)
          obtain ⟨q0, q1, q2⟩ := set_cells3 HB.out
          obtain ⟨y0, y1, y2, y3, y4, y5, y6, y7, y8, y9, y10, y11, y12, y13⟩ := Parse.st_cells HS.out

          go_wp2_with (go_at_call 18; (with_reducible refine (HMay.out S _ rfl HSs.out true HMy.out _).mono ?_); rintro e w9 ⟨rfl, hs⟩; replace h0 := Lib.hid (Stp.trans h0.out hs); replace HB := Lib.hid (HB.out.keep hs HB.out.lt); replace HS := Lib.hid (HS.out.keep hs HS.out.lt); replace HR := Lib.hid (HR.out.keep hs); clear hs; clear q0 q1 q2 y0 y1 y2 y3 y4 y5 y6 y7 y8 y9 y10 y11 y12 y13; obtain ⟨q0, q1, q2⟩ := set_cells3 HB.out; obtain ⟨y0, y1, y2, y3, y4, y5, y6, y7, y8, y9, y10, y11, y12, y13⟩ := Parse.st_cells HS.out)
          go_ret
          exact ⟨by first | rfl | simp [g5], h0.out⟩
theorem few_walk {Tb : World → Prop} (I : StripI Tb) (t : List Nd) (m : Nat) (hm : t.length = m) (hml : m < 9223372036854775808) (hn : ∀ n ∈ t, SmallN n) (s : Sett) (hs : Vol.SmallS s) (T A : Option Addr) (ct k : Nat) (w : World) (ht : RdN w T ct t) (ha : RdZ w A k s.caps) (htab : Tb w) (kk : Int) (hmay : MayI) :
    Calls Tryz.prog 4 #[.slice T m ct, Vol.sv s A k, .int .i64 kk] w fun e w' => e = .returned (.bool true) ∧ Stp w w' := by
  by_cases h : fewT t = false ∨ fewS s = false
  · exact few_out I t m hm hml hn s hs T A ct k w ht ha htab kk h
  · rw [not_or] at h
    exact few_in I t m hm hml hn s hs T A ct k w ht ha htab kk hmay (by simpa using h.1) (by simpa using h.2)
end Go.Proofs.YthjdejjejlhioaaGreatDoor.Strip
