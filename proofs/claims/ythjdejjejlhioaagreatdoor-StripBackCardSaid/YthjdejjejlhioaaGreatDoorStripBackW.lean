/-
  The law StripBack, walked over the contracts: no statement is proved here.
-/
import Derived.Test.YthjdejjejlhioaaGreatDoorStripI
import Derived.Deep.RegionWith
import Derived.Deep.RegionLaw
namespace Go.Proofs.YthjdejjejlhioaaGreatDoor.Strip
open Go.Sort Go.RowKit Go.Proofs.YthjdejjejlhioaaGreatDoor.Str Go.Proofs.YthjdejjejlhioaaGreatDoor.Base Go.Proofs.YthjdejjejlhioaaGreatDoor.Node Go.Proofs.YthjdejjejlhioaaGreatDoor.Head Go.Proofs.YthjdejjejlhioaaGreatDoor.Long Go.Proofs.YthjdejjejlhioaaGreatDoor.Entry Go.Proofs.YthjdejjejlhioaaGreatDoor.LabelM Go.Proofs.YthjdejjejlhioaaGreatDoor.ContM Go.Proofs.YthjdejjejlhioaaGreatDoor.Stream Go.Proofs.YthjdejjejlhioaaGreatDoor.VolM Go.Proofs.YthjdejjejlhioaaGreatDoor.Vol Go.Proofs.YthjdejjejlhioaaGreatDoor.StripM
open Go.Proofs.YthjdejjejlhioaaGreatDoor.Tree (oneB mayT fewT)
open Go.Proofs.YthjdejjejlhioaaGreatDoor.Parse (St zeroS phS runS)
set_option linter.unusedVariables false

abbrev ReadRd : Prop := ∀ (l : LL) (n : Nat), l.length = n → n ≤ 1000 → (∀ b ∈ l, b.length < 9223372036854775808) → ∀ (ns : List Nd) (e0 : Int) (m : Nat), Read.readV l = (ns, e0) → ns.length = m → ∀ (A : Option Addr) (c : Nat) (w : World), RdL w A c l →
    Calls Tryz.prog 14 #[.slice A n c] w fun e w' => ∃ B d, e = .returned (.tuple #[.slice B m d, .int .i64 e0]) ∧ RdN w' B d ns ∧ Stp w w'
theorem rsame_t (t : List Nd) (m : Nat) (hm : t.length = m) (hl : m < 9223372036854775808) (A B : Option Addr) (c d : Nat) (w : World) (ha : RdN w A c t) (hb : RdN w B d t) :
    Calls Tryz.prog 16 #[.slice A m c, .slice B m d] w fun e w' => e = .returned (.bool true) ∧ Stp w w' := by
  subst hm
  have h := Tree.rsame_s t t A B c d w ha hb hl
  rwa [show (t == t) = true from beq_self_eq_true t] at h
theorem vols3_info : (Tryz.prog.info? 33).map (fun i => (i.zero, i.size, i.bytes)) = some (some (.slice none 0 0), 1, 24) := by kernel_rfl
set_option maxRecDepth 100000 in
set_option maxHeartbeats 4000000 in
theorem back_out {Tb : World → Prop} (I : StripI Tb) (t : List Nd) (m : Nat) (hm : t.length = m) (hml : m < 9223372036854775808) (hn : ∀ n ∈ t, SmallN n) (s : Sett) (hs : Vol.SmallS s) (T A : Option Addr) (ct k : Nat) (w : World) (ht : RdN w T ct t) (ha : RdZ w A k s.caps) (htab : Tb w) (M : List LL) (mz : Nat) (hM : M.length = mz) (D : Option Addr) (kd : Nat) (hMr : RdV w D kd M) (hout : fewT t = false ∨ fewS s = false ∨ decide ((15 : Int) < (mz : Int)) = true) :
    Calls Tryz.prog 3 #[.slice T m ct, Vol.sv s A k, .slice D mz kd] w fun e w' => e = .returned (.bool true) ∧ Stp w w' := by
  have h0 := Lib.hid (Stp.alloc (Stp.refl w) (.cells (scells s A k) 25))
  have HB := Lib.hid (Blk.new w 25 (scells s A k))
  have Ht := Lib.hid ht
  have Ha : Hid (RdZ w A k s.caps) := Lib.hid ha
  have HT := Lib.hid htab
  have HI := Lib.hid I
  have Hm := Lib.hid hm
  have Hml := Lib.hid hml
  have Hn := Lib.hid hn
  have Hs := Lib.hid hs
  obtain ⟨q0, q1, q2⟩ := set_cells3 HB.out
  clear ht ha htab I hm hml hn hs
  obtain ⟨b1, f1⟩ : ∃ b, fewT t = b := ⟨_, rfl⟩
  obtain ⟨b2, f2⟩ : ∃ b, fewS s = b := ⟨_, rfl⟩
  obtain ⟨b3, f3⟩ : ∃ b, decide ((15 : Int) < (mz : Int)) = b := ⟨_, rfl⟩
  have F1 := Lib.hid f1
  have F2 := Lib.hid f2
  have key : b1 = false ∨ (b1 = true ∧ b2 = false) ∨ (b1 = true ∧ b2 = true ∧ b3 = true) := by
    rw [f1, f2, f3] at hout
    cases b1 <;> cases b2 <;> simp_all
  clear f1 f2 hout
  rcases key with rfl | ⟨rfl, rfl⟩ | ⟨rfl, rfl, rfl⟩
  all_goals
    go_enter Tryz.func3, Tryz.ntmps3
    go_wp2_with (first
        | (go_at_call 8; (refine (awake_s HI.out _ (HI.out.keep HT.out h0.out)).mono ?_); rintro e wn ⟨rfl, hs⟩; replace h0 := Lib.hid (Stp.trans h0.out hs); replace HB := Lib.hid (HB.out.keep hs HB.out.lt); clear hs; clear q0 q1 q2; obtain ⟨q0, q1, q2⟩ := set_cells3 HB.out)
        | (go_at_call 9; (with_reducible refine (fewt_v t m Hm.out Hml.out _ F1.out T ct _ (Ht.out.keep h0.out)).mono ?_); rintro e wn ⟨rfl, hs⟩; replace h0 := Lib.hid (Stp.trans h0.out hs); replace HB := Lib.hid (HB.out.keep hs HB.out.lt); clear hs; clear q0 q1 q2; obtain ⟨q0, q1, q2⟩ := set_cells3 HB.out)
        | (go_at_call 10; (refine (fews_v s A k _ rfl _ F2.out _).mono ?_); rintro e wn ⟨rfl, hs⟩; replace h0 := Lib.hid (Stp.trans h0.out hs); replace HB := Lib.hid (HB.out.keep hs HB.out.lt); clear hs; clear q0 q1 q2; obtain ⟨q0, q1, q2⟩ := set_cells3 HB.out))
    go_ret
    exact ⟨rfl, h0.out⟩
set_option maxRecDepth 100000 in
set_option maxHeartbeats 8000000 in
theorem back_in {Tb : World → Prop} (I : StripI Tb) (t : List Nd) (m : Nat) (hm : t.length = m) (hml : m < 9223372036854775808) (hn : ∀ n ∈ t, SmallN n) (s : Sett) (hs : Vol.SmallS s) (T A : Option Addr) (ct k : Nat) (w : World) (ht : RdN w T ct t) (ha : RdZ w A k s.caps) (htab : Tb w) (M : List LL) (mz : Nat) (hM : M.length = mz) (D : Option Addr) (kd : Nat) (hMr : RdV w D kd M) (hall : AllI) (hread : ReadRd) (f1 : fewT t = true) (f2 : fewS s = true) (f3 : decide ((15 : Int) < (mz : Int)) = false) :
    Calls Tryz.prog 3 #[.slice T m ct, Vol.sv s A k, .slice D mz kd] w fun e w' => e = .returned (.bool true) ∧ Stp w w' := by
  have h0 := Lib.hid (Stp.alloc (Stp.refl w) (.cells (scells s A k) 25))
  have HB := Lib.hid (Blk.new w 25 (scells s A k))
  have Ht := Lib.hid ht
  have Ha : Hid (RdZ w A k s.caps) := Lib.hid ha
  have HT := Lib.hid htab
  have HI := Lib.hid I
  have Hm := Lib.hid hm
  have Hml := Lib.hid hml
  have Hn := Lib.hid hn
  have Hs := Lib.hid hs
  obtain ⟨q0, q1, q2⟩ := set_cells3 HB.out
  clear ht ha htab I hm hml hn hs
  have F1 := Lib.hid f1
  have F2 := Lib.hid f2
  have Hm3 : Hid (m ≤ 1000) := Lib.hid (by have := (Tree.fewT_iff.1 f1).1; rw [Hm.out] at this; omega)
  obtain ⟨Q, E, hQ⟩ : ∃ Q E, splitV t s = (Q, E) := ⟨_, _, rfl⟩
  obtain ⟨z, hz⟩ : ∃ z, Q.length = z := ⟨_, rfl⟩
  have HQ := Lib.hid hQ
  have Hz := Lib.hid hz
  have hz12 : z ≤ 12 := by rw [← hz]; exact split_few hQ
  have Hz12 := Lib.hid hz12
  have hlb := Hs.out.label
  have HM := Lib.hid hM
  have HMr := Lib.hid hMr
  have HAl := Lib.hid hall
  have HRead := Lib.hid hread
  obtain ⟨c1, x1⟩ : ∃ b, (E != 0) = b := ⟨_, rfl⟩
  cases c1
  · obtain rfl : E = 0 := by simpa using x1
    obtain ⟨ht2, hs2, -⟩ := split_yes hQ
    have hback := strip_back ht2 hs2 hQ []
    rw [List.append_nil] at hback
    obtain ⟨l, hl⟩ : ∃ l, allS t = l := ⟨_, rfl⟩
    obtain ⟨N, hN⟩ : ∃ N, l.length = N := ⟨_, rfl⟩
    rw [hl] at hback
    have hle : N ≤ 402 := by rw [← hN, ← hl]; exact all_few ht2
    have hrd := (Read.read_all ht2 []).1
    rw [List.append_nil, hl] at hrd
    obtain ⟨Z, hZ⟩ : ∃ Z, phS 5 = Z := ⟨_, rfl⟩
    rw [hZ] at hback
    have hm15 := of_decide_eq_false f3
    have Hl := Lib.hid hl
    have HN := Lib.hid hN
    have Hbt := Lib.hid ht2
    have Hfit := Lib.hid (split_fit hQ)
    have HSV := Lib.hid hback
    have Hrd := Lib.hid hrd
    have Hzz : Hid ((Q ++ M).length = z + mz) := Lib.hid (by rw [List.length_append, hz, hM])
    have Hz1000 : Hid (z + mz ≤ 1000) := Lib.hid (by omega)
    have Hor : Hid (M = [] ∨ (stripV s.label Q).2.2 ≠ 7) := Lib.hid (.inr (by rw [hback]; exact (by decide : (0 : Int) ≠ 7)))
    have HN1000 : Hid (N ≤ 1000) := Lib.hid (by omega)
    have Hb512 : Hid (∀ b ∈ l, b.length < 9223372036854775808) := Lib.hid (fun b hb => by rw [all_may t b (by rw [hl]; exact hb)]; omega)
    have Heq : Hid ((l == l) = true) := Lib.hid (beq_self_eq_true l)
    have Hm15 := Lib.hid (show mz ≤ 15 by omega)
    clear hall hread hQ hz hz12 hM hMr f1 f2 ht2 hs2 hback hl hN hle hrd hZ hm15
    go_enter Tryz.func3, Tryz.ntmps3
    go_upto_region 10 with (first
        | (go_at_call 8; (refine (awake_s HI.out _ (HI.out.keep HT.out h0.out)).mono ?_); rintro e wn ⟨rfl, hs⟩; replace h0 := Lib.hid (Stp.trans h0.out hs); replace HB := Lib.hid (HB.out.keep hs HB.out.lt); clear hs; clear q0 q1 q2; obtain ⟨q0, q1, q2⟩ := set_cells3 HB.out)
        | (go_at_call 9; (with_reducible refine (fewt_v t m Hm.out Hml.out _ F1.out T ct _ (Ht.out.keep h0.out)).mono ?_); rintro e wn ⟨rfl, hs⟩; replace h0 := Lib.hid (Stp.trans h0.out hs); replace HB := Lib.hid (HB.out.keep hs HB.out.lt); clear hs; clear q0 q1 q2; obtain ⟨q0, q1, q2⟩ := set_cells3 HB.out)
        | (go_at_call 10; (refine (fews_v s A k _ rfl _ F2.out _).mono ?_); rintro e wn ⟨rfl, hs⟩; replace h0 := Lib.hid (Stp.trans h0.out hs); replace HB := Lib.hid (HB.out.keep hs HB.out.lt); clear hs; clear q0 q1 q2; obtain ⟨q0, q1, q2⟩ := set_cells3 HB.out)
        | (go_at_call 11; (refine (HI.out.split t m Hm.out Hm3.out Hn.out s A k _ rfl Hs.out Q 0 HQ.out z Hz.out T ct _ (Ht.out.keep h0.out) (RdA.keep Ha.out h0.out) (HI.out.keep HT.out h0.out)).mono ?_); rintro e wn ⟨B1, d1, rfl, hr, hs⟩; replace h0 := Lib.hid (Stp.trans h0.out hs); replace HB := Lib.hid (HB.out.keep hs HB.out.lt); have HR := Lib.hid hr; clear hr; clear hs; clear q0 q1 q2; obtain ⟨q0, q1, q2⟩ := set_cells3 HB.out)
        | (go_at_call 12; (refine (HAl.out t m Hm.out Hm3.out Hn.out l Hl.out N HN.out _ Hbt.out T ct _ (Ht.out.keep h0.out)).mono ?_); rintro e wn ⟨B2, d2, rfl, hr, hs⟩; replace h0 := Lib.hid (Stp.trans h0.out hs); replace HB := Lib.hid (HB.out.keep hs HB.out.lt); replace HR := Lib.hid (HR.out.keep hs); have HL := Lib.hid hr; clear hr; clear hs; clear q0 q1 q2; obtain ⟨q0, q1, q2⟩ := set_cells3 HB.out))
    obtain ⟨uQ, hQ1, hQ2, hQ3, hQ4⟩ := HR.out.vals
    obtain ⟨uM, hM1, hM2, hM3, hM4⟩ := (HMr.out.keep h0.out).vals
    rw [Hz.out] at hQ1
    rw [HM.out] at hM1
    have U1 := Lib.hid hQ1
    have U2 := Lib.hid hQ2
    have U3 := Lib.hid hQ3
    have U4 := Lib.hid hQ4
    have V1 := Lib.hid hM1
    have V2 := Lib.hid hM2
    have V3 := Lib.hid hM3
    have V4 := Lib.hid hM4
    clear hQ1 hQ2 hQ3 hQ4 hM1 hM2 hM3 hM4 q0 q1 q2
    go_cut [14, 15] from 54 (fun sx se wx => ∃ Bx dx, sx = .slice Bx N dx ∧ se = .int .i64 0 ∧ Hid (RdL wx Bx dx l) ∧ Hid (Stp wn wx))
    case first =>
      have X := Lib.hid (show Stp wn wn.drew from Stp.drewN (Stp.refl wn) 1)
      have HBd := Lib.hid (Blk.drew HB.out)
      obtain ⟨q0, q1, q2⟩ := set_cells3 HBd.out
      have rQ : Hid (Rd wn.drew wn.drew.heap.size (.slice B1 z d1) uQ) := Lib.hid (by have := U2.out.keep X.out; unfold RdA at this; rwa [U1.out] at this)
      go_region_law (first
        | (go_simp; go_at_call 13; (with_reducible refine (HI.out.strip s.label _ rfl hlb Q M (Q ++ M) rfl (z + mz) Hzz.out Hz1000.out Hfit.out Hor.out Z l 0 HSV.out N HN.out A9 c9 w8 HV9.out (HI.out.keep HT.out (Stp.trans h0.out H8.out))).mono ?_); rintro e wx ⟨Bx, dx, rfl, hr, hs⟩; have HX := Lib.hid hr; have HY := Lib.hid (Stp.trans H8.out hs); clear hr hs)
        | (refine step_app_sl _ rfl _ _ 26 rfl _ 33 Tryz.underlying26 vols3_info _ uQ rfl HO7.out rfl RM.out V3.out (by have := U1.out; have := V1.out; have := Hz12.out; have := Hm15.out; omega) HLo.out ?_; intro v8 w8 ho8 hg8; have H8 : Hid (Stp wn w8) := Lib.hid (Below.grown H7.out hg8 H7.out.size (fun j hj => (HO7.out.lt j hj).1)); obtain ⟨A9, c9, he9, hV9⟩ := vals_rdV ho8 H8.out (by rw [U1.out, Hz.out]) (by rw [V1.out, HM.out]) U4.out V4.out Hzz.out; subst he9; have HV9 := Lib.hid hV9; have HB8 := Lib.hid (HB.out.keep H8.out HB.out.lt); clear ho8 hg8 hV9 r0 r1 r2; obtain ⟨p0, p1, p2⟩ := set_cells3 HB8.out)
        | (refine step_app_sl _ rfl _ _ 26 rfl _ 33 Tryz.underlying26 vols3_info _ [] rfl (Base.Own.nil _ wn.heap.size _) rfl rQ.out U3.out (by have := U1.out; have := Hz12.out; simp only [List.length_nil]; omega) X.out.size ?_; intro v7 w7 ho7 hg7; have H7 : Hid (Stp wn w7) := Lib.hid (Below.grown X.out hg7 X.out.size (fun j hj => ((Base.Own.nil wn.drew wn.heap.size 33).lt j hj).1)); rw [List.nil_append] at ho7; have HO7 := Lib.hid ho7; have HLo : Hid (wn.heap.size ≤ w7.heap.size) := Lib.hid H7.out.size; have RM : Hid (Rd w7 w7.heap.size (.slice D mz kd) uM) := Lib.hid (by have := V2.out.keep H7.out; unfold RdA at this; rwa [V1.out] at this); have HB7 := Lib.hid (HB.out.keep H7.out HB.out.lt); clear ho7 hg7 q0 q1 q2; obtain ⟨r0, r1, r2⟩ := set_cells3 HB7.out))
      all_goals
        go_wp2_with fail
        go_simp
        go_meet
        with_reducible exact ⟨Bx, dx, rfl, rfl, HX, HY⟩
    case rest =>
      obtain ⟨Bx, dx, rfl, rfl, HX, HC⟩ := hcut
      replace h0 := Lib.hid (Stp.trans h0.out HC.out)
      replace HL := Lib.hid (HL.out.keep HC.out)
      go_wp2_with (first
        | (go_at_call 14; (with_reducible refine (HRead.out l N HN.out HN1000.out Hb512.out t 0 m Hrd.out Hm.out Bx dx _ HX.out).mono ?_); rintro e w9 ⟨B9, d9, rfl, hr, hs⟩; have HT9 := Lib.hid hr; replace h0 := Lib.hid (Stp.trans h0.out hs); replace HL := Lib.hid (HL.out.keep hs); replace HX := Lib.hid (HX.out.keep hs); clear hr hs)
        | (go_at_call 15; (with_reducible refine (rsamev l l N N HN.out HN.out _ _ dx d2 _ HX.out HL.out (by have := HN1000.out; omega) (by have := HN1000.out; omega) true Heq.out).mono ?_); rintro e w10 ⟨rfl, hs⟩; replace h0 := Lib.hid (Stp.trans h0.out hs); replace HT9 := Lib.hid (HT9.out.keep hs); clear hs)
        | (go_at_call 16; (with_reducible refine (rsame_t t m Hm.out Hml.out _ _ d9 ct _ HT9.out (Ht.out.keep h0.out)).mono ?_); rintro e w11 ⟨rfl, hs⟩; replace h0 := Lib.hid (Stp.trans h0.out hs); clear hs))
      go_ret
      exact ⟨rfl, h0.out⟩
  · clear hall hread hQ hz hz12 hM hMr f1 f2
    go_enter Tryz.func3, Tryz.ntmps3
    go_wp2_with (first
        | (go_at_call 8; (refine (awake_s HI.out _ (HI.out.keep HT.out h0.out)).mono ?_); rintro e wn ⟨rfl, hs⟩; replace h0 := Lib.hid (Stp.trans h0.out hs); replace HB := Lib.hid (HB.out.keep hs HB.out.lt); clear hs; clear q0 q1 q2; obtain ⟨q0, q1, q2⟩ := set_cells3 HB.out)
        | (go_at_call 9; (with_reducible refine (fewt_v t m Hm.out Hml.out _ F1.out T ct _ (Ht.out.keep h0.out)).mono ?_); rintro e wn ⟨rfl, hs⟩; replace h0 := Lib.hid (Stp.trans h0.out hs); replace HB := Lib.hid (HB.out.keep hs HB.out.lt); clear hs; clear q0 q1 q2; obtain ⟨q0, q1, q2⟩ := set_cells3 HB.out)
        | (go_at_call 10; (refine (fews_v s A k _ rfl _ F2.out _).mono ?_); rintro e wn ⟨rfl, hs⟩; replace h0 := Lib.hid (Stp.trans h0.out hs); replace HB := Lib.hid (HB.out.keep hs HB.out.lt); clear hs; clear q0 q1 q2; obtain ⟨q0, q1, q2⟩ := set_cells3 HB.out)
        | (go_at_call 11; (refine (HI.out.split t m Hm.out Hm3.out Hn.out s A k _ rfl Hs.out Q E HQ.out z Hz.out T ct _ (Ht.out.keep h0.out) (RdA.keep Ha.out h0.out) (HI.out.keep HT.out h0.out)).mono ?_); rintro e wn ⟨B1, d1, rfl, hr, hs⟩; replace h0 := Lib.hid (Stp.trans h0.out hs); replace HB := Lib.hid (HB.out.keep hs HB.out.lt); have HR := Lib.hid hr; clear hr; clear hs; clear q0 q1 q2; obtain ⟨q0, q1, q2⟩ := set_cells3 HB.out))
    go_ret
    exact ⟨rfl, h0.out⟩
theorem back_walk {Tb : World → Prop} (I : StripI Tb) (t : List Nd) (m : Nat) (hm : t.length = m) (hml : m < 9223372036854775808) (hn : ∀ n ∈ t, SmallN n) (s : Sett) (hs : Vol.SmallS s) (T A : Option Addr) (ct k : Nat) (w : World) (ht : RdN w T ct t) (ha : RdZ w A k s.caps) (htab : Tb w) (M : List LL) (mz : Nat) (hM : M.length = mz) (D : Option Addr) (kd : Nat) (hMr : RdV w D kd M) (hall : AllI) (hread : ReadRd) :
    Calls Tryz.prog 3 #[.slice T m ct, Vol.sv s A k, .slice D mz kd] w fun e w' => e = .returned (.bool true) ∧ Stp w w' := by
  by_cases h : fewT t = false ∨ fewS s = false ∨ decide ((15 : Int) < (mz : Int)) = true
  · exact back_out I t m hm hml hn s hs T A ct k w ht ha htab M mz hM D kd hMr h
  · rw [not_or, not_or] at h
    exact back_in I t m hm hml hn s hs T A ct k w ht ha htab M mz hM D kd hMr hall hread (by simpa using h.1) (by simpa using h.2.1) (by simpa using h.2.2)
end Go.Proofs.YthjdejjejlhioaaGreatDoor.Strip
