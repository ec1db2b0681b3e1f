/-
  The law StripLeft, walked over the contracts: no statement is proved here.
-/
import Derived.Test.YthjdejjejlhioaaGreatDoorStripI
import Derived.Deep.RegionWith
import Derived.Deep.RegionLaw
namespace Go.Proofs.YthjdejjejlhioaaGreatDoor.Strip
open Go.Sort Go.RowKit Go.Proofs.YthjdejjejlhioaaGreatDoor.Str Go.Proofs.YthjdejjejlhioaaGreatDoor.Base Go.Proofs.YthjdejjejlhioaaGreatDoor.Node Go.Proofs.YthjdejjejlhioaaGreatDoor.Head Go.Proofs.YthjdejjejlhioaaGreatDoor.Long Go.Proofs.YthjdejjejlhioaaGreatDoor.Entry Go.Proofs.YthjdejjejlhioaaGreatDoor.LabelM Go.Proofs.YthjdejjejlhioaaGreatDoor.ContM Go.Proofs.YthjdejjejlhioaaGreatDoor.Stream Go.Proofs.YthjdejjejlhioaaGreatDoor.VolM Go.Proofs.YthjdejjejlhioaaGreatDoor.Vol Go.Proofs.YthjdejjejlhioaaGreatDoor.StripM
open Go.Proofs.YthjdejjejlhioaaGreatDoor.Tree (oneB mayT fewT)
open Go.Proofs.YthjdejjejlhioaaGreatDoor.Parse (St zeroS phS runS)
set_option linter.unusedVariables false

set_option maxRecDepth 100000 in
set_option maxHeartbeats 4000000 in
theorem left_out {Tb : World → Prop} (I : StripI Tb) (t : List Nd) (m : Nat) (hm : t.length = m) (hml : m < 9223372036854775808) (hn : ∀ n ∈ t, SmallN n) (s : Sett) (hs : Vol.SmallS s) (T A : Option Addr) (ct k : Nat) (w : World) (ht : RdN w T ct t) (ha : RdZ w A k s.caps) (htab : Tb w) (kk : Int) (hout : fewT t = false ∨ fewS s = false) :
    Calls Tryz.prog 6 #[.slice T m ct, Vol.sv s A k, .int .i64 kk] w fun e w' => e = .returned (.bool true) ∧ Stp w w' := by
  have h0 := Lib.hid (Stp.alloc (Stp.refl w) (.cells (scells s A k) 25))
  have HB := Lib.hid (Blk.new w 25 (scells s A k))
  have Ht := Lib.hid ht
  have Ha : Hid (RdZ w A k s.caps) := Lib.hid ha
  have HT := Lib.hid htab
  have HI := Lib.hid I
  have Hm := Lib.hid hm
  have Hml := Lib.hid hml
  have Hn := Lib.hid hn
  have Hs := Lib.hid hs
  obtain ⟨q0, q1, q2⟩ := set_cells3 HB.out
  clear ht ha htab I hm hml hn hs
  obtain ⟨b1, f1⟩ : ∃ b, fewT t = b := ⟨_, rfl⟩
  obtain ⟨b2, f2⟩ : ∃ b, fewS s = b := ⟨_, rfl⟩
  have F1 := Lib.hid f1
  have F2 := Lib.hid f2
  have key : b1 = false ∨ (b1 = true ∧ b2 = false) := by
    rw [f1, f2] at hout
    cases b1 <;> simp_all
  clear f1 f2 hout
  rcases key with rfl | ⟨rfl, rfl⟩
  all_goals
    go_enter Tryz.func6, Tryz.ntmps6
    go_wp2_with (first
        | (go_at_call 8; (refine (awake_s HI.out _ (HI.out.keep HT.out h0.out)).mono ?_); rintro e wn ⟨rfl, hs⟩; replace h0 := Lib.hid (Stp.trans h0.out hs); replace HB := Lib.hid (HB.out.keep hs HB.out.lt); clear hs; clear q0 q1 q2; obtain ⟨q0, q1, q2⟩ := set_cells3 HB.out)
        | (go_at_call 9; (with_reducible refine (fewt_v t m Hm.out Hml.out _ F1.out T ct _ (Ht.out.keep h0.out)).mono ?_); rintro e wn ⟨rfl, hs⟩; replace h0 := Lib.hid (Stp.trans h0.out hs); replace HB := Lib.hid (HB.out.keep hs HB.out.lt); clear hs; clear q0 q1 q2; obtain ⟨q0, q1, q2⟩ := set_cells3 HB.out)
        | (go_at_call 10; (refine (fews_v s A k _ rfl _ F2.out _).mono ?_); rintro e wn ⟨rfl, hs⟩; replace h0 := Lib.hid (Stp.trans h0.out hs); replace HB := Lib.hid (HB.out.keep hs HB.out.lt); clear hs; clear q0 q1 q2; obtain ⟨q0, q1, q2⟩ := set_cells3 HB.out))
    go_ret
    exact ⟨rfl, h0.out⟩
set_option maxRecDepth 100000 in
set_option maxHeartbeats 8000000 in
theorem left_in {Tb : World → Prop} (I : StripI Tb) (t : List Nd) (m : Nat) (hm : t.length = m) (hml : m < 9223372036854775808) (hn : ∀ n ∈ t, SmallN n) (s : Sett) (hs : Vol.SmallS s) (T A : Option Addr) (ct k : Nat) (w : World) (ht : RdN w T ct t) (ha : RdZ w A k s.caps) (htab : Tb w) (kk : Int) (hall : AllI) (hrun : Parse.RunI) (f1 : fewT t = true) (f2 : fewS s = true) :
    Calls Tryz.prog 6 #[.slice T m ct, Vol.sv s A k, .int .i64 kk] w fun e w' => e = .returned (.bool true) ∧ Stp w w' := by
  have h0 := Lib.hid (Stp.alloc (Stp.refl w) (.cells (scells s A k) 25))
  have HB := Lib.hid (Blk.new w 25 (scells s A k))
  have Ht := Lib.hid ht
  have Ha : Hid (RdZ w A k s.caps) := Lib.hid ha
  have HT := Lib.hid htab
  have HI := Lib.hid I
  have Hm := Lib.hid hm
  have Hml := Lib.hid hml
  have Hn := Lib.hid hn
  have Hs := Lib.hid hs
  obtain ⟨q0, q1, q2⟩ := set_cells3 HB.out
  clear ht ha htab I hm hml hn hs
  have F1 := Lib.hid f1
  have F2 := Lib.hid f2
  have Hm3 : Hid (m ≤ 1000) := Lib.hid (by have := (Tree.fewT_iff.1 f1).1; rw [Hm.out] at this; omega)
  obtain ⟨Q, E, hQ⟩ : ∃ Q E, splitV t s = (Q, E) := ⟨_, _, rfl⟩
  obtain ⟨z, hz⟩ : ∃ z, Q.length = z := ⟨_, rfl⟩
  have HQ := Lib.hid hQ
  have Hz := Lib.hid hz
  have hz12 : z ≤ 12 := by rw [← hz]; exact split_few hQ
  have Hz12 := Lib.hid hz12
  have hlb := Hs.out.label
  obtain ⟨c1, x1⟩ : ∃ b, (E == 1) = b := ⟨_, rfl⟩
  obtain ⟨c2, x2⟩ : ∃ b, decide (kk < 0) = b := ⟨_, rfl⟩
  obtain ⟨c3, x3⟩ : ∃ b, decide ((z : Int) < kk) = b := ⟨_, rfl⟩
  have HAl := Lib.hid hall
  have HRun := Lib.hid hrun
  have key : (c1 = true ∨ (c1 = false ∧ c2 = true) ∨ (c1 = false ∧ c2 = false ∧ c3 = true)) ∨ (c1 = false ∧ c2 = false ∧ c3 = false) := by
    cases c1 <;> cases c2 <;> cases c3 <;> simp
  rcases key with key | key
  · clear hall hrun hQ hz hz12 hlb f1 f2
    rcases key with rfl | ⟨rfl, rfl⟩ | ⟨rfl, rfl, rfl⟩
    all_goals
      go_enter Tryz.func6, Tryz.ntmps6
      go_wp2_with (first
          | (go_at_call 8; (refine (awake_s HI.out _ (HI.out.keep HT.out h0.out)).mono ?_); rintro e wn ⟨rfl, hs⟩; replace h0 := Lib.hid (Stp.trans h0.out hs); replace HB := Lib.hid (HB.out.keep hs HB.out.lt); clear hs; clear q0 q1 q2; obtain ⟨q0, q1, q2⟩ := set_cells3 HB.out)
          | (go_at_call 9; (with_reducible refine (fewt_v t m Hm.out Hml.out _ F1.out T ct _ (Ht.out.keep h0.out)).mono ?_); rintro e wn ⟨rfl, hs⟩; replace h0 := Lib.hid (Stp.trans h0.out hs); replace HB := Lib.hid (HB.out.keep hs HB.out.lt); clear hs; clear q0 q1 q2; obtain ⟨q0, q1, q2⟩ := set_cells3 HB.out)
          | (go_at_call 10; (refine (fews_v s A k _ rfl _ F2.out _).mono ?_); rintro e wn ⟨rfl, hs⟩; replace h0 := Lib.hid (Stp.trans h0.out hs); replace HB := Lib.hid (HB.out.keep hs HB.out.lt); clear hs; clear q0 q1 q2; obtain ⟨q0, q1, q2⟩ := set_cells3 HB.out)
          | (go_at_call 11; (refine (HI.out.split t m Hm.out Hm3.out Hn.out s A k _ rfl Hs.out Q E HQ.out z Hz.out T ct _ (Ht.out.keep h0.out) (RdA.keep Ha.out h0.out) (HI.out.keep HT.out h0.out)).mono ?_); rintro e wn ⟨B1, d1, rfl, hr, hs⟩; replace h0 := Lib.hid (Stp.trans h0.out hs); replace HB := Lib.hid (HB.out.keep hs HB.out.lt); have HR := Lib.hid hr; clear hr; clear hs; clear q0 q1 q2; obtain ⟨q0, q1, q2⟩ := set_cells3 HB.out))
      go_ret
      exact ⟨rfl, h0.out⟩
  · obtain ⟨rfl, rfl, rfl⟩ := key
    have hE1 : E ≠ 1 := by
      intro e
      rw [e] at x1
      exact absurd x1 (by decide)
    have hm2 : mayT t = true ∧ mayS s = true := by
      by_cases hm2 : (mayT t && mayS s) = true
      · rwa [Bool.and_eq_true] at hm2
      · rw [split_no (by simpa using hm2), Prod.mk.injEq] at hQ
        exact absurd hQ.2.symm hE1
    have hk0 := of_decide_eq_false x2
    have hkz := of_decide_eq_false x3
    obtain ⟨j, rfl⟩ : ∃ j : Nat, kk = (j : Int) := ⟨kk.toNat, by omega⟩
    obtain ⟨l, hl⟩ : ∃ l, allS t = l := ⟨_, rfl⟩
    obtain ⟨N, hN⟩ : ∃ N, l.length = N := ⟨_, rfl⟩
    have hNN : (allS t).length = N := by rw [hl]; exact hN
    have hle : N ≤ 402 := by rw [← hNN]; exact all_few hm2.1
    have h2N : 2 ≤ N := by rw [← hNN]; exact all_two hm2.1
    have Hl := Lib.hid hl
    have HN := Lib.hid hN
    have HNN := Lib.hid hNN
    have Hbt := Lib.hid hm2.1
    have Hbs := Lib.hid hm2.2
    have Hfit := Lib.hid ((split_fit hQ).take j)
    have Htl : Hid ((Q.take j).length = j) := Lib.hid (by rw [List.length_take]; omega)
    have HA : Hid (Q.take j ++ ([] : List LL) = Q.take j) := Lib.hid (List.append_nil _)
    have Hj := Lib.hid (show j ≤ 1000 by omega)
    have Hjz := Lib.hid (show j ≤ z by omega)
    have Hj12 := Lib.hid (show j ≤ 12 by omega)
    have gj : (0 : Int) ≤ (j : Int) := by omega
    have x3n : decide (z < j) = false := decide_eq_false (by omega)
    have HS0 := Lib.hid (sinv_zero hm2.1 hm2.2 hQ)
    have Hle := Lib.hid hle
    have H2N := Lib.hid h2N
    have Hlen := Lib.hid (split_len hQ)
    clear hall hrun hQ hz hz12 f1 f2 hE1 hm2 hk0 hkz hl hN hNN hle h2N
    go_enter Tryz.func6, Tryz.ntmps6
    go_wp2_with (first
        | (go_at_call 8; (refine (awake_s HI.out _ (HI.out.keep HT.out h0.out)).mono ?_); rintro e wn ⟨rfl, hs⟩; replace h0 := Lib.hid (Stp.trans h0.out hs); replace HB := Lib.hid (HB.out.keep hs HB.out.lt); clear hs; clear q0 q1 q2; obtain ⟨q0, q1, q2⟩ := set_cells3 HB.out)
        | (go_at_call 9; (with_reducible refine (fewt_v t m Hm.out Hml.out _ F1.out T ct _ (Ht.out.keep h0.out)).mono ?_); rintro e wn ⟨rfl, hs⟩; replace h0 := Lib.hid (Stp.trans h0.out hs); replace HB := Lib.hid (HB.out.keep hs HB.out.lt); clear hs; clear q0 q1 q2; obtain ⟨q0, q1, q2⟩ := set_cells3 HB.out)
        | (go_at_call 10; (refine (fews_v s A k _ rfl _ F2.out _).mono ?_); rintro e wn ⟨rfl, hs⟩; replace h0 := Lib.hid (Stp.trans h0.out hs); replace HB := Lib.hid (HB.out.keep hs HB.out.lt); clear hs; clear q0 q1 q2; obtain ⟨q0, q1, q2⟩ := set_cells3 HB.out)
        | (go_at_call 11; (refine (HI.out.split t m Hm.out Hm3.out Hn.out s A k _ rfl Hs.out Q E HQ.out z Hz.out T ct _ (Ht.out.keep h0.out) (RdA.keep Ha.out h0.out) (HI.out.keep HT.out h0.out)).mono ?_); rintro e wn ⟨B1, d1, rfl, hr, hs⟩; replace h0 := Lib.hid (Stp.trans h0.out hs); replace HB := Lib.hid (HB.out.keep hs HB.out.lt); have HR := Lib.hid hr; clear hr; clear hs; clear q0 q1 q2; obtain ⟨q0, q1, q2⟩ := set_cells3 HB.out)
        | (go_at_call 12; (refine (HAl.out t m Hm.out Hm3.out Hn.out l Hl.out N HN.out _ Hbt.out T ct _ (Ht.out.keep h0.out)).mono ?_); rintro e wn ⟨B2, d2, rfl, hr, hs⟩; replace h0 := Lib.hid (Stp.trans h0.out hs); replace HB := Lib.hid (HB.out.keep hs HB.out.lt); replace HR := Lib.hid (HR.out.keep hs); have HL := Lib.hid hr; clear hr; clear hs; clear q0 q1 q2; obtain ⟨q0, q1, q2⟩ := set_cells3 HB.out))
    go_loopw [14, 15] (fun p i wr => ∃ (pos n : Nat), n ≤ j ∧ pos ≤ 430 * n ∧ i = .int .i64 (n : Int) ∧ p = .int .i64 (pos : Int) ∧ Hid (SInv t s Q E pos n) ∧ Hid (Stp wn wr)) (fun _ i _ => j - (intOf i).toNat)
    case atStart => exact ⟨0, 0, by omega, by omega, by rfl, by rfl, HS0, Lib.hid (Stp.refl _)⟩
    case round =>
      clear q0 q1 q2
      obtain ⟨pos, n, hn1, hp430, rfl, rfl, HIv, H1⟩ := hrel
      obtain ⟨W4, hW4⟩ : ∃ W, W = wr := ⟨_, rfl⟩
      subst hW4
      have h0' := Lib.hid (Stp.trans h0.out H1.out)
      have HB' := Lib.hid (HB.out.keep H1.out HB.out.lt)
      obtain ⟨q0, q1, q2⟩ := set_cells3 HB'.out
      by_cases hlt : n < j
      · obtain ⟨v, hv⟩ : ∃ v, Q[n]? = some v := ⟨_, List.getElem?_eq_getElem (by have := Hjz.out; rw [Hz.out]; omega)⟩
        obtain ⟨hp, h12, rest, hvr, hnext⟩ := sinv_step Hbt.out Hbs.out HIv.out hv
        have hl430 := (Hlen.out v (List.mem_of_getElem? hv)).1
        obtain ⟨X, hX⟩ : ∃ X, beginL t s pos ((n : Int) + 1) = X := ⟨_, rfl⟩
        obtain ⟨bl, hbl⟩ : ∃ bl, X.length = bl := ⟨_, rfl⟩
        obtain ⟨y, hy⟩ : ∃ y, v.length = y := ⟨_, rfl⟩
        have hsum : y = bl + rest.length := by rw [← hy, hvr, List.length_append, hX, hbl]
        have hbb : beginB t s (pos : Int) ((n : Int) + 1) = true := beginB_iff.2 ⟨Hbt.out, Hbs.out, label_may Hbs.out h12, by omega, by omega⟩
        have hbv : beginV t s (pos : Int) ((n : Int) + 1) = X := by rw [beginV_yes hbb, Int.toNat_natCast, hX]
        have HBV := Lib.hid hbv
        have HBB := Lib.hid hbb
        have HX := Lib.hid hbl
        have HNx := Lib.hid hnext
        obtain ⟨gb, ob, Bv, dv, hB, qv, -⟩ := (HR.out.keep H1.out).at_ hv
        rw [hy] at qv
        have QV : Hid (∀ w', Stp W4 w' → w'.cell? ⟨gb, ob + n, none⟩ = some (.slice Bv y dv)) := Lib.hid fun w' hs => (hs.cell (p := ⟨gb, ob + n, none⟩) (World.block_lt_of_cell? W4 _ qv)).trans qv
        subst hB
        have g2 : (0 : Int) ≤ (n : Int) := by omega
        have g3 : (n : Int) < (z : Int) := by have := Hjz.out; omega
        have g4 : (pos : Int) ≤ 6000 := by have := Hj12.out; omega
        have g5 : (n : Int) < 12 := by omega
        have g6 : bl ≤ y := by omega
        have g7 : (y : Int) ≤ 430 := by rw [hy] at hl430; omega
        have hgoal : pos + rest.length = pos + y - bl := by omega
        have hrl : pos + rest.length ≤ 430 * (n + 1) := by omega
        have HG := Lib.hid hgoal
        have HRl := Lib.hid hrl
        clear hv hvr hnext hl430 hX hbl hy hbb hbv qv hgoal hrl hsum
        go_wp2_with (go_at_call 20; refine (HI.out.begin t m Hm.out Hm3.out Hn.out s A k _ rfl Hs.out (pos : Int) ((n : Int) + 1) (by omega) (by omega) (by omega) (by omega) X HBV.out bl HX.out true HBB.out T ct _ (Ht.out.keep h0'.out) (RdA.keep Ha.out h0'.out) (HI.out.keep HT.out h0'.out)).mono ?_; rintro e w2 ⟨B3, d3, rfl, -, hs⟩; have H2 := Lib.hid (Stp.trans H1.out hs); have qv2 := QV.out _ hs; clear hs q0 q1 q2)
        go_roundw
        case rel => exact ⟨pos + rest.length, n + 1, by omega, HRl.out, by go_num, by simp only [Value.int.injEq, true_and]; have := HG.out; omega, HNx, H2⟩
        case measure => simp [intOf]; omega
      · obtain rfl : n = j := by omega
        have hp2 : min pos (allS t).length ≤ (allS t).length := Nat.min_le_right _ _
        have hSl := strip_left Hbt.out HIv.out
        rw [HNN.out] at hp2 hSl
        obtain ⟨p2, hpp⟩ : ∃ p, min pos N = p := ⟨_, rfl⟩
        rw [hpp] at hp2 hSl
        have fA := at_f Hbt.out (pos := p2) (by rw [HNN.out]; exact hp2)
        obtain ⟨S, hS⟩ : ∃ S, stA t p2 = S := ⟨_, rfl⟩
        rw [hS] at hSl
        obtain ⟨y, hy⟩ : ∃ y, (runS zeroS (l.take p2)).2.1 = y := ⟨_, rfl⟩
        obtain ⟨yl, hyl⟩ : ∃ k, y.length = k := ⟨_, rfl⟩
        have hrn : runS zeroS (l.take p2) = (S, y, p2, 0) := by
          have e1 := fA.n
          have e2 := fA.e
          rw [stA] at hS
          rw [Hl.out] at e1 e2 hS
          exact Prod.ext hS (Prod.ext hy (Prod.ext e1 e2))
        obtain ⟨X, e9, hSV⟩ : ∃ X e, stripV s.label (Q.take n) = (S, X, e) := ⟨_, _, by rw [← hSl]⟩
        have HSV := Lib.hid hSV
        have HRn := Lib.hid hrn
        have HYl := Lib.hid hyl
        have hmS : Parse.mayS S = true := by rw [← hS]; exact fA.may
        have HSs := Lib.hid (Parse.may_small hmS)
        have HLr := Lib.hid (HL.out.keep H1.out)
        have HRr := Lib.hid (HR.out.keep H1.out)
        obtain ⟨bb, oo, hB2⟩ : ∃ b o, B2 = some ⟨b, o, none⟩ := by
          obtain ⟨b, o, _, _, e, -⟩ := HL.out.at_ (j := 0) (l := l[0]'(by rw [HN.out]; have := H2N.out; omega)) (List.getElem?_eq_getElem _)
          exact ⟨b, o, e⟩
        subst hB2
        have hNd : N ≤ d2 := by
          have := HL.out.length_le
          rw [HN.out] at this
          exact this
        have csp : ∀ w, (Instr.slice 33 (.slice (some ⟨bb, oo, none⟩) N d2) none (some (.int .i64 (p2 : Int))) none).run Tryz.prog w = .ok (.slice (some ⟨bb, oo, none⟩) p2 d2) w := fun w => Entry.slice_to bb oo N d2 p2 (by omega) w
        have hzc := HR.out.le
        rw [Hz.out] at hzc
        obtain ⟨A2, csl, hV2⟩ := slice3 B1 z d1 n (by have := Hjz.out; omega)
        have HV2 := Lib.hid hV2
        have Hpl : Hid ((l.take p2).length = p2) := Lib.hid (by rw [List.length_take, HN.out]; omega)
        have Hp1000 : Hid (p2 ≤ 1000) := Lib.hid (by have := Hle.out; omega)
        have Hb512 : Hid (∀ b ∈ l.take p2, b.length < 9223372036854775808) := Lib.hid (fun b hb => by rw [all_may t b (by rw [Hl.out]; exact List.mem_of_mem_take hb)]; omega)
        have g2 : (pos : Int) ≤ 6000 := by have := Hj12.out; omega
        have gp0 : decide ((p2 : Int) < 0) = false := decide_eq_false (by omega)
        have hcase : (decide (N < pos) = true ∧ N = p2) ∨ (decide (N < pos) = false ∧ pos = p2) := by
          by_cases h : N < pos
          · exact .inl ⟨decide_eq_true h, by omega⟩
          · exact .inr ⟨decide_eq_false h, by omega⟩
        clear hp2 hSl hpp fA hS hy hyl hrn hSV hmS hNd hzc hV2 HIv hp430
        rcases hcase with ⟨g3, e3⟩ | ⟨g3, e3⟩
        · subst e3
          go_upto_region 21 with (go_at_call 21; refine (HRun.out zeroS _ Parse.zero_sv zero_small (l.take N) N Hpl.out Hp1000.out Hb512.out S y yl N 0 HRn.out HYl.out _ d2 _ (Entry.rdL_take HLr.out N)).mono ?_; rintro e w5 ⟨B5, d5, rfl, -, hs⟩; replace h0' := Lib.hid (Stp.trans h0'.out hs); replace HB' := Lib.hid (HB'.out.keep hs HB'.out.lt); replace HRr := Lib.hid (HRr.out.keep hs); clear hs q0 q1 q2)
          change Code.wp _ _ _ _ (w5.alloc (.cells (Parse.scells S) 46))
          have hst := Stp.alloc (Stp.refl w5) (.cells (Parse.scells S) 46)
          replace h0' := Lib.hid (Stp.trans h0'.out hst)
          replace HB' := Lib.hid (HB'.out.keep hst HB'.out.lt)
          replace HRr := Lib.hid (HRr.out.keep hst)
          have HS := Lib.hid (Blk.new w5 46 (Parse.scells S))
          obtain ⟨gS, hgS⟩ : ∃ g, w5.heap.size = g := ⟨_, rfl⟩
          rw [hgS] at HS ⊢
          generalize w5.alloc (.cells (Parse.scells S) 46) = W5 at h0' HB' HRr HS ⊢
          clear hst hgS csp
          obtain ⟨q0, q1, q2⟩ := set_cells3 HB'.out
          obtain ⟨y0, y1, y2, y3, y4, y5, y6, y7, y8, y9, y10, y11, y12, y13⟩ := Parse.st_cells HS.out
          have heq : ∀ w, (Op.equalIn 10000 46 (Parse.sv S) (Parse.sv S)).run Tryz.prog w = .ok true w := fun w => by rw [Parse.eq_states]; simp
          have hng := Parse.eq_states_free
          have cL : ∀ d os, Calls Tryz.prog 17 #[.string ⟨s.label.toArray⟩, .slice A2 n d1] (grow (redrawn W5 d) os) fun e w'' => e = .returned (Parse.sv S) ∧ ∃ p : Regrown, w'' = grow (redrawn W5 p.d) p.os := fun d os => Calls.regrown_of (HI.out.left s.label _ rfl hlb (Q.take n) [] (Q.take n) HA.out n Htl.out Hj.out Hfit.out (.inl rfl) S X e9 HSV.out A2 d1 _ (HV2.out _ _ (HRr.out.keep (below_regrown W5 d os))) (HI.out.keep HT.out (Stp.trans h0'.out (below_regrown W5 d os))))
          have v0 := cell_regrown q0
          have v1 := cell_regrown q1
          have v2 := cell_regrown q2
          have v3 := cell_regrown y0
          have v4 := cell_regrown y1
          have v5 := cell_regrown y2
          have v6 := cell_regrown y3
          have v7 := cell_regrown y4
          have v8 := cell_regrown y5
          have v9 := cell_regrown y6
          have v10 := cell_regrown y7
          have v11 := cell_regrown y8
          have v12 := cell_regrown y9
          have v13 := cell_regrown y10
          have v14 := cell_regrown y11
          have v15 := cell_regrown y12
          have v16 := cell_regrown y13
          clear q0 q1 q2 y0 y1 y2 y3 y4 y5 y6 y7 y8 y9 y10 y11 y12 y13
          refine wp_region_quiet_below (by kernel_rfl) (by kernel_rfl) ?_
          repeat (go_big_quiet_step (with_reducible exact cL _ _))
          refine wpQuiet_nil ?_
          intro _ hw'
          obtain ⟨⟨dq, osq⟩, hw''⟩ := hw'
          subst hw''
          have X1 := Lib.hid (show Stp W5 (grow (redrawn W5 dq) osq) from below_regrown W5 dq osq)
          dsimp only
          generalize grow (redrawn W5 dq) osq = Y at X1 ⊢
          replace h0' := Lib.hid (Stp.trans h0'.out X1.out)
          go_wp2_with fail
          go_ret
          exact ⟨rfl, h0'.out⟩
        · subst e3
          go_upto_region 21 with (go_at_call 21; refine (HRun.out zeroS _ Parse.zero_sv zero_small (l.take pos) pos Hpl.out Hp1000.out Hb512.out S y yl pos 0 HRn.out HYl.out _ d2 _ (Entry.rdL_take HLr.out pos)).mono ?_; rintro e w5 ⟨B5, d5, rfl, -, hs⟩; replace h0' := Lib.hid (Stp.trans h0'.out hs); replace HB' := Lib.hid (HB'.out.keep hs HB'.out.lt); replace HRr := Lib.hid (HRr.out.keep hs); clear hs q0 q1 q2)
          change Code.wp _ _ _ _ (w5.alloc (.cells (Parse.scells S) 46))
          have hst := Stp.alloc (Stp.refl w5) (.cells (Parse.scells S) 46)
          replace h0' := Lib.hid (Stp.trans h0'.out hst)
          replace HB' := Lib.hid (HB'.out.keep hst HB'.out.lt)
          replace HRr := Lib.hid (HRr.out.keep hst)
          have HS := Lib.hid (Blk.new w5 46 (Parse.scells S))
          obtain ⟨gS, hgS⟩ : ∃ g, w5.heap.size = g := ⟨_, rfl⟩
          rw [hgS] at HS ⊢
          generalize w5.alloc (.cells (Parse.scells S) 46) = W5 at h0' HB' HRr HS ⊢
          clear hst hgS csp
          obtain ⟨q0, q1, q2⟩ := set_cells3 HB'.out
          obtain ⟨y0, y1, y2, y3, y4, y5, y6, y7, y8, y9, y10, y11, y12, y13⟩ := Parse.st_cells HS.out
          have heq : ∀ w, (Op.equalIn 10000 46 (Parse.sv S) (Parse.sv S)).run Tryz.prog w = .ok true w := fun w => by rw [Parse.eq_states]; simp
          have hng := Parse.eq_states_free
          have cL : ∀ d os, Calls Tryz.prog 17 #[.string ⟨s.label.toArray⟩, .slice A2 n d1] (grow (redrawn W5 d) os) fun e w'' => e = .returned (Parse.sv S) ∧ ∃ p : Regrown, w'' = grow (redrawn W5 p.d) p.os := fun d os => Calls.regrown_of (HI.out.left s.label _ rfl hlb (Q.take n) [] (Q.take n) HA.out n Htl.out Hj.out Hfit.out (.inl rfl) S X e9 HSV.out A2 d1 _ (HV2.out _ _ (HRr.out.keep (below_regrown W5 d os))) (HI.out.keep HT.out (Stp.trans h0'.out (below_regrown W5 d os))))
          have v0 := cell_regrown q0
          have v1 := cell_regrown q1
          have v2 := cell_regrown q2
          have v3 := cell_regrown y0
          have v4 := cell_regrown y1
          have v5 := cell_regrown y2
          have v6 := cell_regrown y3
          have v7 := cell_regrown y4
          have v8 := cell_regrown y5
          have v9 := cell_regrown y6
          have v10 := cell_regrown y7
          have v11 := cell_regrown y8
          have v12 := cell_regrown y9
          have v13 := cell_regrown y10
          have v14 := cell_regrown y11
          have v15 := cell_regrown y12
          have v16 := cell_regrown y13
          clear q0 q1 q2 y0 y1 y2 y3 y4 y5 y6 y7 y8 y9 y10 y11 y12 y13
          refine wp_region_quiet_below (by kernel_rfl) (by kernel_rfl) ?_
          repeat (go_big_quiet_step (with_reducible exact cL _ _))
          refine wpQuiet_nil ?_
          intro _ hw'
          obtain ⟨⟨dq, osq⟩, hw''⟩ := hw'
          subst hw''
          have X1 := Lib.hid (show Stp W5 (grow (redrawn W5 dq) osq) from below_regrown W5 dq osq)
          dsimp only
          generalize grow (redrawn W5 dq) osq = Y at X1 ⊢
          replace h0' := Lib.hid (Stp.trans h0'.out X1.out)
          go_wp2_with fail
          go_ret
          exact ⟨rfl, h0'.out⟩
theorem left_walk {Tb : World → Prop} (I : StripI Tb) (t : List Nd) (m : Nat) (hm : t.length = m) (hml : m < 9223372036854775808) (hn : ∀ n ∈ t, SmallN n) (s : Sett) (hs : Vol.SmallS s) (T A : Option Addr) (ct k : Nat) (w : World) (ht : RdN w T ct t) (ha : RdZ w A k s.caps) (htab : Tb w) (kk : Int) (hall : AllI) (hrun : Parse.RunI) :
    Calls Tryz.prog 6 #[.slice T m ct, Vol.sv s A k, .int .i64 kk] w fun e w' => e = .returned (.bool true) ∧ Stp w w' := by
  by_cases h : fewT t = false ∨ fewS s = false
  · exact left_out I t m hm hml hn s hs T A ct k w ht ha htab kk h
  · rw [not_or] at h
    exact left_in I t m hm hml hn s hs T A ct k w ht ha htab kk hall hrun (by simpa using h.1) (by simpa using h.2)
end Go.Proofs.YthjdejjejlhioaaGreatDoor.Strip
