/-
  The law VolumeBound, walked over the contracts: no statement is proved here.
-/
import Derived.Test.YtopihahjjcpnpaaGreatDoorVolZ
namespace Go.Proofs.YtopihahjjcpnpaaGreatDoor.Vol
open Go.Sort Go.RowKit Go.Proofs.YtopihahjjcpnpaaGreatDoor.Str Go.Proofs.YtopihahjjcpnpaaGreatDoor.Base Go.Proofs.YtopihahjjcpnpaaGreatDoor.Node Go.Proofs.YtopihahjjcpnpaaGreatDoor.Head Go.Proofs.YtopihahjjcpnpaaGreatDoor.Long Go.Proofs.YtopihahjjcpnpaaGreatDoor.Entry Go.Proofs.YtopihahjjcpnpaaGreatDoor.LabelM Go.Proofs.YtopihahjjcpnpaaGreatDoor.ContM Go.Proofs.YtopihahjjcpnpaaGreatDoor.Stream Go.Proofs.YtopihahjjcpnpaaGreatDoor.VolM
open Go.Proofs.YtopihahjjcpnpaaGreatDoor.Tree (oneB mayT fewT)
set_option linter.unusedVariables false

set_option maxRecDepth 100000 in
set_option maxHeartbeats 4000000 in
theorem bound_out {Tb : World → Prop} (I : VolI Tb) (t : List Nd) (m : Nat) (hm : t.length = m) (hml : m < 9223372036854775808) (hn : ∀ n ∈ t, SmallN n) (s : Sett) (hs : SmallS s) (T A : Option Addr) (ct k : Nat) (w : World) (ht : RdN w T ct t) (ha : RdZ w A k s.caps) (htab : Tb w) (hout : fewT t = false ∨ fewS s = false) :
    Calls Tryz.prog 8 #[.slice T m ct, sv s A k] w fun e w' => e = .returned (.bool true) ∧ Stp w w' := by
  have h0 := Lib.hid (Stp.alloc (Stp.refl w) (.cells (scells s A k) 25))
  have HB := Lib.hid (Blk.new w 25 (scells s A k))
  have Ht := Lib.hid ht
  have Ha : Hid (RdZ w A k s.caps) := Lib.hid ha
  have HT := Lib.hid htab
  have HI := Lib.hid I
  have Hm := Lib.hid hm
  have Hml := Lib.hid hml
  have Hn := Lib.hid hn
  have Hs := Lib.hid hs
  obtain ⟨q0, q1, q2⟩ := set_cells3 HB.out
  clear ht ha htab I hm hml hn hs
  obtain ⟨b1, f1⟩ : ∃ b, fewT t = b := ⟨_, rfl⟩
  obtain ⟨b2, f2⟩ : ∃ b, fewS s = b := ⟨_, rfl⟩
  have F1 := Lib.hid f1
  have F2 := Lib.hid f2
  have key : b1 = false ∨ (b1 = true ∧ b2 = false) := by
    rw [f1, f2] at hout
    cases b1 <;> simp_all
  clear f1 f2 hout
  rcases key with rfl | ⟨rfl, rfl⟩
  all_goals
    go_enter Tryz.func8, Tryz.ntmps8
    go_wp2_with (first
      | (go_at_call 11; (refine (awake_s HI.out _ (HI.out.keep HT.out h0.out)).mono ?_); rintro e wn ⟨rfl, hs⟩; replace h0 := Lib.hid (Stp.trans h0.out hs); replace HB := Lib.hid (HB.out.keep hs HB.out.lt); clear q0 q1 q2; clear hs; obtain ⟨q0, q1, q2⟩ := set_cells3 HB.out)
      | (go_at_call 12; (with_reducible refine (fewt_v t m Hm.out Hml.out _ F1.out T ct _ (Ht.out.keep h0.out)).mono ?_); rintro e wn ⟨rfl, hs⟩; replace h0 := Lib.hid (Stp.trans h0.out hs); replace HB := Lib.hid (HB.out.keep hs HB.out.lt); clear q0 q1 q2; clear hs; obtain ⟨q0, q1, q2⟩ := set_cells3 HB.out)
      | (go_at_call 13; (refine (fews_v s A k _ rfl _ F2.out _).mono ?_); rintro e wn ⟨rfl, hs⟩; replace h0 := Lib.hid (Stp.trans h0.out hs); replace HB := Lib.hid (HB.out.keep hs HB.out.lt); clear q0 q1 q2; clear hs; obtain ⟨q0, q1, q2⟩ := set_cells3 HB.out))
    go_ret
    exact ⟨rfl, h0.out⟩
set_option maxRecDepth 100000 in
set_option maxHeartbeats 8000000 in
theorem bound_in {Tb : World → Prop} (I : VolI Tb) (t : List Nd) (m : Nat) (hm : t.length = m) (hml : m < 9223372036854775808) (hn : ∀ n ∈ t, SmallN n) (s : Sett) (hs : SmallS s) (T A : Option Addr) (ct k : Nat) (w : World) (ht : RdN w T ct t) (ha : RdZ w A k s.caps) (htab : Tb w) (f1 : fewT t = true) (f2 : fewS s = true) (hmany : ManyI) (hle : (allS t).length ≤ 402) :
    Calls Tryz.prog 8 #[.slice T m ct, sv s A k] w fun e w' => e = .returned (.bool true) ∧ Stp w w' := by
  have h0 := Lib.hid (Stp.alloc (Stp.refl w) (.cells (scells s A k) 25))
  have HB := Lib.hid (Blk.new w 25 (scells s A k))
  have Ht := Lib.hid ht
  have Ha : Hid (RdZ w A k s.caps) := Lib.hid ha
  have HT := Lib.hid htab
  have HI := Lib.hid I
  have Hm := Lib.hid hm
  have Hml := Lib.hid hml
  have Hn := Lib.hid hn
  have Hs := Lib.hid hs
  obtain ⟨q0, q1, q2⟩ := set_cells3 HB.out
  clear ht ha htab I hm hml hn hs
  have F1 := Lib.hid f1
  have F2 := Lib.hid f2
  have Hm3 : Hid (m ≤ 1000) := Lib.hid (by have := (Tree.fewT_iff.1 f1).1; rw [Hm.out] at this; omega)
  obtain ⟨Q, E, hQ⟩ : ∃ Q E, splitV t s = (Q, E) := ⟨_, _, rfl⟩
  obtain ⟨z, hz⟩ : ∃ z, Q.length = z := ⟨_, rfl⟩
  have HQ := Lib.hid hQ
  have Hz := Lib.hid hz
  by_cases hE : E = 0
  · subst hE
    obtain ⟨N, hN⟩ : ∃ N, (allS t).length = N := ⟨_, rfl⟩
    obtain ⟨a1, a2, a3, a4⟩ := bound_facts hQ hz hN
    obtain ⟨hmt, hms, -⟩ := split_yes hQ
    have hz12 := split_few hQ
    rw [hz] at hz12
    have HNd : Hid (needsV t s = (z : Int)) := Lib.hid (by rw [needsV, hQ, ← hz]; rfl)
    obtain ⟨-, b1, b2, -, -⟩ := mayS_iff.1 hms
    obtain ⟨l9, hl9⟩ : ∃ l, leastV s z = l := ⟨_, rfl⟩
    have hb9 := least_in hms z a2
    rw [hl9] at hb9 a4
    have HMs := Lib.hid hms
    have HMy := Lib.hid hmany
    have HN := Lib.hid hN
    have Hl9 := Lib.hid hl9
    have A4 := Lib.hid a4
    have Hb9 := Lib.hid hb9
    have HzN : Hid (z ≤ N) := Lib.hid a3
    have HN9 : Hid (N ≤ 402) := Lib.hid (by rw [← hN]; exact hle)
    clear f1 f2 hQ hz hN a3 a4 hmt hms hl9 hb9 hmany hle
    go_enter Tryz.func8, Tryz.ntmps8
    go_upto_region 11 with (first
      | (go_at_call 11; (refine (awake_s HI.out _ (HI.out.keep HT.out h0.out)).mono ?_); rintro e wn ⟨rfl, hs⟩; replace h0 := Lib.hid (Stp.trans h0.out hs); replace HB := Lib.hid (HB.out.keep hs HB.out.lt); clear q0 q1 q2; clear hs; obtain ⟨q0, q1, q2⟩ := set_cells3 HB.out)
      | (go_at_call 12; (with_reducible refine (fewt_v t m Hm.out Hml.out _ F1.out T ct _ (Ht.out.keep h0.out)).mono ?_); rintro e wn ⟨rfl, hs⟩; replace h0 := Lib.hid (Stp.trans h0.out hs); replace HB := Lib.hid (HB.out.keep hs HB.out.lt); clear q0 q1 q2; clear hs; obtain ⟨q0, q1, q2⟩ := set_cells3 HB.out)
      | (go_at_call 13; (refine (fews_v s A k _ rfl _ F2.out _).mono ?_); rintro e wn ⟨rfl, hs⟩; replace h0 := Lib.hid (Stp.trans h0.out hs); replace HB := Lib.hid (HB.out.keep hs HB.out.lt); clear q0 q1 q2; clear hs; obtain ⟨q0, q1, q2⟩ := set_cells3 HB.out)
      | (go_at_call 14; (refine (HI.out.split t m Hm.out Hm3.out Hn.out s A k _ rfl Hs.out Q 0 HQ.out z Hz.out T ct _ (Ht.out.keep h0.out) (RdA.keep Ha.out h0.out) (HI.out.keep HT.out h0.out)).mono ?_); rintro e wn ⟨B1, d1, rfl, hr, hs⟩; replace h0 := Lib.hid (Stp.trans h0.out hs); replace HB := Lib.hid (HB.out.keep hs HB.out.lt); have HR := Lib.hid hr; clear hr; clear q0 q1 q2; clear hs; obtain ⟨q0, q1, q2⟩ := set_cells3 HB.out)
      | (go_at_call 31; (refine (HMy.out t m Hm.out Hm3.out Hn.out N HN.out T ct _ (Ht.out.keep h0.out)).mono ?_); rintro e wn ⟨rfl, hs⟩; replace h0 := Lib.hid (Stp.trans h0.out hs); replace HB := Lib.hid (HB.out.keep hs HB.out.lt); clear q0 q1 q2; clear hs; obtain ⟨q0, q1, q2⟩ := set_cells3 HB.out))
    go_wp2_with fail
    go_loopw [11, 12] (fun v i wr => ∃ j : Nat, j ≤ z ∧ i = .int .i64 (j : Int) ∧ v = .int .i64 (leastV s j) ∧ Hid (Stp w wr) ∧ Hid (Blk wr w.heap.size 25 (scells s A k))) (fun _ i _ => z - (intOf i).toNat)
    case atStart => exact ⟨0, by omega, rfl, rfl, h0, HB⟩
    case round =>
      clear q0 q1 q2 h0 HB
      obtain ⟨j, hj, rfl, rfl, h0, HB⟩ := hrel
      obtain ⟨q0, q1, q2⟩ := set_cells3 HB.out
      obtain ⟨lv, hlv⟩ : ∃ l, leastV s j = l := ⟨_, rfl⟩
      obtain ⟨l1, l2⟩ := least_in HMs.out j (by omega)
      rw [hlv] at l1 l2 ⊢
      have Hlv := Lib.hid hlv
      clear hlv
      by_cases hlt : j < z
      · obtain ⟨c, hc⟩ : ∃ c, s.caps[j]? = some c := ⟨_, List.getElem?_eq_getElem (by omega)⟩
        obtain ⟨p1, p2⟩ := prod_le HMs.out hc
        obtain ⟨r, hr⟩ : ∃ r, s.b * c = r := ⟨_, rfl⟩
        rw [hr] at p1 p2
        have w1 : IntKind.i64.wrap (s.b * c) = r := by rw [hr, IntKind.wrap_i64] <;> omega
        have w2 : IntKind.i64.wrap (r - 4) = r - 4 := by rw [IntKind.wrap_i64] <;> omega
        obtain ⟨d, hd⟩ : ∃ d, decide (r - 4 < lv) = d := ⟨_, rfl⟩
        have Hd := Lib.hid hd
        have Hr := Lib.hid hr
        have Hc := Lib.hid hc
        have g2 : (j : Int) < (z : Int) := by omega
        have g3 : (j : Int) < (s.caps.length : Int) := by omega
        have g4 : (0 : Int) ≤ (j : Int) := by omega
        clear hr hc
        obtain ⟨ga, oa, hA, qc⟩ := RdZ.cell (show RdZ wr A k s.caps from RdA.keep Ha.out h0.out) Hc.out
        subst hA
        have qall : ∀ w' : World, Stp w w' → w'.cell? ⟨ga, oa + j, none⟩ = some (.int .i64 c) := fun w' hs => by
          obtain ⟨b', o', e', q'⟩ := RdZ.cell (show RdZ w' _ k s.caps from RdA.keep Ha.out hs) Hc.out
          cases e'
          exact q'
        have HQa := Lib.hid qall
        clear qall
        go_wp2_with fail
        go_region
        have hst : Stp wr wr.drew := Stp.drewN (Stp.refl wr) 1
        replace h0 := Lib.hid (Stp.trans h0.out hst)
        replace HB := Lib.hid (HB.out.keep hst HB.out.lt)
        clear q0 q1 q2 hst qc
        generalize wr.drew = Wa at h0 HB ⊢
        obtain ⟨q0, q1, q2⟩ := set_cells3 HB.out
        have qc := HQa.out _ h0.out
        cases d
        · go_wp2_with fail
          go_roundw
          case rel => exact ⟨j + 1, by omega, by go_num, by rw [leastV, caps_getD Hc.out, Hr.out, Hlv.out, if_neg (by have := of_decide_eq_false Hd.out; omega)], h0, HB⟩
          case measure => simp [intOf]; omega
        · go_wp2_with fail
          go_region
          have hst : Stp Wa Wa.drew := Stp.drewN (Stp.refl Wa) 1
          replace h0 := Lib.hid (Stp.trans h0.out hst)
          replace HB := Lib.hid (HB.out.keep hst HB.out.lt)
          clear q0 q1 q2 hst qc
          generalize Wa.drew = Wb at h0 HB ⊢
          obtain ⟨q0, q1, q2⟩ := set_cells3 HB.out
          go_wp2_with fail
          go_roundw
          case rel => exact ⟨j + 1, by omega, by go_num, by rw [leastV, caps_getD Hc.out, Hr.out, Hlv.out, if_pos (of_decide_eq_true Hd.out)], h0, HB⟩
          case measure => simp [intOf]; omega
      · obtain rfl : j = z := by omega
        obtain rfl : lv = l9 := Hlv.out.symm.trans Hl9.out
        have k1 : j ≤ N := HzN.out
        have k2 := HN9.out
        by_cases hl : lv < 1
        · have g2 : decide (lv < 1) = true := decide_eq_true hl
          go_wp2_with (go_at_call 22; (refine (HI.out.needs t m Hm.out Hm3.out Hn.out s A k _ rfl Hs.out (j : Int) HNd.out T ct _ (Ht.out.keep h0.out) (RdA.keep Ha.out h0.out) (HI.out.keep HT.out h0.out)).mono ?_); rintro e wn ⟨rfl, hs⟩; replace h0 := Lib.hid (Stp.trans h0.out hs); replace HB := Lib.hid (HB.out.keep hs HB.out.lt); clear q0 q1 q2; clear hs; obtain ⟨q0, q1, q2⟩ := set_cells3 HB.out)
          go_ret
          exact ⟨rfl, h0.out⟩
        · obtain ⟨p, hp⟩ : ∃ p, ((j : Int) - 1) * lv = p := ⟨_, rfl⟩
          have h9 := A4.out (by omega)
          have h0p : 0 ≤ ((j : Int) - 1) * lv := Int.mul_nonneg (by omega) (by omega)
          rw [hp] at h9 h0p
          have g2 : decide (lv < 1) = false := decide_eq_false hl
          have g3 : IntKind.i64.wrap (((j : Int) - 1) * lv) = p := by rw [hp, IntKind.wrap_i64] <;> omega
          have g4 : decide (p < (N : Int)) = true := decide_eq_true h9
          clear hl hp h9 h0p
          go_wp2_with (go_at_call 22; (refine (HI.out.needs t m Hm.out Hm3.out Hn.out s A k _ rfl Hs.out (j : Int) HNd.out T ct _ (Ht.out.keep h0.out) (RdA.keep Ha.out h0.out) (HI.out.keep HT.out h0.out)).mono ?_); rintro e wn ⟨rfl, hs⟩; replace h0 := Lib.hid (Stp.trans h0.out hs); replace HB := Lib.hid (HB.out.keep hs HB.out.lt); clear q0 q1 q2; clear hs; obtain ⟨q0, q1, q2⟩ := set_cells3 HB.out)
          go_ret
          exact ⟨rfl, h0.out⟩
  · have g1 : (E != 0) = true := by simp [hE]
    have HNd : Hid (needsV t s = -1) := Lib.hid (by rw [needsV, hQ]; exact if_neg hE)
    clear f1 f2 hQ hz hE hmany hle
    go_enter Tryz.func8, Tryz.ntmps8
    go_wp2_with (first
      | (go_at_call 11; (refine (awake_s HI.out _ (HI.out.keep HT.out h0.out)).mono ?_); rintro e wn ⟨rfl, hs⟩; replace h0 := Lib.hid (Stp.trans h0.out hs); replace HB := Lib.hid (HB.out.keep hs HB.out.lt); clear q0 q1 q2; clear hs; obtain ⟨q0, q1, q2⟩ := set_cells3 HB.out)
      | (go_at_call 12; (with_reducible refine (fewt_v t m Hm.out Hml.out _ F1.out T ct _ (Ht.out.keep h0.out)).mono ?_); rintro e wn ⟨rfl, hs⟩; replace h0 := Lib.hid (Stp.trans h0.out hs); replace HB := Lib.hid (HB.out.keep hs HB.out.lt); clear q0 q1 q2; clear hs; obtain ⟨q0, q1, q2⟩ := set_cells3 HB.out)
      | (go_at_call 13; (refine (fews_v s A k _ rfl _ F2.out _).mono ?_); rintro e wn ⟨rfl, hs⟩; replace h0 := Lib.hid (Stp.trans h0.out hs); replace HB := Lib.hid (HB.out.keep hs HB.out.lt); clear q0 q1 q2; clear hs; obtain ⟨q0, q1, q2⟩ := set_cells3 HB.out)
      | (go_at_call 14; (refine (HI.out.split t m Hm.out Hm3.out Hn.out s A k _ rfl Hs.out Q E HQ.out z Hz.out T ct _ (Ht.out.keep h0.out) (RdA.keep Ha.out h0.out) (HI.out.keep HT.out h0.out)).mono ?_); rintro e wn ⟨B1, d1, rfl, hr, hs⟩; replace h0 := Lib.hid (Stp.trans h0.out hs); replace HB := Lib.hid (HB.out.keep hs HB.out.lt); have HR := Lib.hid hr; clear hr; clear q0 q1 q2; clear hs; obtain ⟨q0, q1, q2⟩ := set_cells3 HB.out)
      | (go_at_call 22; (refine (HI.out.needs t m Hm.out Hm3.out Hn.out s A k _ rfl Hs.out (-1) HNd.out T ct _ (Ht.out.keep h0.out) (RdA.keep Ha.out h0.out) (HI.out.keep HT.out h0.out)).mono ?_); rintro e wn ⟨rfl, hs⟩; replace h0 := Lib.hid (Stp.trans h0.out hs); replace HB := Lib.hid (HB.out.keep hs HB.out.lt); clear q0 q1 q2; clear hs; obtain ⟨q0, q1, q2⟩ := set_cells3 HB.out))
    go_ret
    exact ⟨rfl, h0.out⟩
theorem bound_walk {Tb : World → Prop} (I : VolI Tb) (t : List Nd) (m : Nat) (hm : t.length = m) (hml : m < 9223372036854775808) (hn : ∀ n ∈ t, SmallN n) (s : Sett) (hs : SmallS s) (T A : Option Addr) (ct k : Nat) (w : World) (ht : RdN w T ct t) (ha : RdZ w A k s.caps) (htab : Tb w) (hmany : ManyI) (hle : (allS t).length ≤ 402) :
    Calls Tryz.prog 8 #[.slice T m ct, sv s A k] w fun e w' => e = .returned (.bool true) ∧ Stp w w' := by
  by_cases h : fewT t = false ∨ fewS s = false
  · exact bound_out I t m hm hml hn s hs T A ct k w ht ha htab h
  · rw [not_or] at h
    exact bound_in I t m hm hml hn s hs T A ct k w ht ha htab (by simpa using h.1) (by simpa using h.2) hmany hle
end Go.Proofs.YtopihahjjcpnpaaGreatDoor.Vol
