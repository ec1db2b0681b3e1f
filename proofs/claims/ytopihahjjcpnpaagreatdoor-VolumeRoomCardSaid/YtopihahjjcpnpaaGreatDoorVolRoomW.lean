/-
  The law VolumeRoom, walked over the contracts: no statement is proved here.
-/
import Derived.Test.YtopihahjjcpnpaaGreatDoorVolI
namespace Go.Proofs.YtopihahjjcpnpaaGreatDoor.Vol
open Go.Sort Go.RowKit Go.Proofs.YtopihahjjcpnpaaGreatDoor.Str Go.Proofs.YtopihahjjcpnpaaGreatDoor.Base Go.Proofs.YtopihahjjcpnpaaGreatDoor.Node Go.Proofs.YtopihahjjcpnpaaGreatDoor.Head Go.Proofs.YtopihahjjcpnpaaGreatDoor.Long Go.Proofs.YtopihahjjcpnpaaGreatDoor.Entry Go.Proofs.YtopihahjjcpnpaaGreatDoor.LabelM Go.Proofs.YtopihahjjcpnpaaGreatDoor.ContM Go.Proofs.YtopihahjjcpnpaaGreatDoor.Stream Go.Proofs.YtopihahjjcpnpaaGreatDoor.VolM
open Go.Proofs.YtopihahjjcpnpaaGreatDoor.Tree (oneB mayT fewT)
set_option linter.unusedVariables false

theorem room_facts {t : List Nd} {s : Sett} {Q : List LL} {E : Int} (h : splitV t s = (Q, E)) : Q.length ≤ s.caps.length ∧ (E = 0 → Q.length ≠ 0) ∧ (E = 14 → Q.length = s.caps.length) ∧
    ∀ (j : Nat) (v : LL), Q[j]? = some v → 1 ≤ s.b ∧ s.b ≤ 20 ∧ ∃ c, s.caps[j]? = some c ∧ 0 ≤ c ∧ c ≤ 200 ∧ 2 ≤ v.length ∧ (v.length : Int) ≤ s.b * c ∧ (v.length : Int) % s.b = 0 ∧ ((v.length : Int) = s.b * c ∨ (E = 0 ∧ j + 1 = Q.length)) ∧ BlockM.mayV v = true := by
  by_cases hm : (mayT t && mayS s) = true
  · rw [Bool.and_eq_true] at hm
    have hc := chain_split hm.1 hm.2
    rw [h] at hc
    dsimp only at hc
    obtain ⟨h1, h2, h3⟩ := chain_count hc (Nat.zero_le _)
    rw [Nat.zero_add] at h1 h2
    refine ⟨h1, fun e hz => ?_, h2, fun j v hv => ?_⟩
    · have hq : Q = [] := List.eq_nil_of_length_eq_zero hz
      subst hq
      rcases chain_nil hc with ⟨-, a⟩ | ⟨a, -⟩
      · have h9 := many_two hm.1
        omega
      · exact a e
    · obtain ⟨-, b1, b2, -, -⟩ := mayS_iff.1 hm.2
      obtain ⟨c, g1, g2, g3, g4, g5, g6⟩ := chain_room hm.2 hc j v hv
      rw [Nat.zero_add] at g1
      obtain ⟨c1, c2⟩ := cap_ok hm.2 g1
      have h5 : 0 ≤ s.b * c := Int.mul_nonneg (by omega) c1
      refine ⟨b1, b2, c, g1, c1, c2, g2, by omega, ?_, ?_, g6⟩
      · have : ((v.length % s.b.toNat : Nat) : Int) = 0 := by rw [g4]; rfl
        rw [Int.natCast_emod] at this
        rw [show s.b = ((s.b.toNat : Nat) : Int) by omega]
        exact this
      · rcases g5 with g5 | g5
        · exact .inl (by omega)
        · exact .inr g5
  · rw [split_no (by simpa using hm)] at h
    cases h
    exact ⟨Nat.zero_le _, (fun h => by cases h), (fun h => by cases h), (fun j v hv => by simp at hv)⟩
set_option maxRecDepth 100000 in
set_option maxHeartbeats 4000000 in
theorem room_out {Tb : World → Prop} (I : VolI Tb) (t : List Nd) (m : Nat) (hm : t.length = m) (hml : m < 9223372036854775808) (hn : ∀ n ∈ t, SmallN n) (s : Sett) (hs : SmallS s) (T A : Option Addr) (ct k : Nat) (w : World) (ht : RdN w T ct t) (ha : RdZ w A k s.caps) (htab : Tb w) (i : Int) (hout : fewT t = false ∨ fewS s = false) :
    Calls Tryz.prog 4 #[.slice T m ct, sv s A k, .int .i64 i] w fun e w' => e = .returned (.bool true) ∧ Stp w w' := by
  have h0 := Lib.hid (Stp.alloc (Stp.refl w) (.cells (scells s A k) 25))
  have HB := Lib.hid (Blk.new w 25 (scells s A k))
  have Ht := Lib.hid ht
  have Ha : Hid (RdZ w A k s.caps) := Lib.hid ha
  have HT := Lib.hid htab
  have HI := Lib.hid I
  have Hm := Lib.hid hm
  have Hml := Lib.hid hml
  have Hn := Lib.hid hn
  have Hs := Lib.hid hs
  obtain ⟨q0, q1, q2⟩ := set_cells3 HB.out
  clear ht ha htab I hm hml hn hs
  obtain ⟨b1, f1⟩ : ∃ b, fewT t = b := ⟨_, rfl⟩
  obtain ⟨b2, f2⟩ : ∃ b, fewS s = b := ⟨_, rfl⟩
  have F1 := Lib.hid f1
  have F2 := Lib.hid f2
  have key : b1 = false ∨ (b1 = true ∧ b2 = false) := by
    rw [f1, f2] at hout
    cases b1 <;> simp_all
  clear f1 f2 hout
  rcases key with rfl | ⟨rfl, rfl⟩
  all_goals
    go_enter Tryz.func4, Tryz.ntmps4
    go_wp2_with (first
      | (go_at_call 11; (refine (awake_s HI.out _ (HI.out.keep HT.out h0.out)).mono ?_); rintro e wn ⟨rfl, hs⟩; replace h0 := Lib.hid (Stp.trans h0.out hs); replace HB := Lib.hid (HB.out.keep hs HB.out.lt); clear q0 q1 q2; clear hs; obtain ⟨q0, q1, q2⟩ := set_cells3 HB.out)
      | (go_at_call 12; (with_reducible refine (fewt_v t m Hm.out Hml.out _ F1.out T ct _ (Ht.out.keep h0.out)).mono ?_); rintro e wn ⟨rfl, hs⟩; replace h0 := Lib.hid (Stp.trans h0.out hs); replace HB := Lib.hid (HB.out.keep hs HB.out.lt); clear q0 q1 q2; clear hs; obtain ⟨q0, q1, q2⟩ := set_cells3 HB.out)
      | (go_at_call 13; (refine (fews_v s A k _ rfl _ F2.out _).mono ?_); rintro e wn ⟨rfl, hs⟩; replace h0 := Lib.hid (Stp.trans h0.out hs); replace HB := Lib.hid (HB.out.keep hs HB.out.lt); clear q0 q1 q2; clear hs; obtain ⟨q0, q1, q2⟩ := set_cells3 HB.out))
    go_ret
    exact ⟨rfl, h0.out⟩
set_option maxRecDepth 100000 in
set_option maxHeartbeats 8000000 in
theorem room_in {Tb : World → Prop} (I : VolI Tb) (t : List Nd) (m : Nat) (hm : t.length = m) (hml : m < 9223372036854775808) (hn : ∀ n ∈ t, SmallN n) (s : Sett) (hs : SmallS s) (T A : Option Addr) (ct k : Nat) (w : World) (ht : RdN w T ct t) (ha : RdZ w A k s.caps) (htab : Tb w) (i : Int) (f1 : fewT t = true) (f2 : fewS s = true) :
    Calls Tryz.prog 4 #[.slice T m ct, sv s A k, .int .i64 i] w fun e w' => e = .returned (.bool true) ∧ Stp w w' := by
  have h0 := Lib.hid (Stp.alloc (Stp.refl w) (.cells (scells s A k) 25))
  have HB := Lib.hid (Blk.new w 25 (scells s A k))
  have Ht := Lib.hid ht
  have Ha : Hid (RdZ w A k s.caps) := Lib.hid ha
  have HT := Lib.hid htab
  have HI := Lib.hid I
  have Hm := Lib.hid hm
  have Hml := Lib.hid hml
  have Hn := Lib.hid hn
  have Hs := Lib.hid hs
  obtain ⟨q0, q1, q2⟩ := set_cells3 HB.out
  clear ht ha htab I hm hml hn hs
  have F1 := Lib.hid f1
  have F2 := Lib.hid f2
  have Hm3 : Hid (m ≤ 1000) := Lib.hid (by have := (Tree.fewT_iff.1 f1).1; rw [Hm.out] at this; omega)
  obtain ⟨Q, E, hQ⟩ : ∃ Q E, splitV t s = (Q, E) := ⟨_, _, rfl⟩
  obtain ⟨z, hz⟩ : ∃ z, Q.length = z := ⟨_, rfl⟩
  obtain ⟨a1, a2, a3, a4⟩ := room_facts hQ
  rw [hz] at a1 a2 a3 a4
  obtain ⟨e0, x0⟩ : ∃ b, (E == 0) = b := ⟨_, rfl⟩
  obtain ⟨e1, x1⟩ : ∃ b, (E == 14) = b := ⟨_, rfl⟩
  have hcl := Hs.out.few
  have key : (e0 = false ∧ e1 = false) ∨ (e0 = true ∧ e1 = false ∧ ((z : Int) == 0) = false) ∨ (e0 = false ∧ e1 = true ∧ ((z : Int) != (s.caps.length : Int)) = false) := by
    by_cases h0 : E = 0
    · refine .inr (.inl ⟨by rw [← x0]; simp [h0], by rw [← x1, h0]; rfl, by have := a2 h0; simp only [beq_eq_false_iff_ne]; omega⟩)
    · by_cases h1 : E = 14
      · refine .inr (.inr ⟨by rw [← x0]; simp [h0], by rw [← x1]; simp [h1], by simp [a3 h1]⟩)
      · exact .inl ⟨by rw [← x0]; simp [h0], by rw [← x1]; simp [h1]⟩
  have HQ := Lib.hid hQ
  have Hz := Lib.hid hz
  have hz12 := split_few hQ
  have keyi : i < 0 ∨ (z : Int) ≤ i ∨ ∃ (j : Nat) (v : LL) (c : Int), i = (j : Int) ∧ j < z ∧ Q[j]? = some v ∧ 1 ≤ s.b ∧ s.b ≤ 20 ∧ s.caps[j]? = some c ∧ 0 ≤ c ∧ c ≤ 200 ∧ 2 ≤ v.length ∧ (v.length : Int) ≤ s.b * c ∧ (v.length : Int) % s.b = 0 ∧ ((v.length : Int) = s.b * c ∨ (E = 0 ∧ j + 1 = z)) ∧ BlockM.mayV v = true := by
    by_cases h1 : i < 0
    · exact .inl h1
    · by_cases h2 : (z : Int) ≤ i
      · exact .inr (.inl h2)
      · obtain ⟨v, hv⟩ : ∃ v, Q[i.toNat]? = some v := ⟨_, List.getElem?_eq_getElem (by omega)⟩
        obtain ⟨b1, b2, c, b3⟩ := a4 _ v hv
        exact .inr (.inr ⟨i.toNat, v, c, by omega, by omega, hv, b1, b2, b3⟩)
  have Hz12 := Lib.hid (show z ≤ 12 by omega)
  have g1 : z ≤ s.caps.length := a1
  clear f1 f2 hQ hz a1 a2 a3 a4 hz12 hcl
  rcases keyi with hi | hi | ⟨j, v, c, rfl, hj, hv, b1, b2, hc, c1, c2, v2, v3, v4, v5, v6⟩
  · have g2 : decide (i < 0) = true := decide_eq_true hi
    clear hi
    rcases key with ⟨rfl, rfl⟩ | ⟨rfl, rfl, g3⟩ | ⟨rfl, rfl, g3⟩
    all_goals
      go_enter Tryz.func4, Tryz.ntmps4
      go_wp2_with (first
        | (go_at_call 11; (refine (awake_s HI.out _ (HI.out.keep HT.out h0.out)).mono ?_); rintro e wn ⟨rfl, hs⟩; replace h0 := Lib.hid (Stp.trans h0.out hs); replace HB := Lib.hid (HB.out.keep hs HB.out.lt); clear q0 q1 q2; clear hs; obtain ⟨q0, q1, q2⟩ := set_cells3 HB.out)
        | (go_at_call 12; (with_reducible refine (fewt_v t m Hm.out Hml.out _ F1.out T ct _ (Ht.out.keep h0.out)).mono ?_); rintro e wn ⟨rfl, hs⟩; replace h0 := Lib.hid (Stp.trans h0.out hs); replace HB := Lib.hid (HB.out.keep hs HB.out.lt); clear q0 q1 q2; clear hs; obtain ⟨q0, q1, q2⟩ := set_cells3 HB.out)
        | (go_at_call 13; (refine (fews_v s A k _ rfl _ F2.out _).mono ?_); rintro e wn ⟨rfl, hs⟩; replace h0 := Lib.hid (Stp.trans h0.out hs); replace HB := Lib.hid (HB.out.keep hs HB.out.lt); clear q0 q1 q2; clear hs; obtain ⟨q0, q1, q2⟩ := set_cells3 HB.out)
        | (go_at_call 14; (refine (HI.out.split t m Hm.out Hm3.out Hn.out s A k _ rfl Hs.out Q E HQ.out z Hz.out T ct _ (Ht.out.keep h0.out) (RdA.keep Ha.out h0.out) (HI.out.keep HT.out h0.out)).mono ?_); rintro e wn ⟨B1, d1, rfl, hr, hs⟩; replace h0 := Lib.hid (Stp.trans h0.out hs); replace HB := Lib.hid (HB.out.keep hs HB.out.lt); have HR := Lib.hid hr; clear hr; clear q0 q1 q2; clear hs; obtain ⟨q0, q1, q2⟩ := set_cells3 HB.out))
      go_ret
      exact ⟨rfl, h0.out⟩
  · have g2 : decide (i < 0) = false := decide_eq_false (by omega)
    have g4 : decide ((z : Int) ≤ i) = true := decide_eq_true hi
    clear hi
    rcases key with ⟨rfl, rfl⟩ | ⟨rfl, rfl, g3⟩ | ⟨rfl, rfl, g3⟩
    all_goals
      go_enter Tryz.func4, Tryz.ntmps4
      go_wp2_with (first
        | (go_at_call 11; (refine (awake_s HI.out _ (HI.out.keep HT.out h0.out)).mono ?_); rintro e wn ⟨rfl, hs⟩; replace h0 := Lib.hid (Stp.trans h0.out hs); replace HB := Lib.hid (HB.out.keep hs HB.out.lt); clear q0 q1 q2; clear hs; obtain ⟨q0, q1, q2⟩ := set_cells3 HB.out)
        | (go_at_call 12; (with_reducible refine (fewt_v t m Hm.out Hml.out _ F1.out T ct _ (Ht.out.keep h0.out)).mono ?_); rintro e wn ⟨rfl, hs⟩; replace h0 := Lib.hid (Stp.trans h0.out hs); replace HB := Lib.hid (HB.out.keep hs HB.out.lt); clear q0 q1 q2; clear hs; obtain ⟨q0, q1, q2⟩ := set_cells3 HB.out)
        | (go_at_call 13; (refine (fews_v s A k _ rfl _ F2.out _).mono ?_); rintro e wn ⟨rfl, hs⟩; replace h0 := Lib.hid (Stp.trans h0.out hs); replace HB := Lib.hid (HB.out.keep hs HB.out.lt); clear q0 q1 q2; clear hs; obtain ⟨q0, q1, q2⟩ := set_cells3 HB.out)
        | (go_at_call 14; (refine (HI.out.split t m Hm.out Hm3.out Hn.out s A k _ rfl Hs.out Q E HQ.out z Hz.out T ct _ (Ht.out.keep h0.out) (RdA.keep Ha.out h0.out) (HI.out.keep HT.out h0.out)).mono ?_); rintro e wn ⟨B1, d1, rfl, hr, hs⟩; replace h0 := Lib.hid (Stp.trans h0.out hs); replace HB := Lib.hid (HB.out.keep hs HB.out.lt); have HR := Lib.hid hr; clear hr; clear q0 q1 q2; clear hs; obtain ⟨q0, q1, q2⟩ := set_cells3 HB.out))
      go_ret
      exact ⟨rfl, h0.out⟩
  · obtain ⟨r, hr⟩ : ∃ r, s.b * c = r := ⟨_, rfl⟩
    obtain ⟨y, hy⟩ : ∃ y, v.length = y := ⟨_, rfl⟩
    rw [hr, hy] at v3 v5
    rw [hy] at v2 v4
    have hr0 : 0 ≤ r ∧ r ≤ 4000 := by
      rw [← hr]
      exact ⟨Int.mul_nonneg (by omega) c1, by have : s.b * c ≤ 20 * 200 := Int.mul_le_mul b2 c2 c1 (by omega); omega⟩
    have g2 : decide ((j : Int) < 0) = false := decide_eq_false (by omega)
    have g4 : decide ((z : Int) ≤ (j : Int)) = false := decide_eq_false (by omega)
    have w1 : IntKind.i64.wrap (s.b * c) = r := by rw [hr, IntKind.wrap_i64] <;> omega
    have k5 : decide ((2 : Int) ≤ (y : Int)) = true := decide_eq_true (by omega)
    have k6 : decide ((y : Int) ≤ r) = true := decide_eq_true v3
    have k7 : ((y : Int) % s.b == 0) = true := by rw [v4]; rfl
    obtain ⟨e9, k8⟩ : ∃ b, ((y : Int) == r) = b := ⟨_, rfl⟩
    have k9 : e9 = true ∨ (e9 = false ∧ e0 = true ∧ ((j : Int) == (z : Int) - 1) = true) := by
      rcases v5 with h | ⟨h, h'⟩
      · exact .inl (by rw [← k8, h]; simp)
      · cases e9
        · exact .inr ⟨rfl, by rw [← x0, h]; rfl, by simp; omega⟩
        · exact .inl rfl
    have Hv := Lib.hid hv
    have Hc := Lib.hid hc
    have Hy := Lib.hid hy
    have Hy9 := Lib.hid (show y < 9223372036854775808 by omega)
    have V6 := Lib.hid v6
    have g5 : 0 ≤ (j : Int) := by omega
    have g6 : (j : Int) < (z : Int) := by omega
    have g7 : (j : Int) < (s.caps.length : Int) := by have := (List.getElem?_eq_some_iff.1 hc).1; omega
    have g8 : (z : Int) ≤ 12 := by have := Hz12.out; omega
    clear hr hy v2 v3 v4 v5 v6 hv hc c1 c2 hj
    rcases key with ⟨rfl, rfl⟩ | ⟨rfl, rfl, g3⟩ | ⟨rfl, rfl, g3⟩
    all_goals
      go_enter Tryz.func4, Tryz.ntmps4
      go_upto_region 11 with (first
        | (go_at_call 11; (refine (awake_s HI.out _ (HI.out.keep HT.out h0.out)).mono ?_); rintro e wn ⟨rfl, hs⟩; replace h0 := Lib.hid (Stp.trans h0.out hs); replace HB := Lib.hid (HB.out.keep hs HB.out.lt); clear q0 q1 q2; clear hs; obtain ⟨q0, q1, q2⟩ := set_cells3 HB.out)
        | (go_at_call 12; (with_reducible refine (fewt_v t m Hm.out Hml.out _ F1.out T ct _ (Ht.out.keep h0.out)).mono ?_); rintro e wn ⟨rfl, hs⟩; replace h0 := Lib.hid (Stp.trans h0.out hs); replace HB := Lib.hid (HB.out.keep hs HB.out.lt); clear q0 q1 q2; clear hs; obtain ⟨q0, q1, q2⟩ := set_cells3 HB.out)
        | (go_at_call 13; (refine (fews_v s A k _ rfl _ F2.out _).mono ?_); rintro e wn ⟨rfl, hs⟩; replace h0 := Lib.hid (Stp.trans h0.out hs); replace HB := Lib.hid (HB.out.keep hs HB.out.lt); clear q0 q1 q2; clear hs; obtain ⟨q0, q1, q2⟩ := set_cells3 HB.out)
        | (go_at_call 14; (refine (HI.out.split t m Hm.out Hm3.out Hn.out s A k _ rfl Hs.out Q E HQ.out z Hz.out T ct _ (Ht.out.keep h0.out) (RdA.keep Ha.out h0.out) (HI.out.keep HT.out h0.out)).mono ?_); rintro e wn ⟨B1, d1, rfl, hr, hs⟩; replace h0 := Lib.hid (Stp.trans h0.out hs); replace HB := Lib.hid (HB.out.keep hs HB.out.lt); have HR := Lib.hid hr; clear hr; clear q0 q1 q2; clear hs; obtain ⟨q0, q1, q2⟩ := set_cells3 HB.out))
    all_goals
      obtain ⟨ga, oa, hA, qc⟩ := RdZ.cell (show RdZ wn A k s.caps from RdA.keep Ha.out h0.out) Hc.out
      subst hA
      obtain ⟨gb, ob, Bv, dv, hB, qv, hLv⟩ := HR.out.at_ Hv.out
      subst hB
      rw [Hy.out] at qv
      have HLv := Lib.hid hLv
      clear hLv
      rcases k9 with rfl | ⟨rfl, h9, k9⟩
      all_goals first
        | exact absurd h9 (by decide)
        | skip
      all_goals
        go_region
        have hst : Stp wn wn.drew := Stp.drewN (Stp.refl wn) 1
        replace h0 := Lib.hid (Stp.trans h0.out hst)
        replace HB := Lib.hid (HB.out.keep hst HB.out.lt)
        replace HLv := Lib.hid (HLv.out.keep hst)
        replace qv : wn.drew.cell? ⟨gb, ob + j, none⟩ = some (.slice Bv y dv) := qv
        clear q0 q1 q2 qc hst HR
        generalize wn.drew = W2 at h0 HB HLv qv ⊢
        obtain ⟨q0, q1, q2⟩ := set_cells3 HB.out
        go_wp2_with (go_at_call 25; (with_reducible refine (bmay_v v y Hy.out Hy9.out true V6.out Bv dv _ HLv.out).mono ?_); rintro e w9 ⟨rfl, hs⟩; replace h0 := Lib.hid (Stp.trans h0.out hs); clear hs qv q0 q1 q2)
        go_ret
        exact ⟨rfl, h0.out⟩
theorem room_walk {Tb : World → Prop} (I : VolI Tb) (t : List Nd) (m : Nat) (hm : t.length = m) (hml : m < 9223372036854775808) (hn : ∀ n ∈ t, SmallN n) (s : Sett) (hs : SmallS s) (T A : Option Addr) (ct k : Nat) (w : World) (ht : RdN w T ct t) (ha : RdZ w A k s.caps) (htab : Tb w) (i : Int) :
    Calls Tryz.prog 4 #[.slice T m ct, sv s A k, .int .i64 i] w fun e w' => e = .returned (.bool true) ∧ Stp w w' := by
  by_cases h : fewT t = false ∨ fewS s = false
  · exact room_out I t m hm hml hn s hs T A ct k w ht ha htab i h
  · rw [not_or] at h
    exact room_in I t m hm hml hn s hs T A ct k w ht ha htab i (by simpa using h.1) (by simpa using h.2)
end Go.Proofs.YtopihahjjcpnpaaGreatDoor.Vol
