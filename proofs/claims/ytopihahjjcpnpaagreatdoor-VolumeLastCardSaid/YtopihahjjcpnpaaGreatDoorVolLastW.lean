/-
  The law VolumeLast, walked over the contracts: no statement is proved here.
-/
import Derived.Test.YtopihahjjcpnpaaGreatDoorVolZ
namespace Go.Proofs.YtopihahjjcpnpaaGreatDoor.Vol
open Go.Sort Go.RowKit Go.Proofs.YtopihahjjcpnpaaGreatDoor.Str Go.Proofs.YtopihahjjcpnpaaGreatDoor.Base Go.Proofs.YtopihahjjcpnpaaGreatDoor.Node Go.Proofs.YtopihahjjcpnpaaGreatDoor.Head Go.Proofs.YtopihahjjcpnpaaGreatDoor.Long Go.Proofs.YtopihahjjcpnpaaGreatDoor.Entry Go.Proofs.YtopihahjjcpnpaaGreatDoor.LabelM Go.Proofs.YtopihahjjcpnpaaGreatDoor.ContM Go.Proofs.YtopihahjjcpnpaaGreatDoor.Stream Go.Proofs.YtopihahjjcpnpaaGreatDoor.VolM
open Go.Proofs.YtopihahjjcpnpaaGreatDoor.Tree (oneB mayT fewT)
set_option linter.unusedVariables false

set_option maxRecDepth 100000 in
set_option maxHeartbeats 4000000 in
theorem last_out {Tb : World → Prop} (I : VolI Tb) (t : List Nd) (m : Nat) (hm : t.length = m) (hml : m < 9223372036854775808) (hn : ∀ n ∈ t, SmallN n) (s : Sett) (hs : SmallS s) (T A : Option Addr) (ct k : Nat) (w : World) (ht : RdN w T ct t) (ha : RdZ w A k s.caps) (htab : Tb w) (hout : fewT t = false ∨ fewS s = false) :
    Calls Tryz.prog 10 #[.slice T m ct, sv s A k] w fun e w' => e = .returned (.bool true) ∧ Stp w w' := by
  have h0 := Lib.hid (Stp.alloc (Stp.refl w) (.cells (scells s A k) 25))
  have HB := Lib.hid (Blk.new w 25 (scells s A k))
  have Ht := Lib.hid ht
  have Ha : Hid (RdZ w A k s.caps) := Lib.hid ha
  have HT := Lib.hid htab
  have HI := Lib.hid I
  have Hm := Lib.hid hm
  have Hml := Lib.hid hml
  have Hn := Lib.hid hn
  have Hs := Lib.hid hs
  obtain ⟨q0, q1, q2⟩ := set_cells3 HB.out
  clear ht ha htab I hm hml hn hs
  obtain ⟨b1, f1⟩ : ∃ b, fewT t = b := ⟨_, rfl⟩
  obtain ⟨b2, f2⟩ : ∃ b, fewS s = b := ⟨_, rfl⟩
  have F1 := Lib.hid f1
  have F2 := Lib.hid f2
  have key : b1 = false ∨ (b1 = true ∧ b2 = false) := by
    rw [f1, f2] at hout
    cases b1 <;> simp_all
  clear f1 f2 hout
  rcases key with rfl | ⟨rfl, rfl⟩
  all_goals
    go_enter Tryz.func10, Tryz.ntmps10
    go_wp2_with (first
      | (go_at_call 11; (refine (awake_s HI.out _ (HI.out.keep HT.out h0.out)).mono ?_); rintro e wn ⟨rfl, hs⟩; replace h0 := Lib.hid (Stp.trans h0.out hs); replace HB := Lib.hid (HB.out.keep hs HB.out.lt); clear q0 q1 q2; clear hs; obtain ⟨q0, q1, q2⟩ := set_cells3 HB.out)
      | (go_at_call 12; (with_reducible refine (fewt_v t m Hm.out Hml.out _ F1.out T ct _ (Ht.out.keep h0.out)).mono ?_); rintro e wn ⟨rfl, hs⟩; replace h0 := Lib.hid (Stp.trans h0.out hs); replace HB := Lib.hid (HB.out.keep hs HB.out.lt); clear q0 q1 q2; clear hs; obtain ⟨q0, q1, q2⟩ := set_cells3 HB.out)
      | (go_at_call 13; (refine (fews_v s A k _ rfl _ F2.out _).mono ?_); rintro e wn ⟨rfl, hs⟩; replace h0 := Lib.hid (Stp.trans h0.out hs); replace HB := Lib.hid (HB.out.keep hs HB.out.lt); clear q0 q1 q2; clear hs; obtain ⟨q0, q1, q2⟩ := set_cells3 HB.out))
    go_ret
    exact ⟨rfl, h0.out⟩
set_option maxRecDepth 100000 in
set_option maxHeartbeats 8000000 in
theorem last_in {Tb : World → Prop} (I : VolI Tb) (t : List Nd) (m : Nat) (hm : t.length = m) (hml : m < 9223372036854775808) (hn : ∀ n ∈ t, SmallN n) (s : Sett) (hs : SmallS s) (T A : Option Addr) (ct k : Nat) (w : World) (ht : RdN w T ct t) (ha : RdZ w A k s.caps) (htab : Tb w) (f1 : fewT t = true) (f2 : fewS s = true) (hmany : ManyI) (hle : (allS t).length ≤ 402) :
    Calls Tryz.prog 10 #[.slice T m ct, sv s A k] w fun e w' => e = .returned (.bool true) ∧ Stp w w' := by
  have h0 := Lib.hid (Stp.alloc (Stp.refl w) (.cells (scells s A k) 25))
  have HB := Lib.hid (Blk.new w 25 (scells s A k))
  have Ht := Lib.hid ht
  have Ha : Hid (RdZ w A k s.caps) := Lib.hid ha
  have HT := Lib.hid htab
  have HI := Lib.hid I
  have Hm := Lib.hid hm
  have Hml := Lib.hid hml
  have Hn := Lib.hid hn
  have Hs := Lib.hid hs
  obtain ⟨q0, q1, q2⟩ := set_cells3 HB.out
  clear ht ha htab I hm hml hn hs
  have F1 := Lib.hid f1
  have F2 := Lib.hid f2
  have Hm3 : Hid (m ≤ 1000) := Lib.hid (by have := (Tree.fewT_iff.1 f1).1; rw [Hm.out] at this; omega)
  obtain ⟨Q, E, hQ⟩ : ∃ Q E, splitV t s = (Q, E) := ⟨_, _, rfl⟩
  obtain ⟨z, hz⟩ : ∃ z, Q.length = z := ⟨_, rfl⟩
  have HQ := Lib.hid hQ
  have Hz := Lib.hid hz
  by_cases hE : E = 0
  · subst hE
    obtain ⟨N, hN⟩ : ∃ N, (allS t).length = N := ⟨_, rfl⟩
    obtain ⟨a1, v, hv, a2, a3, a4, a5⟩ := last_facts hQ hz hN
    obtain ⟨-, hms, -⟩ := split_yes hQ
    obtain ⟨y, hy⟩ : ∃ y, v.length = y := ⟨_, rfl⟩
    rw [hy] at a2 a3
    have hy4 := split_small hQ v (List.mem_of_getElem? hv)
    rw [hy] at hy4
    have hz12 := split_few hQ
    rw [hz] at hz12
    obtain ⟨-, b1, b2, -, -⟩ := mayS_iff.1 hms
    obtain ⟨U, hU⟩ : ∃ u, (Q.map List.length).sum = u := ⟨_, rfl⟩
    have hU9 : U ≤ 100000 := by
      have h1 := sum_few (split_small hQ)
      rw [hU, hz] at h1
      have h2 : z * 4000 ≤ 12 * 4000 := Nat.mul_le_mul_right 4000 hz12
      omega
    rw [hU] at a4 a5
    rw [hN] at hle
    have HMy := Lib.hid hmany
    have HN := Lib.hid hN
    have HU := Lib.hid hU
    have Hv := Lib.hid hv
    have Hy := Lib.hid hy
    have Hlast := Lib.hid a3
    have HQs : Hid (∀ x ∈ Q, x.length ≤ 4000) := Lib.hid (split_small hQ)
    have HA4 := Lib.hid a4
    have HA5 := Lib.hid a5
    have HN9 := Lib.hid hle
    have HU9 := Lib.hid hU9
    have g1 : ¬ z = 0 := by omega
    have g2 : ((z : Int) == 0) = false := by simp only [beq_eq_false_iff_ne]; omega
    have g3 : (0 : Int) ≤ (z : Int) - 1 := by omega
    have g4 : (z : Int) - 1 < (z : Int) := by omega
    have g5 : (0 : Int) ≤ (y : Int) - 1 := by omega
    have g6 : (y : Int) - 1 < (y : Int) := by omega
    have g7 : ((z : Int) - 1).toNat = z - 1 := by omega
    have g8 : ((y : Int) - 1).toNat = y - 1 := by omega
    have g9 : decide ((y : Int) < 2) = false := decide_eq_false (by omega)
    clear f1 f2 hQ hz hN a3 a4 a5 hms hmany hle hv hy hU hU9
    go_enter Tryz.func10, Tryz.ntmps10
    go_upto_region 9 with (first
      | (go_at_call 11; (refine (awake_s HI.out _ (HI.out.keep HT.out h0.out)).mono ?_); rintro e wn ⟨rfl, hs⟩; replace h0 := Lib.hid (Stp.trans h0.out hs); replace HB := Lib.hid (HB.out.keep hs HB.out.lt); clear q0 q1 q2; clear hs; obtain ⟨q0, q1, q2⟩ := set_cells3 HB.out)
      | (go_at_call 12; (with_reducible refine (fewt_v t m Hm.out Hml.out _ F1.out T ct _ (Ht.out.keep h0.out)).mono ?_); rintro e wn ⟨rfl, hs⟩; replace h0 := Lib.hid (Stp.trans h0.out hs); replace HB := Lib.hid (HB.out.keep hs HB.out.lt); clear q0 q1 q2; clear hs; obtain ⟨q0, q1, q2⟩ := set_cells3 HB.out)
      | (go_at_call 13; (refine (fews_v s A k _ rfl _ F2.out _).mono ?_); rintro e wn ⟨rfl, hs⟩; replace h0 := Lib.hid (Stp.trans h0.out hs); replace HB := Lib.hid (HB.out.keep hs HB.out.lt); clear q0 q1 q2; clear hs; obtain ⟨q0, q1, q2⟩ := set_cells3 HB.out)
      | (go_at_call 14; (refine (HI.out.split t m Hm.out Hm3.out Hn.out s A k _ rfl Hs.out Q 0 HQ.out z Hz.out T ct _ (Ht.out.keep h0.out) (RdA.keep Ha.out h0.out) (HI.out.keep HT.out h0.out)).mono ?_); rintro e wn ⟨B1, d1, rfl, hr, hs⟩; replace h0 := Lib.hid (Stp.trans h0.out hs); replace HB := Lib.hid (HB.out.keep hs HB.out.lt); have HR := Lib.hid hr; clear hr; clear q0 q1 q2; clear hs; obtain ⟨q0, q1, q2⟩ := set_cells3 HB.out))
    obtain ⟨gb, ob, Bv, dv, hB, qv, hLv⟩ := HR.out.at_ Hv.out
    subst hB
    rw [Hy.out] at qv
    obtain ⟨gc, oc, Bl, dl, hB, ql, hLl⟩ := hLv.at_ Hlast.out
    subst hB
    rw [nought_len] at ql
    have HLl := Lib.hid hLl
    clear hLv hLl
    obtain ⟨gn, on, hBl, hcs⟩ := RdA.at_ HLl.out (j := 0) (by rw [bs_length, nought_len]; omega)
    subst hBl
    have HCS := Lib.hid hcs
    clear hcs
    go_wp2_with fail
    go_loopw [12, 13] (fun b i wr => ∃ j : Nat, j ≤ 512 ∧ i = .int .i64 (j : Int) ∧ b = .bool true ∧ wn = wr) (fun _ i _ => 512 - (intOf i).toNat)
    case atStart => exact ⟨0, by omega, rfl, rfl, rfl⟩
    case round =>
      obtain ⟨j, hj, rfl, rfl, rfl⟩ := hrel
      by_cases hlt : j < 512
      · have qj := HCS.out j _ (nought_at j hlt)
        go_wp2_with fail
        go_roundw
        case rel => exact ⟨j + 1, by omega, by go_num, rfl, trivial⟩
        case measure => simp [intOf]; omega
      · obtain rfl : j = 512 := by omega
        go_wp2_with fail
        go_loopw [14, 15] (fun u i wr => ∃ j : Nat, j ≤ z ∧ i = .int .i64 (j : Int) ∧ u = .int .i64 ((((Q.take j).map List.length).sum : Nat) : Int) ∧ wn = wr) (fun _ i _ => z - (intOf i).toNat)
        case atStart => exact ⟨0, by omega, rfl, rfl, rfl⟩
        case round =>
          obtain ⟨j, hj, rfl, rfl, rfl⟩ := hrel
          obtain ⟨us, hus⟩ : ∃ u, ((Q.take j).map List.length).sum = u := ⟨_, rfl⟩
          have hus9 : us ≤ 100000 := by
            have h1 := sum_few (Q := Q.take j) (M := 4000) fun x hx => HQs.out x (List.mem_of_mem_take hx)
            rw [hus] at h1
            have h2 : (Q.take j).length * 4000 ≤ 12 * 4000 := Nat.mul_le_mul_right 4000 (by rw [List.length_take]; omega)
            omega
          rw [hus]
          have Hus := Lib.hid hus
          clear hus
          by_cases hlt : j < z
          · obtain ⟨x, hx⟩ : ∃ x, Q[j]? = some x := ⟨_, List.getElem?_eq_getElem (by rw [Hz.out]; exact hlt)⟩
            obtain ⟨gd, od, Bx, dx, hB, qx, -⟩ := HR.out.at_ hx
            cases hB
            have hx9 := HQs.out x (List.mem_of_getElem? hx)
            have hst := sum_step hx
            obtain ⟨xl, hxl⟩ : ∃ l, x.length = l := ⟨_, rfl⟩
            rw [hxl] at hx9 qx hst
            rw [Hus.out] at hst
            have Hst := Lib.hid hst
            clear hx hxl hst
            go_wp2_with fail
            go_roundw
            case rel => exact ⟨j + 1, by omega, by go_num, by rw [Hst.out]; go_num, trivial⟩
            case measure => simp [intOf]; omega
          · obtain rfl : j = z := by omega
            obtain rfl : us = U := by
              have h1 := Hus.out
              rw [List.take_of_length_le (by rw [Hz.out]; omega), HU.out] at h1
              exact h1.symm
            have p4 := HA4.out
            have p5 := HA5.out
            have p9 := HN9.out
            have k1 : IntKind.i64.wrap ((N : Int) + (j : Int)) = (N : Int) + (j : Int) := by rw [IntKind.wrap_i64] <;> omega
            have k2 : decide ((N : Int) + (j : Int) ≤ (us : Int)) = true := decide_eq_true (by omega)
            have k3 : IntKind.i64.wrap ((us : Int) - (N : Int)) = (us : Int) - (N : Int) := by rw [IntKind.wrap_i64] <;> omega
            have k4 : IntKind.i64.wrap (4 * (j : Int)) = 4 * (j : Int) := by rw [IntKind.wrap_i64] <;> omega
            have k5 : IntKind.i64.wrap (4 * (j : Int) + s.b) = 4 * (j : Int) + s.b := by rw [IntKind.wrap_i64] <;> omega
            have k6 : IntKind.i64.wrap (4 * (j : Int) + s.b - 1) = 4 * (j : Int) + s.b - 1 := by rw [IntKind.wrap_i64] <;> omega
            have k7 : decide ((us : Int) - (N : Int) ≤ 4 * (j : Int) + s.b - 1) = true := decide_eq_true (by omega)
            go_wp2_with fail
            have v1 := cell_regrown q1
            have cM : ∀ d os, Calls Tryz.prog 31 #[.slice T m ct] (grow (redrawn wn d) os) fun e w'' => e = .returned (.int .i64 (N : Int)) ∧ ∃ p : Regrown, w'' = grow (redrawn wn p.d) p.os := fun d os => Calls.regrown_of (HMy.out t m Hm.out Hm3.out Hn.out N HN.out T ct _ (Ht.out.keep (Stp.trans h0.out (below_regrown wn d os))))
            clear p4 p5 p9 q0 q1 q2 ql qv g1 g2 g3 g4 g5 g6 g7 g8 g9 hus9
            refine wp_region_quiet_below (by kernel_rfl) (by kernel_rfl) ?_
            repeat (go_big_quiet_step (with_reducible exact cM _ _))
            refine wpQuiet_nil ?_
            intro _ hw'
            obtain ⟨⟨dq, osq⟩, hw''⟩ := hw'
            subst hw''
            have X := Lib.hid (show Stp wn (grow (redrawn wn dq) osq) from below_regrown wn dq osq)
            clear v1 cM k1 k2 k3 k4 k5 k6 k7
            dsimp only
            generalize grow (redrawn wn dq) osq = Y at X ⊢
            go_wp2
            go_ret
            exact ⟨rfl, Stp.trans h0.out X.out⟩
  · have g1 : (E != 0) = true := by simp [hE]
    clear f1 f2 hQ hz hE hmany hle
    go_enter Tryz.func10, Tryz.ntmps10
    go_wp2_with (first
      | (go_at_call 11; (refine (awake_s HI.out _ (HI.out.keep HT.out h0.out)).mono ?_); rintro e wn ⟨rfl, hs⟩; replace h0 := Lib.hid (Stp.trans h0.out hs); replace HB := Lib.hid (HB.out.keep hs HB.out.lt); clear q0 q1 q2; clear hs; obtain ⟨q0, q1, q2⟩ := set_cells3 HB.out)
      | (go_at_call 12; (with_reducible refine (fewt_v t m Hm.out Hml.out _ F1.out T ct _ (Ht.out.keep h0.out)).mono ?_); rintro e wn ⟨rfl, hs⟩; replace h0 := Lib.hid (Stp.trans h0.out hs); replace HB := Lib.hid (HB.out.keep hs HB.out.lt); clear q0 q1 q2; clear hs; obtain ⟨q0, q1, q2⟩ := set_cells3 HB.out)
      | (go_at_call 13; (refine (fews_v s A k _ rfl _ F2.out _).mono ?_); rintro e wn ⟨rfl, hs⟩; replace h0 := Lib.hid (Stp.trans h0.out hs); replace HB := Lib.hid (HB.out.keep hs HB.out.lt); clear q0 q1 q2; clear hs; obtain ⟨q0, q1, q2⟩ := set_cells3 HB.out)
      | (go_at_call 14; (refine (HI.out.split t m Hm.out Hm3.out Hn.out s A k _ rfl Hs.out Q E HQ.out z Hz.out T ct _ (Ht.out.keep h0.out) (RdA.keep Ha.out h0.out) (HI.out.keep HT.out h0.out)).mono ?_); rintro e wn ⟨B1, d1, rfl, hr, hs⟩; replace h0 := Lib.hid (Stp.trans h0.out hs); replace HB := Lib.hid (HB.out.keep hs HB.out.lt); have HR := Lib.hid hr; clear hr; clear q0 q1 q2; clear hs; obtain ⟨q0, q1, q2⟩ := set_cells3 HB.out))
    go_ret
    exact ⟨rfl, h0.out⟩
theorem last_walk {Tb : World → Prop} (I : VolI Tb) (t : List Nd) (m : Nat) (hm : t.length = m) (hml : m < 9223372036854775808) (hn : ∀ n ∈ t, SmallN n) (s : Sett) (hs : SmallS s) (T A : Option Addr) (ct k : Nat) (w : World) (ht : RdN w T ct t) (ha : RdZ w A k s.caps) (htab : Tb w) (hmany : ManyI) (hle : (allS t).length ≤ 402) :
    Calls Tryz.prog 10 #[.slice T m ct, sv s A k] w fun e w' => e = .returned (.bool true) ∧ Stp w w' := by
  by_cases h : fewT t = false ∨ fewS s = false
  · exact last_out I t m hm hml hn s hs T A ct k w ht ha htab h
  · rw [not_or] at h
    exact last_in I t m hm hml hn s hs T A ct k w ht ha htab (by simpa using h.1) (by simpa using h.2) hmany hle
end Go.Proofs.YtopihahjjcpnpaaGreatDoor.Vol
