/-
  The law VolumeTells, walked over the contracts and the document's answers: no statement is proved here.
-/
import Derived.Test.YtopihahjjcpnpaaGreatDoorVolRef
import Derived.Test.YtopihahjjcpnpaaGreatDoorVolZ
namespace Go.Proofs.YtopihahjjcpnpaaGreatDoor.Vol
open Go.Sort Go.RowKit Go.Proofs.YtopihahjjcpnpaaGreatDoor.Str Go.Proofs.YtopihahjjcpnpaaGreatDoor.Base Go.Proofs.YtopihahjjcpnpaaGreatDoor.Node Go.Proofs.YtopihahjjcpnpaaGreatDoor.Head Go.Proofs.YtopihahjjcpnpaaGreatDoor.Long Go.Proofs.YtopihahjjcpnpaaGreatDoor.Entry Go.Proofs.YtopihahjjcpnpaaGreatDoor.LabelM Go.Proofs.YtopihahjjcpnpaaGreatDoor.ContM Go.Proofs.YtopihahjjcpnpaaGreatDoor.Stream Go.Proofs.YtopihahjjcpnpaaGreatDoor.VolM
open Go.Proofs.YtopihahjjcpnpaaGreatDoor.Tree (oneB mayT fewT)
set_option linter.unusedVariables false

theorem rvmay_v (s : Sett) (A : Option Addr) (k : Nat) (v : Value) (hv : v = sv s A k) (hs : SmallS s) (b : Bool) (hb : mayS s = b) (w : World) (ha : RdZ w A k s.caps) :
    Calls Tryz.prog 20 #[v] w fun e w' => e = .returned (.bool b) ∧ Stp w w' := by
  subst hv
  exact rvmay_s s hs A k b hb w ha
theorem rvbegin_v (t : List Nd) (m : Nat) (hm : t.length = m) (hl : m < 9223372036854775808) (hn : ∀ n ∈ t, SmallN n) (s : Sett) (A : Option Addr) (k : Nat) (v : Value) (hv : v = sv s A k) (hs : SmallS s) (pos n : Int) (hp1 : -9223372036854775808 ≤ pos) (hp2 : pos < 9223372036854775808)
    (V : LL) (hV : beginV t s pos n = V) (z : Nat) (hz : V.length = z) (b : Bool) (hb : beginB t s pos n = b) (T : Option Addr) (ct : Nat) (w : World) (ht : RdN w T ct t) (ha : RdZ w A k s.caps) :
    Calls Tryz.prog 17 #[.slice T m ct, v, .int .i64 pos, .int .i64 n] w fun e w' => ∃ B d, e = .returned (.tuple #[.slice B z d, .bool b]) ∧ RdL w' B d V ∧ Stp w w' := by
  subst hm hv hz
  cases b
  · rw [beginV_no hb] at hV
    subst hV
    refine (rvbegin_no t hl hn s hs pos n hb T A ct k w ht ha).mono ?_
    rintro e w' ⟨rfl, h1⟩
    exact ⟨none, 0, rfl, RdL.nil _, h1⟩
  · rw [beginV_yes hb] at hV
    subst hV
    refine (rvbegin_yes t hl hn s hs pos n ⟨hp1, hp2⟩ hb T A ct k w ht ha).mono ?_
    rintro e w' ⟨v, rfl, hr, h1⟩
    obtain ⟨B, d, rfl, hL⟩ := hr.rdL
    exact ⟨B, d, rfl, hL, h1⟩
theorem wrap_small (h : Nat) (hh : h < 9223372036854775808) : wrap64 (h : Int) = (h : Int) ∧ IntKind.i64.wrap (h : Int) = (h : Int) :=
  ⟨by unfold wrap64; omega, by rw [IntKind.wrap_i64] <;> omega⟩
theorem half_same {Q : List LL} {z h : Nat} (hz : Q.length = z) (hh : h = z / 2) : (Q == Q.take h) = ((z : Int) == 0) := by
  rw [Bool.eq_iff_iff, beq_iff_eq, beq_iff_eq]
  constructor
  · intro e
    have := congrArg List.length e
    rw [List.length_take, hz] at this
    omega
  · intro e
    have : Q = [] := List.eq_nil_of_length_eq_zero (by omega)
    rw [this, List.take_nil]
set_option maxRecDepth 100000 in
set_option maxHeartbeats 4000000 in
theorem tells_out {Tb : World → Prop} (I : VolI Tb) (t : List Nd) (m : Nat) (hm : t.length = m) (hml : m < 9223372036854775808) (hn : ∀ n ∈ t, SmallN n) (s : Sett) (hs : SmallS s) (T A : Option Addr) (ct k : Nat) (w : World) (ht : RdN w T ct t) (ha : RdZ w A k s.caps) (htab : Tb w) (pos n : Int) (hp1 : -9223372036854775808 ≤ pos) (hp2 : pos < 9223372036854775808) (hq1 : -9223372036854775808 ≤ n) (hq2 : n < 9223372036854775808) (hout : fewT t = false ∨ fewS s = false) :
    Calls Tryz.prog 3 #[.slice T m ct, sv s A k, .int .i64 pos, .int .i64 n] w fun e w' => e = .returned (.bool true) ∧ Stp w w' := by
  have h0 := Lib.hid (Stp.alloc (Stp.refl w) (.cells (scells s A k) 25))
  have HB := Lib.hid (Blk.new w 25 (scells s A k))
  have Ht := Lib.hid ht
  have Ha : Hid (RdZ w A k s.caps) := Lib.hid ha
  have HT := Lib.hid htab
  have HI := Lib.hid I
  have Hm := Lib.hid hm
  have Hml := Lib.hid hml
  have Hn := Lib.hid hn
  have Hs := Lib.hid hs
  obtain ⟨q0, q1, q2⟩ := set_cells3 HB.out
  clear ht ha htab I hm hml hn hs
  obtain ⟨b1, f1⟩ : ∃ b, fewT t = b := ⟨_, rfl⟩
  obtain ⟨b2, f2⟩ : ∃ b, fewS s = b := ⟨_, rfl⟩
  have F1 := Lib.hid f1
  have F2 := Lib.hid f2
  have key : b1 = false ∨ (b1 = true ∧ b2 = false) := by
    rw [f1, f2] at hout
    cases b1 <;> simp_all
  clear f1 f2 hout
  rcases key with rfl | ⟨rfl, rfl⟩
  all_goals
    go_enter Tryz.func3, Tryz.ntmps3
    go_wp2_with (first
      | (go_at_call 11; (refine (awake_s HI.out _ (HI.out.keep HT.out h0.out)).mono ?_); rintro e wn ⟨rfl, hs⟩; replace h0 := Lib.hid (Stp.trans h0.out hs); replace HB := Lib.hid (HB.out.keep hs HB.out.lt); clear q0 q1 q2; clear hs; obtain ⟨q0, q1, q2⟩ := set_cells3 HB.out)
      | (go_at_call 12; (with_reducible refine (fewt_v t m Hm.out Hml.out _ F1.out T ct _ (Ht.out.keep h0.out)).mono ?_); rintro e wn ⟨rfl, hs⟩; replace h0 := Lib.hid (Stp.trans h0.out hs); replace HB := Lib.hid (HB.out.keep hs HB.out.lt); clear q0 q1 q2; clear hs; obtain ⟨q0, q1, q2⟩ := set_cells3 HB.out)
      | (go_at_call 13; (refine (fews_v s A k _ rfl _ F2.out _).mono ?_); rintro e wn ⟨rfl, hs⟩; replace h0 := Lib.hid (Stp.trans h0.out hs); replace HB := Lib.hid (HB.out.keep hs HB.out.lt); clear q0 q1 q2; clear hs; obtain ⟨q0, q1, q2⟩ := set_cells3 HB.out))
    go_ret
    exact ⟨rfl, h0.out⟩
set_option maxRecDepth 100000 in
set_option maxHeartbeats 8000000 in
theorem tells_in {Tb : World → Prop} (I : VolI Tb) (t : List Nd) (m : Nat) (hm : t.length = m) (hml : m < 9223372036854775808) (hn : ∀ n ∈ t, SmallN n) (s : Sett) (hs : SmallS s) (T A : Option Addr) (ct k : Nat) (w : World) (ht : RdN w T ct t) (ha : RdZ w A k s.caps) (htab : Tb w) (pos n : Int) (hp1 : -9223372036854775808 ≤ pos) (hp2 : pos < 9223372036854775808) (hq1 : -9223372036854775808 ≤ n) (hq2 : n < 9223372036854775808) (f1 : fewT t = true) (f2 : fewS s = true) :
    Calls Tryz.prog 3 #[.slice T m ct, sv s A k, .int .i64 pos, .int .i64 n] w fun e w' => e = .returned (.bool true) ∧ Stp w w' := by
  have h0 := Lib.hid (Stp.alloc (Stp.refl w) (.cells (scells s A k) 25))
  have HB := Lib.hid (Blk.new w 25 (scells s A k))
  have Ht := Lib.hid ht
  have Ha : Hid (RdZ w A k s.caps) := Lib.hid ha
  have HT := Lib.hid htab
  have HI := Lib.hid I
  have Hm := Lib.hid hm
  have Hml := Lib.hid hml
  have Hn := Lib.hid hn
  have Hs := Lib.hid hs
  obtain ⟨q0, q1, q2⟩ := set_cells3 HB.out
  clear ht ha htab I hm hml hn hs
  have F1 := Lib.hid f1
  have F2 := Lib.hid f2
  have Hm3 : Hid (m ≤ 1000) := Lib.hid (by have := (Tree.fewT_iff.1 f1).1; rw [Hm.out] at this; omega)
  obtain ⟨Q, E, hQ⟩ : ∃ Q E, splitV t s = (Q, E) := ⟨_, _, rfl⟩
  obtain ⟨z, hz⟩ : ∃ z, Q.length = z := ⟨_, rfl⟩
  obtain ⟨X, hX⟩ : ∃ X, beginV t s pos n = X := ⟨_, rfl⟩
  obtain ⟨zx, hzx⟩ : ∃ z, X.length = z := ⟨_, rfl⟩
  obtain ⟨bb, hbb⟩ : ∃ b, beginB t s pos n = b := ⟨_, rfl⟩
  obtain ⟨bm, hbm⟩ : ∃ b, mayS s = b := ⟨_, rfl⟩
  obtain ⟨N, hN⟩ : ∃ N, needsV t s = N := ⟨_, rfl⟩
  obtain ⟨h, hh⟩ : ∃ h, h = z / 2 := ⟨_, rfl⟩
  have hx4 := beginV_le t s pos n
  rw [hX, hzx] at hx4
  have hz12 := split_few hQ
  rw [hz] at hz12
  have hsame := half_same hz hh
  obtain ⟨b0, hb0⟩ : ∃ b, ((z : Int) == 0) = b := ⟨_, rfl⟩
  rw [hb0] at hsame
  have HQ := Lib.hid hQ
  have Hz := Lib.hid hz
  have HX := Lib.hid hX
  have Hzx := Lib.hid hzx
  have Hbb := Lib.hid hbb
  have Hbm := Lib.hid hbm
  have HN := Lib.hid hN
  have Hsame := Lib.hid hsame
  have HQQ : Hid ((Q == Q) = true) := Lib.hid (beq_self_eq_true _)
  have HXX : Hid ((X == X) = true) := Lib.hid (beq_self_eq_true _)
  have HQs : Hid (∀ v ∈ Q, v.length < 9223372036854775808) := Lib.hid fun v hv => by have := split_small hQ v hv; omega
  have HQt : Hid (∀ v ∈ Q.take h, v.length < 9223372036854775808) := Lib.hid fun v hv => by have := split_small hQ v (List.mem_of_mem_take hv); omega
  have Hht : Hid ((Q.take h).length = h) := Lib.hid (by rw [List.length_take, hz]; omega)
  have Hz9 : Hid (z < 9223372036854775808) := Lib.hid (by omega)
  have Hh9 : Hid (h < 9223372036854775808) := Lib.hid (by omega)
  have Hx9 : Hid (zx < 9223372036854775808) := Lib.hid (by omega)
  have Hhz : Hid (h ≤ z) := Lib.hid (by omega)
  obtain ⟨kw, kw2⟩ := wrap_small h Hh9.out
  have kd : (z : Int) / 2 = (h : Int) := by omega
  have kt : (z : Int).tdiv 2 = (h : Int) := by rw [Int.tdiv_eq_ediv_of_nonneg (by omega)]; exact kd
  have kE : (E == E) = true := beq_self_eq_true _
  have kN : (N == N) = true := beq_self_eq_true _
  have kb : (bb == bb) = true := beq_self_eq_true _
  have km : (bm == bm) = true := beq_self_eq_true _
  have k0 : (b0 == b0) = true := beq_self_eq_true _
  clear f1 f2 hQ hz hX hzx hbb hbm hN hh hsame hx4 hz12
  go_enter Tryz.func3, Tryz.ntmps3
  go_upto_region 13 with (first
    | (go_at_call 11; (refine (awake_s HI.out _ (HI.out.keep HT.out h0.out)).mono ?_); rintro e wn ⟨rfl, hs⟩; replace h0 := Lib.hid (Stp.trans h0.out hs); replace HB := Lib.hid (HB.out.keep hs HB.out.lt); clear q0 q1 q2; clear hs; obtain ⟨q0, q1, q2⟩ := set_cells3 HB.out)
    | (go_at_call 12; (with_reducible refine (fewt_v t m Hm.out Hml.out _ F1.out T ct _ (Ht.out.keep h0.out)).mono ?_); rintro e wn ⟨rfl, hs⟩; replace h0 := Lib.hid (Stp.trans h0.out hs); replace HB := Lib.hid (HB.out.keep hs HB.out.lt); clear q0 q1 q2; clear hs; obtain ⟨q0, q1, q2⟩ := set_cells3 HB.out)
    | (go_at_call 13; (refine (fews_v s A k _ rfl _ F2.out _).mono ?_); rintro e wn ⟨rfl, hs⟩; replace h0 := Lib.hid (Stp.trans h0.out hs); replace HB := Lib.hid (HB.out.keep hs HB.out.lt); clear q0 q1 q2; clear hs; obtain ⟨q0, q1, q2⟩ := set_cells3 HB.out)
    | (go_at_call 14; (refine (HI.out.split t m Hm.out Hm3.out Hn.out s A k _ rfl Hs.out Q E HQ.out z Hz.out T ct _ (Ht.out.keep h0.out) (RdA.keep Ha.out h0.out) (HI.out.keep HT.out h0.out)).mono ?_); rintro e wn ⟨B1, d1, rfl, hr, hs⟩; replace h0 := Lib.hid (Stp.trans h0.out hs); replace HB := Lib.hid (HB.out.keep hs HB.out.lt); have HA := Lib.hid hr; clear hr; clear q0 q1 q2; clear hs; obtain ⟨q0, q1, q2⟩ := set_cells3 HB.out)
    | (go_at_call 15; (refine (rvsplit_s t m Hm.out Hml.out Hn.out s A k _ rfl Hs.out Q E HQ.out z Hz.out T ct _ (Ht.out.keep h0.out) (RdA.keep Ha.out h0.out)).mono ?_); rintro e wn ⟨B2, d2, rfl, hr, hs⟩; replace h0 := Lib.hid (Stp.trans h0.out hs); replace HB := Lib.hid (HB.out.keep hs HB.out.lt); replace HA := Lib.hid (HA.out.keep hs); have HB2 := Lib.hid hr; clear hr; clear q0 q1 q2; clear hs; obtain ⟨q0, q1, q2⟩ := set_cells3 HB.out)
    | (go_at_call 16; (refine (HI.out.begin t m Hm.out Hm3.out Hn.out s A k _ rfl Hs.out pos n hp1 hp2 hq1 hq2 X HX.out zx Hzx.out bb Hbb.out T ct _ (Ht.out.keep h0.out) (RdA.keep Ha.out h0.out) (HI.out.keep HT.out h0.out)).mono ?_); rintro e wn ⟨B3, d3, rfl, hr, hs⟩; replace h0 := Lib.hid (Stp.trans h0.out hs); replace HB := Lib.hid (HB.out.keep hs HB.out.lt); replace HA := Lib.hid (HA.out.keep hs); replace HB2 := Lib.hid (HB2.out.keep hs); have HX3 := Lib.hid hr; clear hr; clear q0 q1 q2; clear hs; obtain ⟨q0, q1, q2⟩ := set_cells3 HB.out)
    | (go_at_call 17; (refine (rvbegin_v t m Hm.out Hml.out Hn.out s A k _ rfl Hs.out pos n hp1 hp2 X HX.out zx Hzx.out bb Hbb.out T ct _ (Ht.out.keep h0.out) (RdA.keep Ha.out h0.out)).mono ?_); rintro e wn ⟨B4, d4, rfl, hr, hs⟩; replace h0 := Lib.hid (Stp.trans h0.out hs); replace HB := Lib.hid (HB.out.keep hs HB.out.lt); replace HA := Lib.hid (HA.out.keep hs); replace HB2 := Lib.hid (HB2.out.keep hs); replace HX3 := Lib.hid (HX3.out.keep hs); have HX4 := Lib.hid hr; clear hr; clear q0 q1 q2; clear hs; obtain ⟨q0, q1, q2⟩ := set_cells3 HB.out)
    | (go_at_call 18; (with_reducible refine (rvsame_s Q Q z z Hz.out Hz.out Hz9.out Hz9.out HQs.out HQs.out true HQQ.out _ _ _ _ _ HA.out HB2.out).mono ?_); rintro e wn ⟨rfl, hs⟩; replace h0 := Lib.hid (Stp.trans h0.out hs); replace HB := Lib.hid (HB.out.keep hs HB.out.lt); replace HA := Lib.hid (HA.out.keep hs); replace HX3 := Lib.hid (HX3.out.keep hs); replace HX4 := Lib.hid (HX4.out.keep hs); clear q0 q1 q2; clear hs; obtain ⟨q0, q1, q2⟩ := set_cells3 HB.out)
    | (go_at_call 19; (with_reducible refine (rsamev X X zx zx Hzx.out Hzx.out _ _ _ _ _ HX3.out HX4.out Hx9.out Hx9.out true HXX.out).mono ?_); rintro e wn ⟨rfl, hs⟩; replace h0 := Lib.hid (Stp.trans h0.out hs); replace HB := Lib.hid (HB.out.keep hs HB.out.lt); replace HA := Lib.hid (HA.out.keep hs); clear q0 q1 q2; clear hs; obtain ⟨q0, q1, q2⟩ := set_cells3 HB.out)
    | (go_at_call 20; (refine (rvmay_v s A k _ rfl Hs.out bm Hbm.out _ (RdA.keep Ha.out h0.out)).mono ?_); rintro e wn ⟨rfl, hs⟩; replace h0 := Lib.hid (Stp.trans h0.out hs); replace HB := Lib.hid (HB.out.keep hs HB.out.lt); replace HA := Lib.hid (HA.out.keep hs); clear q0 q1 q2; clear hs; obtain ⟨q0, q1, q2⟩ := set_cells3 HB.out))
  have hd1 : h ≤ d1 := by have := RdV.le HA.out; rw [Hz.out] at this; have := Hhz.out; omega
  obtain ⟨B9, csl, hB9⟩ := slice3 B1 z d1 h hd1
  have HB9 := Lib.hid hB9
  have v0 := cell_regrown q0
  have v1 := cell_regrown q1
  have v2 := cell_regrown q2
  have cA : ∀ d os, Calls Tryz.prog 21 #[(.agg #[.string ⟨s.label.toArray⟩, .int .i64 s.b, .slice A s.caps.length k])] (grow (redrawn wn d) os) fun e w'' => e = .returned (.bool bm) ∧ ∃ p : Regrown, w'' = grow (redrawn wn p.d) p.os := fun d os => Calls.regrown_of (HI.out.may s A k _ rfl Hs.out bm Hbm.out _ (RdA.keep Ha.out (Stp.trans h0.out (below_regrown wn d os))) (HI.out.keep HT.out (Stp.trans h0.out (below_regrown wn d os))))
  have cB : ∀ d os, Calls Tryz.prog 22 #[.slice T m ct, (.agg #[.string ⟨s.label.toArray⟩, .int .i64 s.b, .slice A s.caps.length k])] (grow (redrawn wn d) os) fun e w'' => e = .returned (.int .i64 N) ∧ ∃ p : Regrown, w'' = grow (redrawn wn p.d) p.os := fun d os => Calls.regrown_of (HI.out.needs t m Hm.out Hm3.out Hn.out s A k _ rfl Hs.out N HN.out T ct _ (Ht.out.keep (Stp.trans h0.out (below_regrown wn d os))) (RdA.keep Ha.out (Stp.trans h0.out (below_regrown wn d os))) (HI.out.keep HT.out (Stp.trans h0.out (below_regrown wn d os))))
  have cC : ∀ d os, Calls Tryz.prog 23 #[.slice T m ct, (.agg #[.string ⟨s.label.toArray⟩, .int .i64 s.b, .slice A s.caps.length k])] (grow (redrawn wn d) os) fun e w'' => e = .returned (.int .i64 N) ∧ ∃ p : Regrown, w'' = grow (redrawn wn p.d) p.os := fun d os => Calls.regrown_of (rvneeds_s t m Hm.out Hml.out Hn.out s A k _ rfl Hs.out N HN.out T ct _ (Ht.out.keep (Stp.trans h0.out (below_regrown wn d os))) (RdA.keep Ha.out (Stp.trans h0.out (below_regrown wn d os))))
  have cD : ∀ d os, Calls Tryz.prog 24 #[.slice B1 z d1, .slice B9 h d1] (grow (redrawn wn d) os) fun e w'' => e = .returned (.bool b0) ∧ ∃ p : Regrown, w'' = grow (redrawn wn p.d) p.os := fun d os => Calls.regrown_of (HI.out.same Q (Q.take h) z h Hz.out Hht.out Hz9.out Hh9.out HQs.out HQt.out b0 Hsame.out _ _ _ _ _ (HA.out.keep (below_regrown wn d os)) (HB9.out _ _ (HA.out.keep (below_regrown wn d os))))
  clear q0 q1 q2 hB9 hd1
  refine wp_region_quiet_below (by kernel_rfl) (by kernel_rfl) ?_
  repeat (go_big_quiet_step (first | with_reducible exact cA _ _ | with_reducible exact cB _ _ | with_reducible exact cC _ _ | with_reducible exact cD _ _))
  refine wpQuiet_nil ?_
  intro _ hw'
  obtain ⟨⟨dq, osq⟩, hw''⟩ := hw'
  subst hw''
  have X1 := Lib.hid (show Stp wn (grow (redrawn wn dq) osq) from below_regrown wn dq osq)
  clear v0 v1 v2 cA cB cC cD csl
  dsimp only
  generalize grow (redrawn wn dq) osq = Y at X1 ⊢
  go_wp2
  go_ret
  exact ⟨rfl, Stp.trans h0.out X1.out⟩
theorem tells_walk {Tb : World → Prop} (I : VolI Tb) (t : List Nd) (m : Nat) (hm : t.length = m) (hml : m < 9223372036854775808) (hn : ∀ n ∈ t, SmallN n) (s : Sett) (hs : SmallS s) (T A : Option Addr) (ct k : Nat) (w : World) (ht : RdN w T ct t) (ha : RdZ w A k s.caps) (htab : Tb w) (pos n : Int) (hp1 : -9223372036854775808 ≤ pos) (hp2 : pos < 9223372036854775808) (hq1 : -9223372036854775808 ≤ n) (hq2 : n < 9223372036854775808) :
    Calls Tryz.prog 3 #[.slice T m ct, sv s A k, .int .i64 pos, .int .i64 n] w fun e w' => e = .returned (.bool true) ∧ Stp w w' := by
  by_cases h : fewT t = false ∨ fewS s = false
  · exact tells_out I t m hm hml hn s hs T A ct k w ht ha htab pos n hp1 hp2 hq1 hq2 h
  · rw [not_or] at h
    exact tells_in I t m hm hml hn s hs T A ct k w ht ha htab pos n hp1 hp2 hq1 hq2 (by simpa using h.1) (by simpa using h.2)
end Go.Proofs.YtopihahjjcpnpaaGreatDoor.Vol
