/-
  The law LabelBack, walked over the contracts: no statement is proved here.
-/
import Derived.Test.YtokfhockdakhiaaDoorLabelLongW
import Derived.Test.YtokfhockdakhiaaDoorBlockK
namespace Go.Proofs.YtokfhockdakhiaaDoor.Label
open Go.RowKit Go.Proofs.YtokfhockdakhiaaDoor.Str Go.Proofs.YtokfhockdakhiaaDoor.Base Go.Proofs.YtokfhockdakhiaaDoor.Head Go.Proofs.YtokfhockdakhiaaDoor.LabelM
set_option linter.unusedVariables false

set_option maxRecDepth 100000 in
set_option maxHeartbeats 4000000 in
theorem back_out (I : LabelI) (s : L) (hs : s.length ≤ 9223372036854775807) (n : Int) (l : L) (A : Option Addr) (c : Nat) (w : World) (htab : Tab w) (hout : 200 < s.length ∨ 600 < l.length) :
    Calls Tryd.prog 4 #[.string ⟨s.toArray⟩, .int .i64 n, .slice A l.length c] w fun e w' => e = .returned (.bool true) ∧ Stp w w' := by
  have H := Lib.hid (Stp.refl w)
  have HT := Lib.hid htab
  clear htab
  have HA := Lib.hid (awake_s I)
  have hsz : s.toArray.size = s.length := by simp
  obtain ⟨b1, k1⟩ : ∃ b, decide ((200 : Int) < (s.length : Int)) = b := ⟨_, rfl⟩
  obtain ⟨b2, k2⟩ : ∃ b, decide ((600 : Int) < (l.length : Int)) = b := ⟨_, rfl⟩
  have k4 : b1 = true ∨ b2 = true := by
    rw [← k1, ← k2, decide_eq_true_eq, decide_eq_true_eq]
    omega
  clear hout I
  cases b1 <;> cases b2 <;> simp at k4
  all_goals
    go_enter Tryd.func4, Tryd.ntmps4
    go_wp2_with (go_at_call 9; refine (HA.out _ (HT.out.keep H.out)).mono ?_; rintro e w1 ⟨rfl, hs1⟩; replace H := Lib.hid (Stp.trans H.out hs1); clear hs1)
    go_ret
    exact ⟨rfl, H.out⟩

theorem keyP {s : L} {n : Int} {mb : Bool} (hm : mayLb s n = mb) : ∃ p l0 m0 e0, putL s n = (p, mb) ∧ getL p = (l0, m0, e0) ∧ (mb = false ∨ (mb = true ∧ s = l0 ∧ n = m0 ∧ e0 = 0)) := by
  obtain ⟨p, hp, hlp⟩ := putL_of hm
  obtain ⟨r, hr⟩ : ∃ r, getL p = r := ⟨_, rfl⟩
  obtain ⟨l0, m0, e0⟩ := r
  refine ⟨p, l0, m0, e0, hp, hr, ?_⟩
  cases mb
  · exact .inl rfl
  · have h := (putL_yes.1 hp).2
    have := getL_put hm
    rw [h, hr] at this
    cases this
    exact .inr ⟨rfl, rfl, rfl, rfl⟩
theorem keyG (l : L) : ∃ k o f q cq, getL l = (k, o, f) ∧ putL k o = (q, cq) ∧ k.length ≤ 88 ∧ ((f = 0 ∧ cq = true ∧ l = q) ∨ (k = [] ∧ o = 0 ∧ (f == 0) = false ∧ (f != 0) = true)) := by
  obtain ⟨r, hr⟩ : ∃ r, getL l = r := ⟨_, rfl⟩
  obtain ⟨k, o, f⟩ := r
  obtain ⟨t, ht⟩ : ∃ t, putL k o = t := ⟨_, rfl⟩
  obtain ⟨q, cq⟩ := t
  refine ⟨k, o, f, q, cq, hr, ht, ?_⟩
  rcases getL_ok hr with ⟨h0, h1, h2, h3⟩ | ⟨rfl, rfl, h⟩
  · have := (putL_yes (s := k) (n := o)).2 ⟨h1, h2⟩
    rw [ht] at this
    cases this
    exact ⟨(mayLb_iff.1 h1).2.2.1, .inl ⟨h0, rfl, rfl⟩⟩
  · have hf : f ≠ 0 := by
      rcases h with ⟨a, b⟩ | ⟨a, b⟩
      · rw [b]; exact a
      · rw [b]; decide
    exact ⟨by simp, .inr ⟨rfl, rfl, by simp [hf], by simp [hf]⟩⟩
set_option maxRecDepth 100000 in
set_option maxHeartbeats 4000000 in
theorem back_in (I : LabelI) (s : L) (hs : s.length ≤ 9223372036854775807) (n : Int) (l : L) (A : Option Addr) (c : Nat) (w : World) (htab : Tab w) (ha : RdA w A c (bs l)) (h1 : s.length ≤ 200) (h2 : l.length ≤ 600) :
    Calls Tryd.prog 4 #[.string ⟨s.toArray⟩, .int .i64 n, .slice A l.length c] w fun e w' => e = .returned (.bool true) ∧ Stp w w' := by
  have H := Lib.hid (Stp.refl w)
  have HT := Lib.hid htab
  clear htab
  have HI := Lib.hid I
  have HA := Lib.hid (awake_s I)
  have HB := Lib.hid ha
  have hsz : s.toArray.size = s.length := by simp
  have k1 : decide ((200 : Int) < (s.length : Int)) = false := decide_eq_false (by omega)
  have k2 : decide ((600 : Int) < (l.length : Int)) = false := decide_eq_false (by omega)
  obtain ⟨mb, hm⟩ : ∃ b, mayLb s n = b := ⟨_, rfl⟩
  obtain ⟨p, l0, m0, e0, hp, hg, key1⟩ := keyP hm
  obtain ⟨k, o, f, q, cq, hG, hQ, hk, key2⟩ := keyG l
  have Hm := Lib.hid hm
  have Hp := Lib.hid hp
  have Hg := Lib.hid hg
  have HG := Lib.hid hG
  have HQ := Lib.hid hQ
  have Hk := Lib.hid hk
  clear I ha hm hp hg hG hQ hk
  rcases key1 with rfl | ⟨rfl, rfl, rfl, rfl⟩ <;> rcases key2 with ⟨rfl, rfl, rfl⟩ | ⟨rfl, rfl, k3, k4⟩
  all_goals
    go_enter Tryd.func4, Tryd.ntmps4
    go_wp2_with (first
      | (go_at_call 9; refine (HA.out _ (HT.out.keep H.out)).mono ?_; rintro e w1 ⟨rfl, hs1⟩; replace H := Lib.hid (Stp.trans H.out hs1); replace HB := Lib.hid (HB.out.keep hs1); clear hs1)
      | (go_at_call 12; (with_reducible refine (HI.out.put _ _ rfl hs n _ _ _ Hp.out rfl _ (HT.out.keep H.out)).mono ?_); rintro e w2 ⟨A2, c2, rfl, hr, hs1⟩; replace H := Lib.hid (Stp.trans H.out hs1); replace HB := Lib.hid (HB.out.keep hs1); have HR := Lib.hid hr; clear hr hs1)
      | (go_at_call 14; (with_reducible refine (HI.out.get p p.length rfl _ _ _ Hg.out A2 c2 _ HR.out (HT.out.keep H.out)).mono ?_); rintro e w3 ⟨rfl, hs1⟩; replace H := Lib.hid (Stp.trans H.out hs1); replace HB := Lib.hid (HB.out.keep hs1); clear hs1 HR)
      | (go_at_call 17; (with_reducible refine (HI.out.may _ _ rfl hs n _ Hm.out _).mono ?_); rintro e w4 ⟨rfl, hs1⟩; replace H := Lib.hid (Stp.trans H.out hs1); replace HB := Lib.hid (HB.out.keep hs1); clear hs1)
      | (go_at_call 14; (with_reducible refine (HI.out.get _ _ rfl _ _ _ HG.out A c _ HB.out (HT.out.keep H.out)).mono ?_); rintro e w5 ⟨rfl, hs1⟩; replace H := Lib.hid (Stp.trans H.out hs1); replace HB := Lib.hid (HB.out.keep hs1); clear hs1)
      | (go_at_call 12; (with_reducible refine (HI.out.put _ _ rfl (by first | exact Nat.le_trans Hk.out (by decide) | exact Nat.zero_le _) _ _ _ _ HQ.out rfl _ (HT.out.keep H.out)).mono ?_); rintro e w6 ⟨A6, c6, rfl, hr, hs1⟩; replace H := Lib.hid (Stp.trans H.out hs1); have hcb := str_rd (HB.out.keep hs1); have hcq := str_rd hr; clear hr hs1))
    go_ret
    exact ⟨rfl, H.out⟩
theorem back_walk (I : LabelI) (s : L) (hs : s.length ≤ 9223372036854775807) (n : Int) (l : L) (A : Option Addr) (c : Nat) (w : World) (htab : Tab w) (ha : RdA w A c (bs l)) :
    Calls Tryd.prog 4 #[.string ⟨s.toArray⟩, .int .i64 n, .slice A l.length c] w fun e w' => e = .returned (.bool true) ∧ Stp w w' := by
  by_cases h : 200 < s.length ∨ 600 < l.length
  · exact back_out I s hs n l A c w htab h
  · exact back_in I s hs n l A c w htab ha (by omega) (by omega)
end Go.Proofs.YtokfhockdakhiaaDoor.Label
