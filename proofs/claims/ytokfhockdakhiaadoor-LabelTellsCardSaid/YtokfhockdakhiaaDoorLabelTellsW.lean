/-
  The law LabelTells, walked over the contracts (the document's Get is a premise, RefGet): no statement is proved here.
-/
import Derived.Test.YtokfhockdakhiaaDoorLabelApartW
import Derived.Test.YtokfhockdakhiaaDoorLabelRef3
namespace Go.Proofs.YtokfhockdakhiaaDoor.Label
open Go.RowKit Go.Proofs.YtokfhockdakhiaaDoor.Str Go.Proofs.YtokfhockdakhiaaDoor.Base Go.Proofs.YtokfhockdakhiaaDoor.Head Go.Proofs.YtokfhockdakhiaaDoor.LabelM
set_option linter.unusedVariables false

/-- What the document's Get keeps. -/
abbrev RefGet : Prop := ∀ (l : L) (z : Nat), l.length = z → ∀ (s : L) (n e0 : Int), getL l = (s, n, e0) → ∀ (A : Option Addr) (c : Nat) (w : World), RdA w A c (bs l) →
    Calls Tryd.prog 15 #[.slice A z c] w fun e w' => e = .returned (.tuple #[.string ⟨s.toArray⟩, .int .i64 n, .int .i64 e0]) ∧ Stp w w'
set_option maxRecDepth 100000 in
set_option maxHeartbeats 4000000 in
theorem tells_walk (I : LabelI) (R : RefGet) (s : L) (hs : s.length ≤ 9223372036854775807) (n : Int) (l : L) (A : Option Addr) (c : Nat) (w : World) (htab : Tab w) (ha : RdA w A c (bs l)) :
    Calls Tryd.prog 3 #[.string ⟨s.toArray⟩, .int .i64 n, .slice A l.length c] w fun e w' => e = .returned (.bool true) ∧ Stp w w' := by
  have H := Lib.hid (Stp.refl w)
  have HT := Lib.hid htab
  clear htab
  have HI := Lib.hid I
  have HR := Lib.hid R
  have HA := Lib.hid (awake_s I)
  have HB := Lib.hid ha
  have hsz : s.toArray.size = s.length := by simp
  obtain ⟨b1, k1⟩ : ∃ b, decide ((200 : Int) < (s.length : Int)) = b := ⟨_, rfl⟩
  obtain ⟨b2, k2⟩ : ∃ b, decide ((600 : Int) < (l.length : Int)) = b := ⟨_, rfl⟩
  obtain ⟨mb, hm⟩ : ∃ b, mayLb s n = b := ⟨_, rfl⟩
  obtain ⟨x, hx⟩ := nameB_of hm
  obtain ⟨p, hp, hlp⟩ := putL_of hm
  clear hlp
  obtain ⟨r, hg⟩ : ∃ r, getL l = r := ⟨_, rfl⟩
  obtain ⟨k, m, f⟩ := r
  have Hm := Lib.hid hm
  have Hx := Lib.hid hx
  have Hp := Lib.hid hp
  have Hg := Lib.hid hg
  clear I R ha hm hx hp hg
  cases b1 <;> cases b2
  all_goals
    go_enter Tryd.func3, Tryd.ntmps3
    go_wp2_with (first
      | (go_at_call 9; refine (HA.out _ (HT.out.keep H.out)).mono ?_; rintro e w1 ⟨rfl, hs1⟩; replace H := Lib.hid (Stp.trans H.out hs1); replace HB := Lib.hid (HB.out.keep hs1); clear hs1)
      | (go_at_call 10; (with_reducible refine (HI.out.name s _ rfl hs n _ _ Hx.out _ (HT.out.keep H.out)).mono ?_); rintro e w2 ⟨rfl, hs1⟩; replace H := Lib.hid (Stp.trans H.out hs1); replace HB := Lib.hid (HB.out.keep hs1); clear hs1)
      | (go_at_call 11; (with_reducible refine (rlname_s s _ rfl hs n _ _ Hx.out _).mono ?_); rintro e w3 ⟨rfl, rfl⟩)
      | (go_at_call 12; (with_reducible refine (HI.out.put s _ rfl hs n _ _ _ Hp.out rfl _ (HT.out.keep H.out)).mono ?_); rintro e w4 ⟨A4, c4, rfl, hr, hs1⟩; replace H := Lib.hid (Stp.trans H.out hs1); replace HB := Lib.hid (HB.out.keep hs1); have HP := Lib.hid hr; clear hr hs1)
      | (go_at_call 13; (with_reducible refine (rlput_s s _ rfl hs n _ _ _ Hp.out rfl _).mono ?_); rintro e w5 ⟨A5, c5, rfl, hr, hs1⟩; replace H := Lib.hid (Stp.trans H.out hs1); replace HB := Lib.hid (HB.out.keep hs1); replace HP := Lib.hid (HP.out.keep hs1); have HQ := Lib.hid hr; clear hr hs1)
      | (go_at_call 14; (with_reducible refine (HI.out.get _ _ rfl _ _ _ Hg.out A c _ HB.out (HT.out.keep H.out)).mono ?_); rintro e w6 ⟨rfl, hs1⟩; replace H := Lib.hid (Stp.trans H.out hs1); replace HB := Lib.hid (HB.out.keep hs1); replace HP := Lib.hid (HP.out.keep hs1); replace HQ := Lib.hid (HQ.out.keep hs1); clear hs1)
      | (go_at_call 15; (with_reducible refine (HR.out _ _ rfl _ _ _ Hg.out A c _ HB.out).mono ?_); rintro e w7 ⟨rfl, hs1⟩; replace H := Lib.hid (Stp.trans H.out hs1); have hcp := str_rd (HP.out.keep hs1); have hcq := str_rd (HQ.out.keep hs1); clear hs1)
      | (go_at_call 16; (with_reducible refine (rlmay_s s _ rfl hs n _ Hm.out _).mono ?_); rintro e w8 ⟨rfl, rfl⟩)
      | (go_at_call 17; (with_reducible refine (HI.out.may s _ rfl hs n _ Hm.out _).mono ?_); rintro e w9 ⟨rfl, hs1⟩; replace H := Lib.hid (Stp.trans H.out hs1); clear hs1))
    go_ret
    exact ⟨rfl, H.out⟩
end Go.Proofs.YtokfhockdakhiaaDoor.Label
