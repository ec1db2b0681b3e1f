/-
  The law LabelApart, walked over the contracts: no statement is proved here.
-/
import Derived.Test.YtokfhockdakhiaaDoorLabelBackW
namespace Go.Proofs.YtokfhockdakhiaaDoor.Label
open Go.RowKit Go.Proofs.YtokfhockdakhiaaDoor.Str Go.Proofs.YtokfhockdakhiaaDoor.Base Go.Proofs.YtokfhockdakhiaaDoor.Head Go.Proofs.YtokfhockdakhiaaDoor.LabelM
set_option linter.unusedVariables false

set_option maxRecDepth 100000 in
set_option maxHeartbeats 4000000 in
theorem apart_out (I : LabelI) (s t : L) (hs : s.length ≤ 9223372036854775807) (n m : Int) (w : World) (htab : Tab w) (hout : 200 < s.length ∨ 200 < t.length) :
    Calls Tryd.prog 5 #[.string ⟨s.toArray⟩, .int .i64 n, .string ⟨t.toArray⟩, .int .i64 m] w fun e w' => e = .returned (.bool true) ∧ Stp w w' := by
  have H := Lib.hid (Stp.refl w)
  have HT := Lib.hid htab
  clear htab
  have HA := Lib.hid (awake_s I)
  have hsz : s.toArray.size = s.length := by simp
  have htz : t.toArray.size = t.length := by simp
  obtain ⟨b1, k1⟩ : ∃ b, decide ((200 : Int) < (s.length : Int)) = b := ⟨_, rfl⟩
  obtain ⟨b2, k2⟩ : ∃ b, decide ((200 : Int) < (t.length : Int)) = b := ⟨_, rfl⟩
  have k4 : b1 = true ∨ b2 = true := by
    rw [← k1, ← k2, decide_eq_true_eq, decide_eq_true_eq]
    omega
  clear hout I
  cases b1 <;> cases b2 <;> simp at k4
  all_goals
    go_enter Tryd.func5, Tryd.ntmps5
    go_wp2_with (go_at_call 9; refine (HA.out _ (HT.out.keep H.out)).mono ?_; rintro e w1 ⟨rfl, hs1⟩; replace H := Lib.hid (Stp.trans H.out hs1); clear hs1)
    go_ret
    exact ⟨rfl, H.out⟩
theorem nameB_of {s : L} {n : Int} {b : Bool} (h : mayLb s n = b) : ∃ x, nameB s n = (x, b) := by
  subst h
  cases hm : mayLb s n
  · exact ⟨[], by rw [nameB, if_neg (by simp [hm])]⟩
  · exact ⟨_, by rw [nameB, if_pos hm]⟩
theorem nameB_yes {s x : L} {n : Int} (h : nameB s n = (x, true)) : mayLb s n = true ∧ nameV s n.toNat = x := by
  rw [nameB] at h
  split at h
  · rename_i hm
    cases h
    exact ⟨hm, rfl⟩
  · cases h
theorem keyA {s t p q x y : L} {n m : Int} (hp : putL s n = (p, true)) (hq : putL t m = (q, true)) (hx : nameB s n = (x, true)) (hy : nameB t m = (y, true)) :
    (p == q) = ((s == t) && (n == m)) ∧ (x == y) = ((s == t) && (n == m)) ∧ x.length ≤ 99 := by
  obtain ⟨h1, rfl⟩ := putL_yes.1 hp
  obtain ⟨h2, rfl⟩ := putL_yes.1 hq
  obtain ⟨_, rfl⟩ := nameB_yes hx
  obtain ⟨_, rfl⟩ := nameB_yes hy
  refine ⟨?_, ?_, (nameV_ok h1).1⟩
  · rw [Bool.eq_iff_iff, Bool.and_eq_true, beq_iff_eq, beq_iff_eq, beq_iff_eq]
    constructor
    · exact fun e => putL_inj h1 h2 e
    · rintro ⟨rfl, rfl⟩
      rfl
  · rw [Bool.eq_iff_iff, Bool.and_eq_true, beq_iff_eq, beq_iff_eq, beq_iff_eq]
    constructor
    · intro e
      obtain ⟨a, b⟩ := nameV_inj e
      have := (mayLb_iff.1 h1).2.2.2
      have := (mayLb_iff.1 h2).2.2.2
      exact ⟨a, by omega⟩
    · rintro ⟨rfl, rfl⟩
      rfl
set_option maxRecDepth 100000 in
set_option maxHeartbeats 4000000 in
theorem apart_in (I : LabelI) (s t : L) (hs : s.length ≤ 9223372036854775807) (ht : t.length ≤ 9223372036854775807) (n m : Int) (w : World) (htab : Tab w) (h1 : s.length ≤ 200) (h2 : t.length ≤ 200) :
    Calls Tryd.prog 5 #[.string ⟨s.toArray⟩, .int .i64 n, .string ⟨t.toArray⟩, .int .i64 m] w fun e w' => e = .returned (.bool true) ∧ Stp w w' := by
  have H := Lib.hid (Stp.refl w)
  have HT := Lib.hid htab
  clear htab
  have HI := Lib.hid I
  have HA := Lib.hid (awake_s I)
  have hsz : s.toArray.size = s.length := by simp
  have htz : t.toArray.size = t.length := by simp
  have k1 : decide ((200 : Int) < (s.length : Int)) = false := decide_eq_false (by omega)
  have k2 : decide ((200 : Int) < (t.length : Int)) = false := decide_eq_false (by omega)
  obtain ⟨mb, hm⟩ : ∃ b, mayLb s n = b := ⟨_, rfl⟩
  obtain ⟨md, hd⟩ : ∃ b, mayLb t m = b := ⟨_, rfl⟩
  obtain ⟨p, hp, hlp⟩ := putL_of hm
  obtain ⟨q, hq, hlq⟩ := putL_of hd
  obtain ⟨x, hx⟩ := nameB_of hm
  obtain ⟨y, hy⟩ := nameB_of hd
  obtain ⟨a1, k3⟩ : ∃ b, (s == t) = b := ⟨_, rfl⟩
  obtain ⟨a2, k4⟩ : ∃ b, (n == m) = b := ⟨_, rfl⟩
  have hxz : x.toArray.size = x.length := by simp
  have key : mb = false ∨ (mb = true ∧ md = false) ∨ (mb = true ∧ md = true ∧ (p == q) = (a1 && a2) ∧ (x == y) = (a1 && a2) ∧ decide ((x.length : Int) ≤ 100) = true) := by
    cases mb
    · exact .inl rfl
    · cases md
      · exact .inr (.inl ⟨rfl, rfl⟩)
      · obtain ⟨c1, c2, c3⟩ := keyA hp hq hx hy
        rw [k3, k4] at c1 c2
        exact .inr (.inr ⟨rfl, rfl, c1, c2, decide_eq_true (by omega)⟩)
  have Hp := Lib.hid hp
  have Hq := Lib.hid hq
  have Hx := Lib.hid hx
  have Hy := Lib.hid hy
  clear I hp hq hx hy hm hd hlp hlq
  rcases key with rfl | ⟨rfl, rfl⟩ | ⟨rfl, rfl, k5, k6, k7⟩
  · clear k3 k4
    go_enter Tryd.func5, Tryd.ntmps5
    go_wp2_with (first
      | (go_at_call 9; refine (HA.out _ (HT.out.keep H.out)).mono ?_; rintro e w1 ⟨rfl, hs1⟩; replace H := Lib.hid (Stp.trans H.out hs1); clear hs1)
      | (go_at_call 12; (with_reducible refine (HI.out.put s _ rfl hs n _ _ _ Hp.out rfl _ (HT.out.keep H.out)).mono ?_); rintro e w2 ⟨A2, c2, rfl, hr, hs1⟩; replace H := Lib.hid (Stp.trans H.out hs1); have HR := Lib.hid hr; clear hr hs1)
      | (go_at_call 12; (with_reducible refine (HI.out.put t _ rfl ht m _ _ _ Hq.out rfl _ (HT.out.keep H.out)).mono ?_); rintro e w3 ⟨A3, c3, rfl, hr, hs1⟩; replace H := Lib.hid (Stp.trans H.out hs1); replace HR := Lib.hid (HR.out.keep hs1); have HS := Lib.hid hr; clear hr hs1)
      | (go_at_call 10; (with_reducible refine (HI.out.name s _ rfl hs n _ _ Hx.out _ (HT.out.keep H.out)).mono ?_); rintro e w4 ⟨rfl, hs1⟩; replace H := Lib.hid (Stp.trans H.out hs1); replace HR := Lib.hid (HR.out.keep hs1); replace HS := Lib.hid (HS.out.keep hs1); clear hs1)
      | (go_at_call 10; (with_reducible refine (HI.out.name t _ rfl ht m _ _ Hy.out _ (HT.out.keep H.out)).mono ?_); rintro e w5 ⟨rfl, hs1⟩; replace H := Lib.hid (Stp.trans H.out hs1); have hcp := str_rd (HR.out.keep hs1); have hcq := str_rd (HS.out.keep hs1); clear hs1))
    all_goals go_ret
    all_goals exact ⟨rfl, H.out⟩
  · clear k3 k4
    go_enter Tryd.func5, Tryd.ntmps5
    go_wp2_with (first
      | (go_at_call 9; refine (HA.out _ (HT.out.keep H.out)).mono ?_; rintro e w1 ⟨rfl, hs1⟩; replace H := Lib.hid (Stp.trans H.out hs1); clear hs1)
      | (go_at_call 12; (with_reducible refine (HI.out.put s _ rfl hs n _ _ _ Hp.out rfl _ (HT.out.keep H.out)).mono ?_); rintro e w2 ⟨A2, c2, rfl, hr, hs1⟩; replace H := Lib.hid (Stp.trans H.out hs1); have HR := Lib.hid hr; clear hr hs1)
      | (go_at_call 12; (with_reducible refine (HI.out.put t _ rfl ht m _ _ _ Hq.out rfl _ (HT.out.keep H.out)).mono ?_); rintro e w3 ⟨A3, c3, rfl, hr, hs1⟩; replace H := Lib.hid (Stp.trans H.out hs1); replace HR := Lib.hid (HR.out.keep hs1); have HS := Lib.hid hr; clear hr hs1)
      | (go_at_call 10; (with_reducible refine (HI.out.name s _ rfl hs n _ _ Hx.out _ (HT.out.keep H.out)).mono ?_); rintro e w4 ⟨rfl, hs1⟩; replace H := Lib.hid (Stp.trans H.out hs1); replace HR := Lib.hid (HR.out.keep hs1); replace HS := Lib.hid (HS.out.keep hs1); clear hs1)
      | (go_at_call 10; (with_reducible refine (HI.out.name t _ rfl ht m _ _ Hy.out _ (HT.out.keep H.out)).mono ?_); rintro e w5 ⟨rfl, hs1⟩; replace H := Lib.hid (Stp.trans H.out hs1); have hcp := str_rd (HR.out.keep hs1); have hcq := str_rd (HS.out.keep hs1); clear hs1))
    all_goals go_ret
    all_goals exact ⟨rfl, H.out⟩
  · cases a1 <;> cases a2
    all_goals
      go_enter Tryd.func5, Tryd.ntmps5
      go_wp2_with (first
        | (go_at_call 9; refine (HA.out _ (HT.out.keep H.out)).mono ?_; rintro e w1 ⟨rfl, hs1⟩; replace H := Lib.hid (Stp.trans H.out hs1); clear hs1)
        | (go_at_call 12; (with_reducible refine (HI.out.put s _ rfl hs n _ _ _ Hp.out rfl _ (HT.out.keep H.out)).mono ?_); rintro e w2 ⟨A2, c2, rfl, hr, hs1⟩; replace H := Lib.hid (Stp.trans H.out hs1); have HR := Lib.hid hr; clear hr hs1)
        | (go_at_call 12; (with_reducible refine (HI.out.put t _ rfl ht m _ _ _ Hq.out rfl _ (HT.out.keep H.out)).mono ?_); rintro e w3 ⟨A3, c3, rfl, hr, hs1⟩; replace H := Lib.hid (Stp.trans H.out hs1); replace HR := Lib.hid (HR.out.keep hs1); have HS := Lib.hid hr; clear hr hs1)
        | (go_at_call 10; (with_reducible refine (HI.out.name s _ rfl hs n _ _ Hx.out _ (HT.out.keep H.out)).mono ?_); rintro e w4 ⟨rfl, hs1⟩; replace H := Lib.hid (Stp.trans H.out hs1); replace HR := Lib.hid (HR.out.keep hs1); replace HS := Lib.hid (HS.out.keep hs1); clear hs1)
        | (go_at_call 10; (with_reducible refine (HI.out.name t _ rfl ht m _ _ Hy.out _ (HT.out.keep H.out)).mono ?_); rintro e w5 ⟨rfl, hs1⟩; replace H := Lib.hid (Stp.trans H.out hs1); have hcp := str_rd (HR.out.keep hs1); have hcq := str_rd (HS.out.keep hs1); clear hs1))
      go_ret
      exact ⟨rfl, H.out⟩
theorem apart_walk (I : LabelI) (s t : L) (hs : s.length ≤ 9223372036854775807) (ht : t.length ≤ 9223372036854775807) (n m : Int) (w : World) (htab : Tab w) :
    Calls Tryd.prog 5 #[.string ⟨s.toArray⟩, .int .i64 n, .string ⟨t.toArray⟩, .int .i64 m] w fun e w' => e = .returned (.bool true) ∧ Stp w w' := by
  by_cases h : 200 < s.length ∨ 200 < t.length
  · exact apart_out I s t hs n m w htab h
  · exact apart_in I s t hs ht n m w htab (by omega) (by omega)
end Go.Proofs.YtokfhockdakhiaaDoor.Label
