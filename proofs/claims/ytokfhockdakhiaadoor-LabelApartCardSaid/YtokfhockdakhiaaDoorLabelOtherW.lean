/-
  The law LabelOther, walked over the contracts: no statement is proved here.
-/
import Derived.Test.YtokfhockdakhiaaDoorLabelApartW
import Derived.Test.YtokfhockdakhiaaDoorHeadHlp
namespace Go.Proofs.YtokfhockdakhiaaDoor.Label
open Go.RowKit Go.Proofs.YtokfhockdakhiaaDoor.Str Go.Proofs.YtokfhockdakhiaaDoor.Base Go.Proofs.YtokfhockdakhiaaDoor.Head Go.Proofs.YtokfhockdakhiaaDoor.LabelM
set_option linter.unusedVariables false

set_option maxRecDepth 100000 in
set_option maxHeartbeats 4000000 in
theorem other_out (I : LabelI) (l : L) (A : Option Addr) (c : Nat) (w : World) (htab : Tab w) (hout : 600 < l.length) :
    Calls Tryd.prog 6 #[.slice A l.length c] w fun e w' => e = .returned (.bool true) ∧ Stp w w' := by
  have H := Lib.hid (Stp.refl w)
  have HT := Lib.hid htab
  clear htab
  have HA := Lib.hid (awake_s I)
  have k1 : decide ((600 : Int) < (l.length : Int)) = true := decide_eq_true (by omega)
  clear hout I
  go_enter Tryd.func6, Tryd.ntmps6
  go_wp2_with (go_at_call 9; refine (HA.out _ (HT.out.keep H.out)).mono ?_; rintro e w1 ⟨rfl, hs1⟩; replace H := Lib.hid (Stp.trans H.out hs1); clear hs1)
  go_ret
  exact ⟨rfl, H.out⟩
theorem keyO (l : L) : ∃ s n f cd x b, getL l = (s, n, f) ∧ nameB s n = (x, b) ∧ codeB l = cd ∧ s.length ≤ 88 ∧
    ((cd = f ∧ s = [] ∧ n = 0 ∧ (f == 0) = false ∧ (f != 0) = true) ∨ (cd = 0 ∧ f = 11 ∧ s = [] ∧ n = 0) ∨ (cd = 0 ∧ f = 0 ∧ getH l = headV x)) := by
  obtain ⟨r, hr⟩ : ∃ r, getL l = r := ⟨_, rfl⟩
  obtain ⟨s, n, f⟩ := r
  obtain ⟨t, ht⟩ : ∃ t, nameB s n = t := ⟨_, rfl⟩
  obtain ⟨x, b⟩ := t
  refine ⟨s, n, f, codeB l, x, b, hr, ht, rfl, ?_⟩
  rcases getL_ok hr with ⟨h0, h1, h2, h3⟩ | ⟨rfl, rfl, h⟩
  · refine ⟨(mayLb_iff.1 h1).2.2.1, .inr (.inr ⟨h3, h0, ?_⟩)⟩
    rw [nameB, if_pos h1] at ht
    cases ht
    rw [← h2]
    exact (put_code h1).2
  · refine ⟨by simp, ?_⟩
    rcases h with ⟨a, rfl⟩ | ⟨a, b⟩
    · exact .inl ⟨rfl, rfl, rfl, by simp [a], by simp [a]⟩
    · exact .inr (.inl ⟨a, b, rfl, rfl⟩)
set_option maxRecDepth 100000 in
set_option maxHeartbeats 4000000 in
theorem other_in (I : LabelI) (l : L) (A : Option Addr) (c : Nat) (w : World) (htab : Tab w) (ha : RdA w A c (bs l)) (h1 : l.length ≤ 600) :
    Calls Tryd.prog 6 #[.slice A l.length c] w fun e w' => e = .returned (.bool true) ∧ Stp w w' := by
  have H := Lib.hid (Stp.refl w)
  have HT := Lib.hid htab
  clear htab
  have HI := Lib.hid I
  have HA := Lib.hid (awake_s I)
  have HB := Lib.hid ha
  have k1 : decide ((600 : Int) < (l.length : Int)) = false := decide_eq_false (by omega)
  obtain ⟨s, n, f, cd, x, b, hg, hx, hc, hs, key⟩ := keyO l
  obtain ⟨G, hG⟩ : ∃ G, getH l = G := ⟨_, rfl⟩
  rw [hG] at key
  have Hg := Lib.hid hg
  have Hx := Lib.hid hx
  have Hc := Lib.hid hc
  have Hs := Lib.hid hs
  have HG := Lib.hid hG
  have hng := noGuard
  have heq := eq_heads (headV x) (headV x)
  rw [decide_eq_true rfl] at heq
  clear I ha hg hx hc hs hG
  rcases key with ⟨rfl, rfl, rfl, k3, k4⟩ | ⟨rfl, rfl, rfl, rfl⟩ | ⟨rfl, rfl, rfl⟩
  all_goals
    go_enter Tryd.func6, Tryd.ntmps6
    go_wp2_with (first
      | (go_at_call 9; refine (HA.out _ (HT.out.keep H.out)).mono ?_; rintro e w1 ⟨rfl, hs1⟩; replace H := Lib.hid (Stp.trans H.out hs1); replace HB := Lib.hid (HB.out.keep hs1); clear hs1)
      | (go_at_call 18; refine (hget_s l A c _ HB.out).mono ?_; rintro e w2 ⟨rfl, hs1⟩; rw [HG.out, Hc.out]; replace hs1 := Stp.alloc hs1 (.cells (hcells (getH l)) 35); have hk := Blk.new w2 35 (hcells (getH l)); rw [HG.out] at hs1 hk; have HK := Lib.hid hk; replace H := Lib.hid (Stp.trans H.out hs1); replace HB := Lib.hid (HB.out.keep hs1); clear hs1 hk)
      | (go_at_call 14; (with_reducible refine (HI.out.get _ _ rfl _ _ _ Hg.out A c _ HB.out (HT.out.keep H.out)).mono ?_); rintro e w3 ⟨rfl, hs1⟩; replace H := Lib.hid (Stp.trans H.out hs1); replace HK := Lib.hid (HK.out.keep hs1 HK.out.lt); clear hs1 HB)
      | (go_at_call 10; (with_reducible refine (HI.out.name _ _ rfl (by first | exact Nat.le_trans Hs.out (by decide) | exact Nat.zero_le _) _ _ _ Hx.out _ (HT.out.keep H.out)).mono ?_); rintro e w4 ⟨rfl, hs1⟩; replace H := Lib.hid (Stp.trans H.out hs1); obtain ⟨x0, x1, x2, x3, x4, x5, x6, x7, x8, x9, x10⟩ := hd_cells (HK.out.keep hs1 HK.out.lt); clear hs1 HK))
    go_ret
    exact ⟨rfl, H.out⟩
theorem other_walk (I : LabelI) (l : L) (A : Option Addr) (c : Nat) (w : World) (htab : Tab w) (ha : RdA w A c (bs l)) :
    Calls Tryd.prog 6 #[.slice A l.length c] w fun e w' => e = .returned (.bool true) ∧ Stp w w' := by
  by_cases h : 600 < l.length
  · exact other_out I l A c w htab h
  · exact other_in I l A c w htab ha (by omega)
end Go.Proofs.YtokfhockdakhiaaDoor.Label
