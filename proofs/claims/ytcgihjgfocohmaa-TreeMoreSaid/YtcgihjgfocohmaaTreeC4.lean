/-
  Contracts of package tree: One: no statement is proved here.
-/
import Derived.Test.YtcgihjgfocohmaaTreeC3
import Derived.Deep.RegionWith
namespace Go.Proofs.Ytcgihjgfocohmaa.Tree
open Go.RowKit Go.Proofs.Ytcgihjgfocohmaa.Base Go.Proofs.Ytcgihjgfocohmaa.Node Go.Proofs.Ytcgihjgfocohmaa.Long

theorem one_no {n : Nd} (h : n.kind ≠ 48 ∧ n.kind ≠ 49 ∧ n.kind ≠ 50 ∧ n.kind ≠ 53) : oneB n = false := by
  have : kindB n = false := by
    unfold kindB
    rw [if_neg h.1, if_neg h.2.1, if_neg h.2.2.1, if_neg h.2.2.2]
  unfold oneB
  rw [this]
  simp
theorem one_yes {n : Nd} {k : Bool} (h : kindB n = k) : oneB n = (k && (PathM.mayB n.path && numsB n)) := by
  unfold oneB
  rw [h]
  cases k <;> cases PathM.mayB n.path <;> cases numsB n <;> rfl
theorem find_other {k : UInt8} (h : k ≠ 48 ∧ k ≠ 49 ∧ k ≠ 50 ∧ k ≠ 53) : Instr.findNow (.int .u8) (.int .u8 (k.toNat : Int)) kinds.toList 0 = some none := by
  have e : ∀ m : UInt8, k ≠ m → ((k.toNat : Int) == (m.toNat : Int)) = false := fun m hm => beq_eq_false_iff_ne.2 fun h2 => hm (UInt8.toNat_inj.1 (by omega))
  have e1 : ((k.toNat : Int) == 48) = false := e 48 h.1
  have e2 : ((k.toNat : Int) == 49) = false := e 49 h.2.1
  have e3 : ((k.toNat : Int) == 50) = false := e 50 h.2.2.1
  have e4 : ((k.toNat : Int) == 53) = false := e 53 h.2.2.2
  simp [Instr.findNow, Instr.sameNow, e1, e2, e3, e4]
theorem dec_cast (m k : Nat) : decide (m ≤ k) = decide ((m : Int) ≤ (k : Int)) := by
  rw [Bool.eq_iff_iff, decide_eq_true_eq, decide_eq_true_eq]
  omega
theorem kind_48 {n : Nd} (h : n.kind = 48) : kindB n = ((n.link == []) && decide ((n.data.length : Int) ≤ 4000)) := by
  unfold kindB
  rw [if_pos h, dec_cast]
  rfl
theorem kind_49 {n : Nd} (h : n.kind = 49) : kindB n = (PathM.mayB n.link && bareB n) := by
  unfold kindB
  rw [h, if_neg (by decide), if_pos rfl, bareB_is]
theorem kind_50 {n : Nd} (h : n.kind = 50) : kindB n = (textL n.link && (n.data == [])) := by
  unfold kindB
  rw [h, if_neg (by decide), if_neg (by decide), if_pos rfl]
theorem kind_53 {n : Nd} (h : n.kind = 53) : kindB n = ((n.link == []) && (n.data == [])) := by
  unfold kindB
  rw [h, if_neg (by decide), if_neg (by decide), if_neg (by decide), if_pos rfl]
theorem kind_at {n : Nd} {k : UInt8} (h : n.kind = k) {w : World} {g : Nat} {t : TypeId} (hb : Blk w g t (ncells n)) : w.cell? ⟨g, 2, none⟩ = some (.int .u8 (k.toNat : Int)) := by
  rw [← h]
  exact (nd_cells hb).2.2.1

set_option maxRecDepth 100000 in
theorem one_other (n : Nd) (hk : n.kind ≠ 48 ∧ n.kind ≠ 49 ∧ n.kind ≠ 50 ∧ n.kind ≠ 53) (w : World) :
    Calls Try.prog 17 #[nv n] w fun e w' => e = .returned (.bool (oneB n)) ∧ Stp w w' := by
  have h0 := Stp.refl w
  have Hb0 := Lib.hid (Blk.new w 23 (ncells n))
  have H0 := Lib.hid (Stp.alloc h0 (.cells (ncells n) 23))
  obtain ⟨q0, q1, q2, q3, q4, q5, q6, q7⟩ := nd_cells Hb0.out
  rw [one_no hk]
  have Hk := Lib.hid hk
  clear hk
  go_enter Try.func17, Try.ntmps17
  go_wp2_with fail
  go_region_with (go_at_call 30; refine (rules_s _).mono ?_; rintro e w1 ⟨g, rfl, hm, hs⟩; have Hb := Lib.hid (Blk.keep (Blk.drew Hb0.out) hs Hb0.out.lt); have H := Lib.hid (Stp.trans (Stp.drewN H0.out 1) hs); clear hs q0 q1 q2 q3 q4 q5 q6 q7; obtain ⟨q0, q1, q2, q3, q4, q5, q6, q7⟩ := nd_cells Hb.out; have hlk := map_none hm _ (find_other Hk.out))
  all_goals go_wp2_with fail
  all_goals go_ret
  all_goals exact ⟨rfl, H.out⟩
set_option maxRecDepth 100000 in
set_option maxHeartbeats 1000000 in
theorem one_48 (n : Nd) (hn : SmallN n) (hk : n.kind = 48) (w : World) :
    Calls Try.prog 17 #[nv n] w fun e w' => e = .returned (.bool (oneB n)) ∧ Stp w w' := by
  have h0 := Stp.refl w
  have Hn := Lib.hid hn
  have Hb0 := Lib.hid (Blk.new w 23 (ncells n))
  have H0 := Lib.hid (Stp.alloc h0 (.cells (ncells n) 23))
  obtain ⟨q0, q1, q2, q3, q4, q5, q6, q7⟩ := nd_cells Hb0.out
  rw [one_yes (kind_48 hk)]
  have Ek := Lib.hid (show (n.kind.toNat : Int) = 48 by rw [hk]; rfl)
  clear hk hn
  obtain ⟨b1, h1⟩ : ∃ b, ((n.link == []) && decide ((n.data.length : Int) ≤ 4000)) = b := ⟨_, rfl⟩
  obtain ⟨b2, h2⟩ : ∃ b, PathM.mayB n.path = b := ⟨_, rfl⟩
  obtain ⟨b3, h3⟩ : ∃ b, numsB n = b := ⟨_, rfl⟩
  have F1 := Lib.hid h1
  have F2 := Lib.hid h2
  have F3 := Lib.hid h3
  rw [h1, h2, h3]
  clear h1 h2 h3
  go_enter Try.func17, Try.ntmps17
  go_wp2_with fail
  go_region_with (go_at_call 30; refine (rules_s _).mono ?_; rintro e w1 ⟨g, rfl, hm, hs⟩; have Hb := Lib.hid (Blk.keep (Blk.drew Hb0.out) hs Hb0.out.lt); have H := Lib.hid (Stp.trans (Stp.drewN H0.out 1) hs); clear hs q0 q1 q2 q3 q4 q5 q6 q7; obtain ⟨q0, q1, q2, q3, q4, q5, q6, q7⟩ := nd_cells Hb.out; have hlk := map_get hm 48 0 _ rfl; rw [← Ek.out] at hlk)
  all_goals go_wp2_with (first
    | (go_at_call 41; (with_reducible refine (rule1_s n _).mono ?_); rintro e w2 ⟨rfl, hs⟩; rw [F1.out]; replace Hb := Lib.hid (Hb.out.keep hs Hb.out.lt); replace H := Lib.hid (Stp.trans H.out hs); clear hs q0 q1 q2 q3 q4 q5 q6 q7; obtain ⟨q0, q1, q2, q3, q4, q5, q6, q7⟩ := nd_cells Hb.out; rcases b1)
    | (go_at_call 31; (with_reducible refine (Path.may_s n.path _ Hn.out.path).mono ?_); rintro e w3 ⟨rfl, hs⟩; rw [F2.out]; replace Hb := Lib.hid (Hb.out.keep hs Hb.out.lt); replace H := Lib.hid (Stp.trans H.out hs); clear hs q0 q1 q2 q3 q4 q5 q6 q7; obtain ⟨q0, q1, q2, q3, q4, q5, q6, q7⟩ := nd_cells Hb.out; rcases b2)
    | (go_at_call 32; (with_reducible refine (bounded_s n _).mono ?_); rintro e w4 ⟨rfl, hs⟩; rw [F3.out]; replace Hb := Lib.hid (Hb.out.keep hs Hb.out.lt); replace H := Lib.hid (Stp.trans H.out hs); clear hs q0 q1 q2 q3 q4 q5 q6 q7; obtain ⟨q0, q1, q2, q3, q4, q5, q6, q7⟩ := nd_cells Hb.out))
  all_goals go_ret
  all_goals exact ⟨rfl, H.out⟩
set_option maxRecDepth 100000 in
set_option maxHeartbeats 1000000 in
theorem one_49 (n : Nd) (hn : SmallN n) (hk : n.kind = 49) (w : World) :
    Calls Try.prog 17 #[nv n] w fun e w' => e = .returned (.bool (oneB n)) ∧ Stp w w' := by
  have h0 := Stp.refl w
  have Hn := Lib.hid hn
  have Hb0 := Lib.hid (Blk.new w 23 (ncells n))
  have H0 := Lib.hid (Stp.alloc h0 (.cells (ncells n) 23))
  obtain ⟨q0, q1, q2, q3, q4, q5, q6, q7⟩ := nd_cells Hb0.out
  rw [one_yes (kind_49 hk)]
  have Ek := Lib.hid (show (n.kind.toNat : Int) = 49 by rw [hk]; rfl)
  clear hk hn
  obtain ⟨b1, h1⟩ : ∃ b, (PathM.mayB n.link && bareB n) = b := ⟨_, rfl⟩
  obtain ⟨b2, h2⟩ : ∃ b, PathM.mayB n.path = b := ⟨_, rfl⟩
  obtain ⟨b3, h3⟩ : ∃ b, numsB n = b := ⟨_, rfl⟩
  have F1 := Lib.hid h1
  have F2 := Lib.hid h2
  have F3 := Lib.hid h3
  rw [h1, h2, h3]
  clear h1 h2 h3
  go_enter Try.func17, Try.ntmps17
  go_wp2_with fail
  go_region_with (go_at_call 30; refine (rules_s _).mono ?_; rintro e w1 ⟨g, rfl, hm, hs⟩; have Hb := Lib.hid (Blk.keep (Blk.drew Hb0.out) hs Hb0.out.lt); have H := Lib.hid (Stp.trans (Stp.drewN H0.out 1) hs); clear hs q0 q1 q2 q3 q4 q5 q6 q7; obtain ⟨q0, q1, q2, q3, q4, q5, q6, q7⟩ := nd_cells Hb.out; have hlk := map_get hm 49 1 _ rfl; rw [← Ek.out] at hlk)
  all_goals go_wp2_with (first
    | (go_at_call 42; (with_reducible refine (rule2_s n Hn.out _).mono ?_); rintro e w2 ⟨rfl, hs⟩; rw [F1.out]; replace Hb := Lib.hid (Hb.out.keep hs Hb.out.lt); replace H := Lib.hid (Stp.trans H.out hs); clear hs q0 q1 q2 q3 q4 q5 q6 q7; obtain ⟨q0, q1, q2, q3, q4, q5, q6, q7⟩ := nd_cells Hb.out; rcases b1)
    | (go_at_call 31; (with_reducible refine (Path.may_s n.path _ Hn.out.path).mono ?_); rintro e w3 ⟨rfl, hs⟩; rw [F2.out]; replace Hb := Lib.hid (Hb.out.keep hs Hb.out.lt); replace H := Lib.hid (Stp.trans H.out hs); clear hs q0 q1 q2 q3 q4 q5 q6 q7; obtain ⟨q0, q1, q2, q3, q4, q5, q6, q7⟩ := nd_cells Hb.out; rcases b2)
    | (go_at_call 32; (with_reducible refine (bounded_s n _).mono ?_); rintro e w4 ⟨rfl, hs⟩; rw [F3.out]; replace Hb := Lib.hid (Hb.out.keep hs Hb.out.lt); replace H := Lib.hid (Stp.trans H.out hs); clear hs q0 q1 q2 q3 q4 q5 q6 q7; obtain ⟨q0, q1, q2, q3, q4, q5, q6, q7⟩ := nd_cells Hb.out))
  all_goals go_ret
  all_goals exact ⟨rfl, H.out⟩
set_option maxRecDepth 100000 in
set_option maxHeartbeats 1000000 in
theorem one_50 (n : Nd) (hn : SmallN n) (hk : n.kind = 50) (w : World) :
    Calls Try.prog 17 #[nv n] w fun e w' => e = .returned (.bool (oneB n)) ∧ Stp w w' := by
  have h0 := Stp.refl w
  have Hn := Lib.hid hn
  have Hb0 := Lib.hid (Blk.new w 23 (ncells n))
  have H0 := Lib.hid (Stp.alloc h0 (.cells (ncells n) 23))
  obtain ⟨q0, q1, q2, q3, q4, q5, q6, q7⟩ := nd_cells Hb0.out
  rw [one_yes (kind_50 hk)]
  have Ek := Lib.hid (show (n.kind.toNat : Int) = 50 by rw [hk]; rfl)
  clear hk hn
  obtain ⟨b1, h1⟩ : ∃ b, (textL n.link && (n.data == [])) = b := ⟨_, rfl⟩
  obtain ⟨b2, h2⟩ : ∃ b, PathM.mayB n.path = b := ⟨_, rfl⟩
  obtain ⟨b3, h3⟩ : ∃ b, numsB n = b := ⟨_, rfl⟩
  have F1 := Lib.hid h1
  have F2 := Lib.hid h2
  have F3 := Lib.hid h3
  rw [h1, h2, h3]
  clear h1 h2 h3
  go_enter Try.func17, Try.ntmps17
  go_wp2_with fail
  go_region_with (go_at_call 30; refine (rules_s _).mono ?_; rintro e w1 ⟨g, rfl, hm, hs⟩; have Hb := Lib.hid (Blk.keep (Blk.drew Hb0.out) hs Hb0.out.lt); have H := Lib.hid (Stp.trans (Stp.drewN H0.out 1) hs); clear hs q0 q1 q2 q3 q4 q5 q6 q7; obtain ⟨q0, q1, q2, q3, q4, q5, q6, q7⟩ := nd_cells Hb.out; have hlk := map_get hm 50 2 _ rfl; rw [← Ek.out] at hlk)
  all_goals go_wp2_with (first
    | (go_at_call 43; (with_reducible refine (rule3_s n Hn.out _).mono ?_); rintro e w2 ⟨rfl, hs⟩; rw [F1.out]; replace Hb := Lib.hid (Hb.out.keep hs Hb.out.lt); replace H := Lib.hid (Stp.trans H.out hs); clear hs q0 q1 q2 q3 q4 q5 q6 q7; obtain ⟨q0, q1, q2, q3, q4, q5, q6, q7⟩ := nd_cells Hb.out; rcases b1)
    | (go_at_call 31; (with_reducible refine (Path.may_s n.path _ Hn.out.path).mono ?_); rintro e w3 ⟨rfl, hs⟩; rw [F2.out]; replace Hb := Lib.hid (Hb.out.keep hs Hb.out.lt); replace H := Lib.hid (Stp.trans H.out hs); clear hs q0 q1 q2 q3 q4 q5 q6 q7; obtain ⟨q0, q1, q2, q3, q4, q5, q6, q7⟩ := nd_cells Hb.out; rcases b2)
    | (go_at_call 32; (with_reducible refine (bounded_s n _).mono ?_); rintro e w4 ⟨rfl, hs⟩; rw [F3.out]; replace Hb := Lib.hid (Hb.out.keep hs Hb.out.lt); replace H := Lib.hid (Stp.trans H.out hs); clear hs q0 q1 q2 q3 q4 q5 q6 q7; obtain ⟨q0, q1, q2, q3, q4, q5, q6, q7⟩ := nd_cells Hb.out))
  all_goals go_ret
  all_goals exact ⟨rfl, H.out⟩
set_option maxRecDepth 100000 in
set_option maxHeartbeats 1000000 in
theorem one_53 (n : Nd) (hn : SmallN n) (hk : n.kind = 53) (w : World) :
    Calls Try.prog 17 #[nv n] w fun e w' => e = .returned (.bool (oneB n)) ∧ Stp w w' := by
  have h0 := Stp.refl w
  have Hn := Lib.hid hn
  have Hb0 := Lib.hid (Blk.new w 23 (ncells n))
  have H0 := Lib.hid (Stp.alloc h0 (.cells (ncells n) 23))
  obtain ⟨q0, q1, q2, q3, q4, q5, q6, q7⟩ := nd_cells Hb0.out
  rw [one_yes (kind_53 hk)]
  have Ek := Lib.hid (show (n.kind.toNat : Int) = 53 by rw [hk]; rfl)
  clear hk hn
  obtain ⟨b1, h1⟩ : ∃ b, ((n.link == []) && (n.data == [])) = b := ⟨_, rfl⟩
  obtain ⟨b2, h2⟩ : ∃ b, PathM.mayB n.path = b := ⟨_, rfl⟩
  obtain ⟨b3, h3⟩ : ∃ b, numsB n = b := ⟨_, rfl⟩
  have F1 := Lib.hid h1
  have F2 := Lib.hid h2
  have F3 := Lib.hid h3
  rw [h1, h2, h3]
  clear h1 h2 h3
  go_enter Try.func17, Try.ntmps17
  go_wp2_with fail
  go_region_with (go_at_call 30; refine (rules_s _).mono ?_; rintro e w1 ⟨g, rfl, hm, hs⟩; have Hb := Lib.hid (Blk.keep (Blk.drew Hb0.out) hs Hb0.out.lt); have H := Lib.hid (Stp.trans (Stp.drewN H0.out 1) hs); clear hs q0 q1 q2 q3 q4 q5 q6 q7; obtain ⟨q0, q1, q2, q3, q4, q5, q6, q7⟩ := nd_cells Hb.out; have hlk := map_get hm 53 3 _ rfl; rw [← Ek.out] at hlk)
  all_goals go_wp2_with (first
    | (go_at_call 45; (with_reducible refine (rule4_s n _).mono ?_); rintro e w2 ⟨rfl, hs⟩; rw [F1.out]; replace Hb := Lib.hid (Hb.out.keep hs Hb.out.lt); replace H := Lib.hid (Stp.trans H.out hs); clear hs q0 q1 q2 q3 q4 q5 q6 q7; obtain ⟨q0, q1, q2, q3, q4, q5, q6, q7⟩ := nd_cells Hb.out; rcases b1)
    | (go_at_call 31; (with_reducible refine (Path.may_s n.path _ Hn.out.path).mono ?_); rintro e w3 ⟨rfl, hs⟩; rw [F2.out]; replace Hb := Lib.hid (Hb.out.keep hs Hb.out.lt); replace H := Lib.hid (Stp.trans H.out hs); clear hs q0 q1 q2 q3 q4 q5 q6 q7; obtain ⟨q0, q1, q2, q3, q4, q5, q6, q7⟩ := nd_cells Hb.out; rcases b2)
    | (go_at_call 32; (with_reducible refine (bounded_s n _).mono ?_); rintro e w4 ⟨rfl, hs⟩; rw [F3.out]; replace Hb := Lib.hid (Hb.out.keep hs Hb.out.lt); replace H := Lib.hid (Stp.trans H.out hs); clear hs q0 q1 q2 q3 q4 q5 q6 q7; obtain ⟨q0, q1, q2, q3, q4, q5, q6, q7⟩ := nd_cells Hb.out))
  all_goals go_ret
  all_goals exact ⟨rfl, H.out⟩
theorem tone_s (n : Nd) (hn : SmallN n) (w : World) :
    Calls Try.prog 17 #[nv n] w fun e w' => e = .returned (.bool (oneB n)) ∧ Stp w w' := by
  by_cases h1 : n.kind = 48
  · exact one_48 n hn h1 w
  · by_cases h2 : n.kind = 49
    · exact one_49 n hn h2 w
    · by_cases h3 : n.kind = 50
      · exact one_50 n hn h3 w
      · by_cases h4 : n.kind = 53
        · exact one_53 n hn h4 w
        · exact one_other n ⟨h1, h2, h3, h4⟩ w
end Go.Proofs.Ytcgihjgfocohmaa.Tree
