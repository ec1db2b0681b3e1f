/-
  The walk of the statement ParseStays over package parse's contracts: the statement itself is proved in a text of its own.
-/
import Derived.Test.YtejgnhicgeiceaaParseI
import Derived.Test.YtejgnhicgeiceaaEvq
import Derived.BigQuiet
import Derived.Deep.QuietTactic
namespace Go.Proofs.Ytejgnhicgeiceaa.Parse
open Go.RowKit Go.Proofs.Ytejgnhicgeiceaa.Str Go.Proofs.Ytejgnhicgeiceaa.Base Go.Proofs.Ytejgnhicgeiceaa.Node Go.Proofs.Ytejgnhicgeiceaa.Long
open Go.Proofs.Ytejgnhicgeiceaa.Tree (oneB)

theorem one_small {n : Nd} (h : oneB n = true) : SmallN n := by
  have f := Entry.oneF h
  have h1 := (PathM.mayB_iff.1 f.path).2.1
  have h2 : n.link.length ≤ 300 := by
    rcases f.link with h | h
    · rw [h]; simp
    · exact (textL_iff.1 h).2.1
  have h3 := f.mode; have h4 := f.uid; have h5 := f.gid; have h6 := f.time; have h7 := f.data
  exact ⟨by omega, by omega, by omega, by omega, by omega, by omega, by omega⟩
theorem may_small {s : St} (h : mayS s = true) : SmallS s := by
  obtain ⟨p0, p5⟩ := may_phase h
  have hp : s.phase = 0 ∨ s.phase = 1 ∨ s.phase = 2 ∨ s.phase = 3 ∨ (s.phase = 4 ∨ s.phase = 5) := by omega
  rcases hp with hp | hp | hp | hp | hp
  · obtain ⟨k1, ⟨k2, k3, k4⟩, k5, k6⟩ := (head_iff hp).1 h
    have := longB_len k5; have := longB_len k6
    exact ⟨by omega, by omega, by rw [k2]; exact zeroN_small, by omega, by omega, by omega, by omega, by rw [k1]; simp, by omega, by omega⟩
  · obtain ⟨k1, ⟨k2, k3, k4, k5⟩, k6, k7⟩ := (name_iff hp).1 h
    have := longB_len k7
    exact ⟨by omega, by omega, by rw [k2]; exact zeroN_small, by omega, by omega, by omega, by omega, by rw [k1]; simp, by rw [k6]; simp, by omega⟩
  · obtain ⟨k1, ⟨k2, k3, k4, k5⟩, k6, k7⟩ := (link_iff hp).1 h
    have := longB_len k7
    exact ⟨by omega, by omega, by rw [k2]; exact zeroN_small, by omega, by omega, by omega, by omega, by rw [k1]; simp, by omega, by rw [k6]; simp⟩
  · obtain ⟨k1, ⟨k2, k3, k4, k5, k6, k7, k8, k9⟩, k10, k11⟩ := (data_iff hp).1 h
    exact ⟨by omega, by omega, one_small k2, by omega, by omega, by omega, by omega, by rw [k1]; simp, by rw [k10]; simp, by rw [k11]; simp⟩
  · obtain ⟨k1, ⟨k2, k3, k4⟩, k5, k6⟩ := (over_iff hp).1 h
    exact ⟨by omega, by omega, by rw [k2]; exact zeroN_small, by omega, by omega, by omega, by omega, by rw [k1]; simp, by rw [k5]; simp, by rw [k6]; simp⟩
theorem step_small {s : St} (hs : SmallS s) (b : L) : SmallS (stepS s b).1 := by
  by_cases h : (stepS s b).2.2 = 0
  · exact may_small (step_goes h).1
  · rw [(step_stay h).1]
    exact hs

set_option maxRecDepth 100000 in
set_option maxHeartbeats 2000000 in
theorem stays_s (I : ParseI) (s : St) (hs : SmallS s) (b : L) (A : Option Addr) (c : Nat) (w : World) (hb : RdA w A c (bs b)) (hl : b.length < 9223372036854775808) :
    Calls Try.prog 3 #[sv s, .slice A b.length c] w fun e w' => e = .returned (.bool true) ∧ Stp w w' := by
  have h0 := Stp.alloc (Stp.refl w) (.cells (scells s) 25)
  have Hb := Lib.hid (Blk.new w 25 (scells s))
  have Hr := Lib.hid (hb.keep h0)
  obtain ⟨q0, q1, q2, q3, q4, q5, q6, q7, q8, q9, q10, q11, q12, q13⟩ := st_cells Hb.out
  have HI := Lib.hid I
  have Hs := Lib.hid hs
  obtain ⟨t, y, e0, hst⟩ : ∃ t y e0, stepS s b = (t, y, e0) := ⟨_, _, _, rfl⟩
  have hok := step_ok s b
  have Hts := Lib.hid (show SmallS t by have := step_small hs b; rwa [hst] at this)
  rw [hst] at hok
  have Hst := Lib.hid hst
  obtain ⟨F, hF⟩ : ∃ x, fewS s = x := ⟨_, rfl⟩
  have HF := Lib.hid hF
  obtain ⟨n, hn⟩ : ∃ x, b.length = x := ⟨_, rfl⟩
  rw [hn] at hl ⊢
  have Hn := Lib.hid hn
  clear I hs hb hst hF hn
  rcases hok with ⟨g1, g2, g3⟩ | ⟨g1, g2, g3, -⟩
  · simp only at g1 g2 g3
    subst g2 g3
    have ge : (e0 != 0) = true := bne_iff_ne.2 g1
    have heq : ∀ w, (Op.equalIn 10000 25 (sv t) (sv t)).run Try.prog w = .ok true w := fun w => by rw [eq_states]; simp
    have hng := eq_states_free
    have Hl0 := Lib.hid (show ([] : List Evt).length = 0 from rfl)
    clear g1
    go_enter Try.func3, Try.ntmps3
    go_wp2_with (first
      | (go_at_call 10; (with_reducible refine (awake_s HI.out _).mono ?_); rintro e w1 ⟨rfl, hs⟩; replace Hb := Lib.hid (Hb.out.keep hs Hb.out.lt); replace Hr := Lib.hid (Hr.out.keep hs); replace h0 := Stp.trans h0 hs; clear hs q0 q1 q2 q3 q4 q5 q6 q7 q8 q9 q10 q11 q12 q13; obtain ⟨q0, q1, q2, q3, q4, q5, q6, q7, q8, q9, q10, q11, q12, q13⟩ := st_cells Hb.out)
      | (go_at_call 11; (with_reducible refine (fews_s t _).mono ?_); rintro e w2 ⟨rfl, hs⟩; rw [HF.out]; replace Hb := Lib.hid (Hb.out.keep hs Hb.out.lt); replace Hr := Lib.hid (Hr.out.keep hs); replace h0 := Stp.trans h0 hs; clear hs q0 q1 q2 q3 q4 q5 q6 q7 q8 q9 q10 q11 q12 q13; obtain ⟨q0, q1, q2, q3, q4, q5, q6, q7, q8, q9, q10, q11, q12, q13⟩ := st_cells Hb.out)
      | (go_at_call 12; (with_reducible refine (HI.out.step t _ rfl Hs.out b n Hn.out hl t [] 0 e0 Hst.out Hl0.out _ _ _ Hr.out).mono ?_); rintro e w3 ⟨B3, d3, rfl, -, hs⟩; replace Hb := Lib.hid ((Hb.out.keep hs Hb.out.lt).alloc (.cells (scells t) 25)); have Hb2 := Lib.hid (Blk.new w3 25 (scells t)); replace h0 := Stp.alloc (Stp.trans h0 hs) (.cells (scells t) 25); clear hs q0 q1 q2 q3 q4 q5 q6 q7 q8 q9 q10 q11 q12 q13; obtain ⟨q0, q1, q2, q3, q4, q5, q6, q7, q8, q9, q10, q11, q12, q13⟩ := st_cells Hb.out; obtain ⟨r0, r1, r2, r3, r4, r5, r6, r7, r8, r9, r10, r11, r12, r13⟩ := st_cells Hb2.out))
    all_goals go_ret
    all_goals first | exact ⟨rfl, h0⟩ | skip
  · simp only at g1 g2 g3
    subst g1
    have Hms := Lib.hid (step_may (s := s) (b := b) (by rw [Hst.out])).1
    have Hmt := Lib.hid g2
    have hyl : (y.length : Int) ≤ 2 := by omega
    obtain ⟨k, hk⟩ : ∃ x, y.length = x := ⟨_, rfl⟩
    rw [hk] at hyl
    have Hk := Lib.hid hk
    clear g2 g3 hk
    go_enter Try.func3, Try.ntmps3
    go_wp2_with (first
      | (go_at_call 10; (with_reducible refine (awake_s HI.out _).mono ?_); rintro e w1 ⟨rfl, hs⟩; replace Hb := Lib.hid (Hb.out.keep hs Hb.out.lt); replace Hr := Lib.hid (Hr.out.keep hs); replace h0 := Stp.trans h0 hs; clear hs q0 q1 q2 q3 q4 q5 q6 q7 q8 q9 q10 q11 q12 q13; obtain ⟨q0, q1, q2, q3, q4, q5, q6, q7, q8, q9, q10, q11, q12, q13⟩ := st_cells Hb.out)
      | (go_at_call 11; (with_reducible refine (fews_s s _).mono ?_); rintro e w2 ⟨rfl, hs⟩; rw [HF.out]; replace Hb := Lib.hid (Hb.out.keep hs Hb.out.lt); replace Hr := Lib.hid (Hr.out.keep hs); replace h0 := Stp.trans h0 hs; clear hs q0 q1 q2 q3 q4 q5 q6 q7 q8 q9 q10 q11 q12 q13; obtain ⟨q0, q1, q2, q3, q4, q5, q6, q7, q8, q9, q10, q11, q12, q13⟩ := st_cells Hb.out)
      | (go_at_call 12; (with_reducible refine (HI.out.step s _ rfl Hs.out b n Hn.out hl t y k 0 Hst.out Hk.out _ _ _ Hr.out).mono ?_); rintro e w3 ⟨B3, d3, rfl, -, hs⟩; replace Hb := Lib.hid ((Hb.out.keep hs Hb.out.lt).alloc (.cells (scells t) 25)); have Hb2 := Lib.hid (Blk.new w3 25 (scells t)); replace h0 := Stp.alloc (Stp.trans h0 hs) (.cells (scells t) 25); clear hs q0 q1 q2 q3 q4 q5 q6 q7 q8 q9 q10 q11 q12 q13; obtain ⟨q0, q1, q2, q3, q4, q5, q6, q7, q8, q9, q10, q11, q12, q13⟩ := st_cells Hb.out; obtain ⟨r0, r1, r2, r3, r4, r5, r6, r7, r8, r9, r10, r11, r12, r13⟩ := st_cells Hb2.out)
      | (go_at_call 13; (with_reducible refine (HI.out.may s _ rfl Hs.out _).mono ?_); rintro e w4 ⟨rfl, hs⟩; rw [Hms.out]; replace Hb2 := Lib.hid (Hb2.out.keep hs Hb2.out.lt); replace h0 := Stp.trans h0 hs; clear hs q0 q1 q2 q3 q4 q5 q6 q7 q8 q9 q10 q11 q12 q13 r0 r1 r2 r3 r4 r5 r6 r7 r8 r9 r10 r11 r12 r13; obtain ⟨r0, r1, r2, r3, r4, r5, r6, r7, r8, r9, r10, r11, r12, r13⟩ := st_cells Hb2.out)
      | (go_at_call 13; (with_reducible refine (HI.out.may t _ rfl Hts.out _).mono ?_); rintro e w5 ⟨rfl, hs⟩; rw [Hmt.out]; replace h0 := Stp.trans h0 hs; clear hs r0 r1 r2 r3 r4 r5 r6 r7 r8 r9 r10 r11 r12 r13))
    all_goals go_ret
    all_goals exact ⟨rfl, h0⟩
end Go.Proofs.Ytejgnhicgeiceaa.Parse
