/-
  The walk of EntryMany: no statement is proved here.
-/
import Derived.Test.YtihigbaaajmjlaaEntryI
import Derived.Deep.RegionWith
namespace Go.Proofs.Ytihigbaaajmjlaa.Entry
open Go.RowKit Go.Proofs.Ytihigbaaajmjlaa.Str Go.Proofs.Ytihigbaaajmjlaa.Base Go.Proofs.Ytihigbaaajmjlaa.Node Go.Proofs.Ytihigbaaajmjlaa.Head Go.Proofs.Ytihigbaaajmjlaa.Long
open Go.Proofs.Ytihigbaaajmjlaa.Tree (oneB)

set_option maxRecDepth 100000 in
set_option maxHeartbeats 2000000 in
theorem many_no (I : EntryI) (n : Nd) (hn : SmallN n) (w : World) (hno : fewN n = false ∨ oneB n = false) :
    Calls Try.prog 6 #[nv n] w fun e w' => e = .returned (.bool true) ∧ Stp w w' := by
  have h0 := Stp.alloc (Stp.refl w) (.cells (ncells n) 23)
  have Hb := Lib.hid (Blk.new w 23 (ncells n))
  obtain ⟨q0, q1, q2, q3, q4, q5, q6, q7⟩ := nd_cells Hb.out
  have HI := Lib.hid I
  have Hn := Lib.hid hn
  clear hn I
  obtain ⟨F, hF⟩ : ∃ x, fewN n = x := ⟨_, rfl⟩
  obtain ⟨O, hO⟩ : ∃ x, oneB n = x := ⟨_, rfl⟩
  rw [hF, hO] at hno
  have HF := Lib.hid hF
  have HO := Lib.hid hO
  clear hF hO
  cases F
  · clear hno
    go_enter Try.func6, Try.ntmps6
    go_wp2_with (first
    | (go_at_call 9; (with_reducible refine (awake_s HI.out _).mono ?_); rintro e w9 ⟨rfl, hs⟩; replace Hb := Lib.hid (Hb.out.keep hs Hb.out.lt); replace h0 := Stp.trans h0 hs; clear hs q0 q1 q2 q3 q4 q5 q6 q7; obtain ⟨q0, q1, q2, q3, q4, q5, q6, q7⟩ := nd_cells Hb.out)
    | (go_at_call 10; (with_reducible refine (few_s n _).mono ?_); rintro e w9 ⟨rfl, hs⟩; rw [HF.out]; replace Hb := Lib.hid (Hb.out.keep hs Hb.out.lt); replace h0 := Stp.trans h0 hs; clear hs q0 q1 q2 q3 q4 q5 q6 q7; obtain ⟨q0, q1, q2, q3, q4, q5, q6, q7⟩ := nd_cells Hb.out))
    all_goals go_ret
    all_goals exact ⟨rfl, h0⟩
  · obtain rfl : O = false := by rcases hno with h | h <;> first | exact h | cases h
    clear hno
    go_enter Try.func6, Try.ntmps6
    go_wp2_with (first
    | (go_at_call 9; (with_reducible refine (awake_s HI.out _).mono ?_); rintro e w9 ⟨rfl, hs⟩; replace Hb := Lib.hid (Hb.out.keep hs Hb.out.lt); replace h0 := Stp.trans h0 hs; clear hs q0 q1 q2 q3 q4 q5 q6 q7; obtain ⟨q0, q1, q2, q3, q4, q5, q6, q7⟩ := nd_cells Hb.out)
    | (go_at_call 10; (with_reducible refine (few_s n _).mono ?_); rintro e w9 ⟨rfl, hs⟩; rw [HF.out]; replace Hb := Lib.hid (Hb.out.keep hs Hb.out.lt); replace h0 := Stp.trans h0 hs; clear hs q0 q1 q2 q3 q4 q5 q6 q7; obtain ⟨q0, q1, q2, q3, q4, q5, q6, q7⟩ := nd_cells Hb.out)
    | (go_at_call 20; (with_reducible refine (Tree.tone_s n Hn.out _).mono ?_); rintro e w9 ⟨rfl, hs⟩; rw [HO.out]; replace Hb := Lib.hid (Hb.out.keep hs Hb.out.lt); replace h0 := Stp.trans h0 hs; clear hs q0 q1 q2 q3 q4 q5 q6 q7; obtain ⟨q0, q1, q2, q3, q4, q5, q6, q7⟩ := nd_cells Hb.out))
    all_goals go_ret
    all_goals exact ⟨rfl, h0⟩
set_option maxRecDepth 100000 in
set_option maxHeartbeats 4000000 in
theorem many_core (I : EntryI) (n : Nd) (hn : SmallN n) (w : World) (hF : fewN n = true) (hO : oneB n = true) (a : Nat) (ha : (aheadV n).length = a) (h3 : a = 0 ∨ a = 2 ∨ a = 4) (lb pb : Bool) (gl : decide ((n.link.length : Int) ≤ 100) = lb) (gp : decide ((100 : Int) < (n.path.length : Int)) = pb) (k1 : lb = true ∨ 2 ≤ a) (k2 : pb = true ∨ a ≤ 2) :
    Calls Try.prog 6 #[nv n] w fun e w' => e = .returned (.bool true) ∧ Stp w w' := by
  have h0 := Stp.alloc (Stp.refl w) (.cells (ncells n) 23)
  have Hb := Lib.hid (Blk.new w 23 (ncells n))
  obtain ⟨q0, q1, q2, q3, q4, q5, q6, q7⟩ := nd_cells Hb.out
  have HI := Lib.hid I
  have Hn := Lib.hid hn
  clear hn I
  have HF := Lib.hid hF
  have HO := Lib.hid hO
  obtain ⟨D, hD⟩ : ∃ x, dataE n = x := ⟨_, rfl⟩
  have hP : ((putE n).length : Int) = (a : Int) + 1 + (D : Int) := by
    rw [putE_length hO, ha, ← hD, dataE_yes hO]
    omega
  have hD8 : D ≤ 8 := by
    rw [← hD, dataE_yes hO]
    exact BlockM.manyN_small (by have := (oneF hO).data; omega)
  obtain ⟨M, hM⟩ : ∃ M : Int, (a : Int) + 1 + (D : Int) = M := ⟨_, rfl⟩
  rw [hM] at hP
  have HP := Lib.hid hP
  have HD := Lib.hid (show (dataE n : Int) = (D : Int) by rw [hD])
  have w1 : IntKind.i64.wrap (M - 1) = M - 1 := by
    rw [IntKind.wrap_i64]
    omega
  have w2 : IntKind.i64.wrap (M - 1 - (D : Int)) = (a : Int) := by
    rw [IntKind.wrap_i64]
    omega
  have g8 : decide ((D : Int) ≤ 8) = true := decide_eq_true (by omega)
  clear hF hO hD hP hM ha
  have nope : ¬ (false = true) := by decide
  rcases h3 with rfl | rfl | rfl <;> rcases lb <;> rcases pb
  all_goals first
    | (exfalso; rcases k1 with k | k <;> first | exact nope k | omega)
    | (exfalso; rcases k2 with k | k <;> first | exact nope k | omega)
    | clear k1 k2 nope
  all_goals
    go_enter Try.func6, Try.ntmps6
    go_wp2_with (first
    | (go_at_call 9; (with_reducible refine (awake_s HI.out _).mono ?_); rintro e w9 ⟨rfl, hs⟩; replace Hb := Lib.hid (Hb.out.keep hs Hb.out.lt); replace h0 := Stp.trans h0 hs; clear hs q0 q1 q2 q3 q4 q5 q6 q7; obtain ⟨q0, q1, q2, q3, q4, q5, q6, q7⟩ := nd_cells Hb.out)
    | (go_at_call 10; (with_reducible refine (few_s n _).mono ?_); rintro e w9 ⟨rfl, hs⟩; rw [HF.out]; replace Hb := Lib.hid (Hb.out.keep hs Hb.out.lt); replace h0 := Stp.trans h0 hs; clear hs q0 q1 q2 q3 q4 q5 q6 q7; obtain ⟨q0, q1, q2, q3, q4, q5, q6, q7⟩ := nd_cells Hb.out)
    | (go_at_call 20; (with_reducible refine (Tree.tone_s n Hn.out _).mono ?_); rintro e w9 ⟨rfl, hs⟩; rw [HO.out]; replace Hb := Lib.hid (Hb.out.keep hs Hb.out.lt); replace h0 := Stp.trans h0 hs; clear hs q0 q1 q2 q3 q4 q5 q6 q7; obtain ⟨q0, q1, q2, q3, q4, q5, q6, q7⟩ := nd_cells Hb.out))
    replace Hb := Lib.hid (Blk.drew Hb.out)
    replace h0 : Stp w w9.drew := Stp.drewN h0 1
    go_region_with (first
    | (go_at_call 16; refine (HI.out.many n _ rfl Hn.out _).mono ?_; rintro e w9 ⟨rfl, hs⟩; rw [HP.out]; replace Hb := Lib.hid (Hb.out.keep hs Hb.out.lt); replace h0 := Stp.trans h0 hs; clear hs q0 q1 q2 q3 q4 q5 q6 q7; obtain ⟨q0, q1, q2, q3, q4, q5, q6, q7⟩ := nd_cells Hb.out)
    | (go_at_call 18; refine (HI.out.data n _ rfl Hn.out _).mono ?_; rintro e w9 ⟨rfl, hs⟩; rw [HD.out]; replace Hb := Lib.hid (Hb.out.keep hs Hb.out.lt); replace h0 := Stp.trans h0 hs; clear hs q0 q1 q2 q3 q4 q5 q6 q7; obtain ⟨q0, q1, q2, q3, q4, q5, q6, q7⟩ := nd_cells Hb.out))
  all_goals go_wp2_with (first
    | (go_at_call 16; refine (HI.out.many n _ rfl Hn.out _).mono ?_; rintro e w9 ⟨rfl, hs⟩; rw [HP.out]; replace Hb := Lib.hid (Hb.out.keep hs Hb.out.lt); replace h0 := Stp.trans h0 hs; clear hs q0 q1 q2 q3 q4 q5 q6 q7; obtain ⟨q0, q1, q2, q3, q4, q5, q6, q7⟩ := nd_cells Hb.out)
    | (go_at_call 18; refine (HI.out.data n _ rfl Hn.out _).mono ?_; rintro e w9 ⟨rfl, hs⟩; rw [HD.out]; replace Hb := Lib.hid (Hb.out.keep hs Hb.out.lt); replace h0 := Stp.trans h0 hs; clear hs q0 q1 q2 q3 q4 q5 q6 q7; obtain ⟨q0, q1, q2, q3, q4, q5, q6, q7⟩ := nd_cells Hb.out))
  all_goals first
    | (exfalso; simp only [decide_eq_false_iff_not, decide_eq_true_eq] at gl gp g8; omega)
    | (go_ret; exact ⟨rfl, h0⟩)
theorem many_in (I : EntryI) (n : Nd) (hn : SmallN n) (w : World) (hF : fewN n = true) (hO : oneB n = true) :
    Calls Try.prog 6 #[nv n] w fun e w' => e = .returned (.bool true) ∧ Stp w w' := by
  have ha := ahead_length hO
  refine many_core I n hn w hF hO _ ha ?_ _ _ rfl rfl ?_ ?_
  · split <;> split <;> simp
  · by_cases hl : n.link.length ≤ 100
    · exact .inl (decide_eq_true (by omega))
    · right
      have : needL n = true := decide_eq_true (by omega)
      rw [if_pos this]
      omega
  · cases hq : needN n
    · right
      simp only [Bool.false_eq_true, if_false]
      split <;> omega
    · left
      exact decide_eq_true (by have := (needN_facts hq).2.2.1; omega)
theorem many_s (I : EntryI) (n : Nd) (hn : SmallN n) (w : World) :
    Calls Try.prog 6 #[nv n] w fun e w' => e = .returned (.bool true) ∧ Below w.heap.size w w' := by
  cases hF : fewN n with
  | false => exact many_no I n hn w (.inl hF)
  | true =>
    cases hO : oneB n with
    | false => exact many_no I n hn w (.inr hO)
    | true => exact many_in I n hn w hF hO
end Go.Proofs.Ytihigbaaajmjlaa.Entry
