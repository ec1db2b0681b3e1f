/-
  The walk of TreeUnder: no statement is proved here.
-/
import Derived.Test.YtcgihjgfocohmaaTreeTellsW
import Derived.Test.YtcgihjgfocohmaaTreeL
import Derived.Deep.RegionWith
namespace Go.Proofs.Ytcgihjgfocohmaa.Tree
open Go.RowKit Go.Proofs.Ytcgihjgfocohmaa.Base Go.Proofs.Ytcgihjgfocohmaa.Node Go.Proofs.Ytcgihjgfocohmaa.Long

set_option maxRecDepth 100000 in
set_option maxHeartbeats 4000000 in
theorem under_out (t : List Nd) (i k : Int) (hk : i < 0 ∨ k < 0 ∨ t.length ≤ i ∨ t.length ≤ k) (A : Option Addr) (c : Nat) (w : World) (ha : RdN w A c t) (hst : ∀ n ∈ t, SmallN n) (ht : t.length < 9223372036854775808) :
    Calls Try.prog 5 #[.slice A t.length c, .int .i64 i, .int .i64 k] w fun e w' => e = .returned (.bool true) ∧ Stp w w' := by
  have h0 := Stp.refl w
  obtain ⟨F, hF⟩ : ∃ x, fewT t = x := ⟨_, rfl⟩
  obtain ⟨M, hM⟩ : ∃ x, mayT t = x := ⟨_, rfl⟩
  have HF := Lib.hid hF
  have HM := Lib.hid hM
  have Ha := Lib.hid ha
  have Hst := Lib.hid hst
  have Ht := Lib.hid ht
  clear hF hM ha hst ht
  by_cases h1 : i < 0
  · have g1 : decide (i < 0) = true := decide_eq_true h1
    go_enter Try.func5, Try.ntmps5
    go_wp2_with (first
    | (go_at_call 9; (with_reducible refine (awake_s _).mono ?_); rintro e w9 ⟨rfl, hs⟩; replace Ha := Lib.hid (Ha.out.keep hs); (try (replace Hu := Lib.hid (Hu.out.keep hs))); replace h0 := Stp.trans h0 hs; clear hs)
    | (go_at_call 11; (with_reducible refine (fewt_s t A c _ Ha.out Ht.out).mono ?_); rintro e w9 ⟨rfl, hs⟩; rw [HF.out]; replace Ha := Lib.hid (Ha.out.keep hs); (try (replace Hu := Lib.hid (Hu.out.keep hs))); replace h0 := Stp.trans h0 hs; clear hs; rcases F)
    | (go_at_call 18; (with_reducible refine (tmay_s t A c _ Ha.out (by have := few_len HF.out; omega) Hst.out).mono ?_); rintro e w9 ⟨rfl, hs⟩; rw [HM.out]; replace Ha := Lib.hid (Ha.out.keep hs); (try (replace Hu := Lib.hid (Hu.out.keep hs))); replace h0 := Stp.trans h0 hs; clear hs; rcases M))
    all_goals go_ret
    all_goals exact ⟨rfl, h0⟩
  have g1 : decide (i < 0) = false := decide_eq_false h1
  by_cases h2 : k < 0
  · have g2 : decide (k < 0) = true := decide_eq_true h2
    go_enter Try.func5, Try.ntmps5
    go_wp2_with (first
    | (go_at_call 9; (with_reducible refine (awake_s _).mono ?_); rintro e w9 ⟨rfl, hs⟩; replace Ha := Lib.hid (Ha.out.keep hs); (try (replace Hu := Lib.hid (Hu.out.keep hs))); replace h0 := Stp.trans h0 hs; clear hs)
    | (go_at_call 11; (with_reducible refine (fewt_s t A c _ Ha.out Ht.out).mono ?_); rintro e w9 ⟨rfl, hs⟩; rw [HF.out]; replace Ha := Lib.hid (Ha.out.keep hs); (try (replace Hu := Lib.hid (Hu.out.keep hs))); replace h0 := Stp.trans h0 hs; clear hs; rcases F)
    | (go_at_call 18; (with_reducible refine (tmay_s t A c _ Ha.out (by have := few_len HF.out; omega) Hst.out).mono ?_); rintro e w9 ⟨rfl, hs⟩; rw [HM.out]; replace Ha := Lib.hid (Ha.out.keep hs); (try (replace Hu := Lib.hid (Hu.out.keep hs))); replace h0 := Stp.trans h0 hs; clear hs; rcases M))
    all_goals go_ret
    all_goals exact ⟨rfl, h0⟩
  have g2 : decide (k < 0) = false := decide_eq_false h2
  by_cases h3 : (t.length : Int) ≤ i
  · have g3 : decide ((t.length : Int) ≤ i) = true := decide_eq_true h3
    go_enter Try.func5, Try.ntmps5
    go_wp2_with (first
    | (go_at_call 9; (with_reducible refine (awake_s _).mono ?_); rintro e w9 ⟨rfl, hs⟩; replace Ha := Lib.hid (Ha.out.keep hs); (try (replace Hu := Lib.hid (Hu.out.keep hs))); replace h0 := Stp.trans h0 hs; clear hs)
    | (go_at_call 11; (with_reducible refine (fewt_s t A c _ Ha.out Ht.out).mono ?_); rintro e w9 ⟨rfl, hs⟩; rw [HF.out]; replace Ha := Lib.hid (Ha.out.keep hs); (try (replace Hu := Lib.hid (Hu.out.keep hs))); replace h0 := Stp.trans h0 hs; clear hs; rcases F)
    | (go_at_call 18; (with_reducible refine (tmay_s t A c _ Ha.out (by have := few_len HF.out; omega) Hst.out).mono ?_); rintro e w9 ⟨rfl, hs⟩; rw [HM.out]; replace Ha := Lib.hid (Ha.out.keep hs); (try (replace Hu := Lib.hid (Hu.out.keep hs))); replace h0 := Stp.trans h0 hs; clear hs; rcases M))
    all_goals go_ret
    all_goals exact ⟨rfl, h0⟩
  have g3 : decide ((t.length : Int) ≤ i) = false := decide_eq_false h3
  · have g4 : decide ((t.length : Int) ≤ k) = true := decide_eq_true (by omega)
    go_enter Try.func5, Try.ntmps5
    go_wp2_with (first
    | (go_at_call 9; (with_reducible refine (awake_s _).mono ?_); rintro e w9 ⟨rfl, hs⟩; replace Ha := Lib.hid (Ha.out.keep hs); (try (replace Hu := Lib.hid (Hu.out.keep hs))); replace h0 := Stp.trans h0 hs; clear hs)
    | (go_at_call 11; (with_reducible refine (fewt_s t A c _ Ha.out Ht.out).mono ?_); rintro e w9 ⟨rfl, hs⟩; rw [HF.out]; replace Ha := Lib.hid (Ha.out.keep hs); (try (replace Hu := Lib.hid (Hu.out.keep hs))); replace h0 := Stp.trans h0 hs; clear hs; rcases F)
    | (go_at_call 18; (with_reducible refine (tmay_s t A c _ Ha.out (by have := few_len HF.out; omega) Hst.out).mono ?_); rintro e w9 ⟨rfl, hs⟩; rw [HM.out]; replace Ha := Lib.hid (Ha.out.keep hs); (try (replace Hu := Lib.hid (Hu.out.keep hs))); replace h0 := Stp.trans h0 hs; clear hs; rcases M))
    all_goals go_ret
    all_goals exact ⟨rfl, h0⟩
set_option maxRecDepth 100000 in
set_option maxHeartbeats 4000000 in
theorem under_in (t : List Nd) (i k : Nat) (hi : i < t.length) (hk : k < t.length) (A : Option Addr) (c : Nat) (w : World) (ha : RdN w A c t) (hst : ∀ n ∈ t, SmallN n) (ht : t.length < 9223372036854775808) :
    Calls Try.prog 5 #[.slice A t.length c, .int .i64 (i : Int), .int .i64 (k : Int)] w fun e w' => e = .returned (.bool true) ∧ Stp w w' := by
  have h0 := Stp.refl w
  obtain ⟨F, hF⟩ : ∃ x, fewT t = x := ⟨_, rfl⟩
  obtain ⟨M, hM⟩ : ∃ x, mayT t = x := ⟨_, rfl⟩
  have HF := Lib.hid hF
  have HM := Lib.hid hM
  have Ha := Lib.hid ha
  have Hst := Lib.hid hst
  have Ht := Lib.hid ht
  obtain ⟨x, hx⟩ : ∃ n, t[i]? = some n := ⟨_, List.getElem?_eq_getElem hi⟩
  obtain ⟨y, hy⟩ : ∃ n, t[k]? = some n := ⟨_, List.getElem?_eq_getElem hk⟩
  have Hx := Lib.hid hx
  have Hy := Lib.hid hy
  obtain ⟨b, o, rfl, -, q0, q1, q2, q3, q4, q5, q6, q7⟩ := ha.cells hx
  obtain ⟨b8, o8, e8, -, r0, r1, r2, r3, r4, r5, r6, r7⟩ := ha.cells hy
  cases e8
  have hc := ha.1
  obtain ⟨bl, hbl⟩ : ∃ z, PathM.belowB y.path x.path = z := ⟨_, rfl⟩
  obtain ⟨V, hV⟩ : ∃ z, findV (underV t x.path) y.path = z := ⟨_, rfl⟩
  have HB := Lib.hid hbl
  have HV := Lib.hid hV
  have gV : decide (0 ≤ V) = bl := by rw [← hV, ← hbl]; exact under_found hy
  have g1 : decide ((i : Int) < 0) = false := decide_eq_false (by omega)
  have g2 : decide ((t.length : Int) ≤ (i : Int)) = false := decide_eq_false (by omega)
  have g3 : decide ((k : Int) < 0) = false := decide_eq_false (by omega)
  have g4 : decide ((t.length : Int) ≤ (k : Int)) = false := decide_eq_false (by omega)
  have Hik := Lib.hid (fun (hm : mayT t = true) (hb : PathM.belowB y.path x.path = true) => may_behind hm hx hy (below_lt hb))
  have Hkd := Lib.hid (fun (hm : mayT t = true) (hb : PathM.belowB y.path x.path = true) => below_dir hm k i x y hx hy hb)
  clear hF hM ha hst hx hy hbl hV
  go_enter Try.func5, Try.ntmps5
  go_wp2_with (first
    | (go_at_call 9; (with_reducible refine (awake_s _).mono ?_); rintro e w9 ⟨rfl, hs⟩; replace Ha := Lib.hid (Ha.out.keep hs); (try (replace Hu := Lib.hid (Hu.out.keep hs))); replace h0 := Stp.trans h0 hs; clear hs; clear q0 q1 q2 q3 q4 q5 q6 q7 r0 r1 r2 r3 r4 r5 r6 r7; obtain ⟨b9, o9, e9, -, q0, q1, q2, q3, q4, q5, q6, q7⟩ := Ha.out.cells Hx.out; cases e9; obtain ⟨b8, o8, e8, -, r0, r1, r2, r3, r4, r5, r6, r7⟩ := Ha.out.cells Hy.out; cases e8)
    | (go_at_call 11; (with_reducible refine (fewt_s t _ c _ Ha.out Ht.out).mono ?_); rintro e w9 ⟨rfl, hs⟩; rw [HF.out]; replace Ha := Lib.hid (Ha.out.keep hs); (try (replace Hu := Lib.hid (Hu.out.keep hs))); replace h0 := Stp.trans h0 hs; clear hs; clear q0 q1 q2 q3 q4 q5 q6 q7 r0 r1 r2 r3 r4 r5 r6 r7; obtain ⟨b9, o9, e9, -, q0, q1, q2, q3, q4, q5, q6, q7⟩ := Ha.out.cells Hx.out; cases e9; obtain ⟨b8, o8, e8, -, r0, r1, r2, r3, r4, r5, r6, r7⟩ := Ha.out.cells Hy.out; cases e8; rcases F)
    | (go_at_call 18; (with_reducible refine (tmay_s t _ c _ Ha.out (by have := few_len HF.out; omega) Hst.out).mono ?_); rintro e w9 ⟨rfl, hs⟩; rw [HM.out]; replace Ha := Lib.hid (Ha.out.keep hs); (try (replace Hu := Lib.hid (Hu.out.keep hs))); replace h0 := Stp.trans h0 hs; clear hs; clear q0 q1 q2 q3 q4 q5 q6 q7 r0 r1 r2 r3 r4 r5 r6 r7; obtain ⟨b9, o9, e9, -, q0, q1, q2, q3, q4, q5, q6, q7⟩ := Ha.out.cells Hx.out; cases e9; obtain ⟨b8, o8, e8, -, r0, r1, r2, r3, r4, r5, r6, r7⟩ := Ha.out.cells Hy.out; cases e8; rcases M)
    | (go_at_call 15; (with_reducible refine (tunder_s t x.path _ c _ Ha.out (by have := few_len HF.out; omega) (Hst.out x (List.mem_of_getElem? Hx.out)).path (fun n hn => (Hst.out n hn).path)).mono ?_); rintro e w9 ⟨U, cU, rfl, hu, hs⟩; have Hu := Lib.hid hu; clear hu; replace Ha := Lib.hid (Ha.out.keep hs); replace h0 := Stp.trans h0 hs; clear hs; clear q0 q1 q2 q3 q4 q5 q6 q7 r0 r1 r2 r3 r4 r5 r6 r7; obtain ⟨b9, o9, e9, -, q0, q1, q2, q3, q4, q5, q6, q7⟩ := Ha.out.cells Hx.out; cases e9; obtain ⟨b8, o8, e8, -, r0, r1, r2, r3, r4, r5, r6, r7⟩ := Ha.out.cells Hy.out; cases e8)
    | (go_at_call 20; (with_reducible refine (tfind_s (underV t x.path) y.path _ cU _ Hu.out (by have := few_len HF.out; have := under_le t x.path; omega)).mono ?_); rintro e w9 ⟨rfl, hs⟩; rw [HV.out]; replace Ha := Lib.hid (Ha.out.keep hs); (try (replace Hu := Lib.hid (Hu.out.keep hs))); replace h0 := Stp.trans h0 hs; clear hs; clear q0 q1 q2 q3 q4 q5 q6 q7 r0 r1 r2 r3 r4 r5 r6 r7; obtain ⟨b9, o9, e9, -, q0, q1, q2, q3, q4, q5, q6, q7⟩ := Ha.out.cells Hx.out; cases e9; obtain ⟨b8, o8, e8, -, r0, r1, r2, r3, r4, r5, r6, r7⟩ := Ha.out.cells Hy.out; cases e8))
  all_goals first
    | (go_ret; exact ⟨rfl, h0⟩)
    | (go_region_with (go_at_call 22; refine (Path.below_s y.path x.path _ (Hst.out y (List.mem_of_getElem? Hy.out)).path (Hst.out x (List.mem_of_getElem? Hx.out)).path).mono ?_; rintro e w9 ⟨rfl, hs⟩; rw [HB.out]; replace Ha := Lib.hid ((Ha.out.keep (Stp.drewN (Stp.refl _) 1)).keep hs); replace h0 := Stp.trans (Stp.drewN h0 1) hs; clear hs q0 q1 q2 q3 q4 q5 q6 q7 r0 r1 r2 r3 r4 r5 r6 r7; obtain ⟨b9, o9, e9, -, q0, q1, q2, q3, q4, q5, q6, q7⟩ := Ha.out.cells Hx.out; cases e9))
  all_goals rcases bl
  all_goals try have hik := Hik.out HM.out HB.out
  all_goals try have ek : (x.kind.toNat : Int) = 53 := by rw [Hkd.out HM.out HB.out]; rfl
  all_goals go_wp2_with fail
  all_goals first
    | (exfalso; omega)
    | (go_ret; exact ⟨rfl, h0⟩)
    | (go_ret; exact ⟨congrArg (fun b => Ending.returned (.bool b)) (decide_eq_true (under_fewer Hx.out)), h0⟩)
theorem under_s (t : List Nd) (i k : Int) (A : Option Addr) (c : Nat) (w : World) (ha : RdN w A c t) (hst : ∀ n ∈ t, SmallN n) (ht : t.length < 9223372036854775808) :
    Calls Try.prog 5 #[.slice A t.length c, .int .i64 i, .int .i64 k] w fun e w' => e = .returned (.bool true) ∧ Below w.heap.size w w' := by
  by_cases hk : i < 0 ∨ k < 0 ∨ t.length ≤ i ∨ t.length ≤ k
  · exact under_out t i k hk A c w ha hst ht
  · obtain ⟨j, rfl⟩ : ∃ j : Nat, i = j := ⟨i.toNat, by omega⟩
    obtain ⟨m, rfl⟩ : ∃ j : Nat, k = j := ⟨k.toNat, by omega⟩
    exact under_in t j m (by omega) (by omega) A c w ha hst ht
end Go.Proofs.Ytcgihjgfocohmaa.Tree
