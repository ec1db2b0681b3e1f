/-
  The walk of TreeFirst: no statement is proved here.
-/
import Derived.Test.YtcgihjgfocohmaaTreeTellsW
import Derived.Test.YtcgihjgfocohmaaTreeL
import Derived.Deep.RegionWith
namespace Go.Proofs.Ytcgihjgfocohmaa.Tree
open Go.RowKit Go.Proofs.Ytcgihjgfocohmaa.Base Go.Proofs.Ytcgihjgfocohmaa.Node Go.Proofs.Ytcgihjgfocohmaa.Long

set_option maxRecDepth 100000 in
set_option maxHeartbeats 2000000 in
theorem first_out (t : List Nd) (k : Int) (hk : k < 0 ∨ t.length ≤ k) (A : Option Addr) (c : Nat) (w : World) (ha : RdN w A c t) (hst : ∀ n ∈ t, SmallN n) (ht : t.length < 9223372036854775808) :
    Calls Try.prog 4 #[.slice A t.length c, .int .i64 k] w fun e w' => e = .returned (.bool true) ∧ Stp w w' := by
  have h0 := Stp.refl w
  obtain ⟨F, hF⟩ : ∃ x, fewT t = x := ⟨_, rfl⟩
  obtain ⟨M, hM⟩ : ∃ x, mayT t = x := ⟨_, rfl⟩
  have HF := Lib.hid hF
  have HM := Lib.hid hM
  have Ha := Lib.hid ha
  have Hst := Lib.hid hst
  have Ht := Lib.hid ht
  clear hF hM ha hst ht
  by_cases hk0 : k < 0
  · have g1 : decide (k < 0) = true := decide_eq_true hk0
    go_enter Try.func4, Try.ntmps4
    go_wp2_with (first
    | (go_at_call 9; (with_reducible refine (awake_s _).mono ?_); rintro e w9 ⟨rfl, hs⟩; replace Ha := Lib.hid (Ha.out.keep hs); (try (replace Hu := Lib.hid (Hu.out.keep hs))); replace h0 := Stp.trans h0 hs; clear hs)
    | (go_at_call 11; (with_reducible refine (fewt_s t A c _ Ha.out Ht.out).mono ?_); rintro e w9 ⟨rfl, hs⟩; rw [HF.out]; replace Ha := Lib.hid (Ha.out.keep hs); (try (replace Hu := Lib.hid (Hu.out.keep hs))); replace h0 := Stp.trans h0 hs; clear hs; rcases F)
    | (go_at_call 18; (with_reducible refine (tmay_s t A c _ Ha.out (by have := few_len HF.out; omega) Hst.out).mono ?_); rintro e w9 ⟨rfl, hs⟩; rw [HM.out]; replace Ha := Lib.hid (Ha.out.keep hs); (try (replace Hu := Lib.hid (Hu.out.keep hs))); replace h0 := Stp.trans h0 hs; clear hs; rcases M))
    all_goals go_ret
    all_goals exact ⟨rfl, h0⟩
  · have g1 : decide (k < 0) = false := decide_eq_false hk0
    have g2 : decide ((t.length : Int) ≤ k) = true := decide_eq_true (by omega)
    go_enter Try.func4, Try.ntmps4
    go_wp2_with (first
    | (go_at_call 9; (with_reducible refine (awake_s _).mono ?_); rintro e w9 ⟨rfl, hs⟩; replace Ha := Lib.hid (Ha.out.keep hs); (try (replace Hu := Lib.hid (Hu.out.keep hs))); replace h0 := Stp.trans h0 hs; clear hs)
    | (go_at_call 11; (with_reducible refine (fewt_s t A c _ Ha.out Ht.out).mono ?_); rintro e w9 ⟨rfl, hs⟩; rw [HF.out]; replace Ha := Lib.hid (Ha.out.keep hs); (try (replace Hu := Lib.hid (Hu.out.keep hs))); replace h0 := Stp.trans h0 hs; clear hs; rcases F)
    | (go_at_call 18; (with_reducible refine (tmay_s t A c _ Ha.out (by have := few_len HF.out; omega) Hst.out).mono ?_); rintro e w9 ⟨rfl, hs⟩; rw [HM.out]; replace Ha := Lib.hid (Ha.out.keep hs); (try (replace Hu := Lib.hid (Hu.out.keep hs))); replace h0 := Stp.trans h0 hs; clear hs; rcases M))
    all_goals go_ret
    all_goals exact ⟨rfl, h0⟩
theorem tmay_n (ns : List Nd) (m : Nat) (hm : ns.length = m) (A : Option Addr) (c : Nat) (w : World) (ha : RdN w A c ns) (hl : ns.length ≤ 1000) (hs : ∀ n ∈ ns, SmallN n) :
    Calls Try.prog 18 #[.slice A m c] w fun e w' => e = .returned (.bool (mayT ns)) ∧ Stp w w' := by
  subst hm
  exact tmay_s ns A c w ha hl hs
set_option maxRecDepth 100000 in
set_option maxHeartbeats 4000000 in
theorem first_in (t : List Nd) (k : Nat) (hk : k < t.length) (A : Option Addr) (c : Nat) (w : World) (ha : RdN w A c t) (hst : ∀ n ∈ t, SmallN n) (ht : t.length < 9223372036854775808) :
    Calls Try.prog 4 #[.slice A t.length c, .int .i64 (k : Int)] w fun e w' => e = .returned (.bool true) ∧ Stp w w' := by
  have h0 := Stp.refl w
  obtain ⟨F, hF⟩ : ∃ x, fewT t = x := ⟨_, rfl⟩
  obtain ⟨M, hM⟩ : ∃ x, mayT t = x := ⟨_, rfl⟩
  have HF := Lib.hid hF
  have HM := Lib.hid hM
  have Ha := Lib.hid ha
  have Hst := Lib.hid hst
  have Ht := Lib.hid ht
  obtain ⟨x, hx⟩ : ∃ n, t[k]? = some n := ⟨_, List.getElem?_eq_getElem hk⟩
  have Hx := Lib.hid hx
  obtain ⟨b, o, rfl, -, q0, q1, q2, q3, q4, q5, q6, q7⟩ := ha.cells hx
  have hc := ha.1
  have hsl := nslice_h b o t.length c k (by omega)
  have Htk := Lib.hid (show (t.take k).length = k by rw [List.length_take]; omega)
  have g1 : decide ((k : Int) < 0) = false := decide_eq_false (by omega)
  have g2 : decide ((t.length : Int) ≤ (k : Int)) = false := decide_eq_false (by omega)
  clear hF hM ha hst hx
  go_enter Try.func4, Try.ntmps4
  go_wp2_with (first
    | (go_at_call 9; (with_reducible refine (awake_s _).mono ?_); rintro e w9 ⟨rfl, hs⟩; replace Ha := Lib.hid (Ha.out.keep hs); (try (replace Hu := Lib.hid (Hu.out.keep hs))); replace h0 := Stp.trans h0 hs; clear hs; clear q0 q1 q2 q3 q4 q5 q6 q7; obtain ⟨b9, o9, e9, -, q0, q1, q2, q3, q4, q5, q6, q7⟩ := Ha.out.cells Hx.out; cases e9)
    | (go_at_call 11; (with_reducible refine (fewt_s t _ c _ Ha.out Ht.out).mono ?_); rintro e w9 ⟨rfl, hs⟩; rw [HF.out]; replace Ha := Lib.hid (Ha.out.keep hs); (try (replace Hu := Lib.hid (Hu.out.keep hs))); replace h0 := Stp.trans h0 hs; clear hs; clear q0 q1 q2 q3 q4 q5 q6 q7; obtain ⟨b9, o9, e9, -, q0, q1, q2, q3, q4, q5, q6, q7⟩ := Ha.out.cells Hx.out; cases e9; rcases F)
    | (go_at_call 18; (with_reducible refine (tmay_s t _ c _ Ha.out (by have := few_len HF.out; omega) Hst.out).mono ?_); rintro e w9 ⟨rfl, hs⟩; rw [HM.out]; replace Ha := Lib.hid (Ha.out.keep hs); (try (replace Hu := Lib.hid (Hu.out.keep hs))); replace h0 := Stp.trans h0 hs; clear hs; clear q0 q1 q2 q3 q4 q5 q6 q7; obtain ⟨b9, o9, e9, -, q0, q1, q2, q3, q4, q5, q6, q7⟩ := Ha.out.cells Hx.out; cases e9; rcases M)
    | (go_at_call 18; (with_reducible refine (tmay_n (t.take k) k Htk.out _ c _ (Ha.out.take k) (by have := few_len HF.out; have := Htk.out; omega) (fun n hn => Hst.out n (List.mem_of_mem_take hn))).mono ?_); rintro e w9 ⟨rfl, hs⟩; rw [may_take HM.out k]; replace Ha := Lib.hid (Ha.out.keep hs); (try (replace Hu := Lib.hid (Hu.out.keep hs))); replace h0 := Stp.trans h0 hs; clear hs; clear q0 q1 q2 q3 q4 q5 q6 q7; obtain ⟨b9, o9, e9, -, q0, q1, q2, q3, q4, q5, q6, q7⟩ := Ha.out.cells Hx.out; cases e9)
    | (go_at_call 17; (with_reducible refine (tone_s x (Hst.out x (List.mem_of_getElem? Hx.out)) _).mono ?_); rintro e w9 ⟨rfl, hs⟩; rw [may_one HM.out Hx.out]; replace Ha := Lib.hid (Ha.out.keep hs); (try (replace Hu := Lib.hid (Hu.out.keep hs))); replace h0 := Stp.trans h0 hs; clear hs; clear q0 q1 q2 q3 q4 q5 q6 q7; obtain ⟨b9, o9, e9, -, q0, q1, q2, q3, q4, q5, q6, q7⟩ := Ha.out.cells Hx.out; cases e9)
    | (go_at_call 20; (with_reducible refine (tfind_s t x.path _ c _ Ha.out (by have := few_len HF.out; omega)).mono ?_); rintro e w9 ⟨rfl, hs⟩; rw [may_findV HM.out Hx.out]; replace Ha := Lib.hid (Ha.out.keep hs); (try (replace Hu := Lib.hid (Hu.out.keep hs))); replace h0 := Stp.trans h0 hs; clear hs; clear q0 q1 q2 q3 q4 q5 q6 q7; obtain ⟨b9, o9, e9, -, q0, q1, q2, q3, q4, q5, q6, q7⟩ := Ha.out.cells Hx.out; cases e9))
  all_goals go_ret
  all_goals exact ⟨rfl, h0⟩
theorem first_s (t : List Nd) (k : Int) (A : Option Addr) (c : Nat) (w : World) (ha : RdN w A c t) (hst : ∀ n ∈ t, SmallN n) (ht : t.length < 9223372036854775808) :
    Calls Try.prog 4 #[.slice A t.length c, .int .i64 k] w fun e w' => e = .returned (.bool true) ∧ Below w.heap.size w w' := by
  by_cases hk : k < 0 ∨ t.length ≤ k
  · exact first_out t k hk A c w ha hst ht
  · obtain ⟨j, rfl⟩ : ∃ j : Nat, k = j := ⟨k.toNat, by omega⟩
    exact first_in t j (by omega) A c w ha hst ht
end Go.Proofs.Ytcgihjgfocohmaa.Tree
