/-
  What the walks of package stream's laws ask of its code, and the chapter's example: no statement is proved here.
-/
import Derived.Test.YtcgdeeinnfkgkaaGreatStreamM
import Derived.Test.YtcgdeeinnfkgkaaGreatTreeS
import Derived.Test.YtcgdeeinnfkgkaaGreatNodes
import Derived.Test.YtcgdeeinnfkgkaaGreatBlockRef
namespace Go.Proofs.YtcgdeeinnfkgkaaGreat.Base
open Go.RowKit
/-- Numbers as cells. -/
def ics (xs : List Nat) : List Value := xs.map fun n : Nat => Value.int .i64 (n : Int)
theorem ics_length (xs : List Nat) : (ics xs).length = xs.length := by simp [ics]
theorem ics_append (xs ys : List Nat) : ics (xs ++ ys) = ics xs ++ ics ys := by simp [ics]
theorem ics_one (xs : List Nat) : ∀ u ∈ ics xs, u.oneCell' = true := by
  intro u hu
  obtain ⟨_, _, rfl⟩ := List.mem_map.1 hu
  rfl
theorem ics_at {xs : List Nat} {j x : Nat} (h : xs[j]? = some x) : (ics xs)[j]? = some (.int .i64 (x : Int)) := by simp [ics, h]
/-- The slice at A reads as these numbers. -/
abbrev RdI (w : World) (A : Option Addr) (c : Nat) (xs : List Nat) : Prop := RdA w A c (ics xs)
theorem RdI.cell {w : World} {A : Option Addr} {c : Nat} {xs : List Nat} (h : RdI w A c xs) {j x : Nat} (hj : xs[j]? = some x) : ∃ b o, A = some ⟨b, o, none⟩ ∧ w.cell? ⟨b, o + j, none⟩ = some (.int .i64 (x : Int)) := by
  obtain ⟨b, o, rfl, hu⟩ := RdA.at_ h (j := j) (by rw [ics_length]; exact (List.getElem?_eq_some_iff.1 hj).1)
  exact ⟨b, o, rfl, hu j _ (ics_at hj)⟩
end Go.Proofs.YtcgdeeinnfkgkaaGreat.Base
namespace Go.Proofs.YtcgdeeinnfkgkaaGreat.Stream
open Go.RowKit Go.Proofs.YtcgdeeinnfkgkaaGreat.Str Go.Proofs.YtcgdeeinnfkgkaaGreat.Base Go.Proofs.YtcgdeeinnfkgkaaGreat.Node Go.Proofs.YtcgdeeinnfkgkaaGreat.Long Go.Proofs.YtcgdeeinnfkgkaaGreat.Entry
open Go.Proofs.YtcgdeeinnfkgkaaGreat.Tree (oneB mayT nodeA nodeB)

/-- The contracts of the four calls. -/
structure StreamI : Prop where
  all : ∀ (t : List Nd) (m : Nat), t.length = m → m ≤ 1000 → (∀ n ∈ t, SmallN n) → ∀ (A : Option Addr) (c : Nat) (w : World), RdN w A c t →
    Calls Tryz.prog 6 #[.slice A m c] w fun e w' => ∃ B d, e = .returned (.tuple #[.slice B (allS t).length d, .bool (mayT t)]) ∧ RdL w' B d (allS t) ∧ Stp w w'
  many : ∀ (t : List Nd) (m : Nat), t.length = m → m ≤ 1000 → (∀ n ∈ t, SmallN n) → ∀ (A : Option Addr) (c : Nat) (w : World), RdN w A c t →
    Calls Tryz.prog 14 #[.slice A m c] w fun e w' => e = .returned (.int .i64 ((allS t).length : Int)) ∧ Stp w w'
  whose : ∀ (t : List Nd) (m : Nat), t.length = m → m ≤ 1000 → (∀ n ∈ t, SmallN n) → ∀ (i : Int), -9223372036854775808 ≤ i → i < 9223372036854775808 → ∀ (A : Option Addr) (c : Nat) (w : World), RdN w A c t →
    Calls Tryz.prog 8 #[.slice A m c, .int .i64 i] w fun e w' => e = .returned (.tuple #[.int .i64 (whereS t i).1, .int .i64 (whereS t i).2]) ∧ Stp w w'
  starts : ∀ (t : List Nd) (m : Nat), t.length = m → m ≤ 1000 → (∀ n ∈ t, SmallN n) → ∀ (A : Option Addr) (c : Nat) (w : World), RdN w A c t →
    Calls Tryz.prog 12 #[.slice A m c] w fun e w' => ∃ B d, e = .returned (.slice B (startsS t).length d) ∧ RdI w' B d (startsS t) ∧ Stp w w'

theorem ex_facts : mayT [nodeA, nodeB] = true ∧ (allS [nodeA, nodeB]).length = 5 ∧ whereS [nodeA, nodeB] 2 = (1, 0) := by
  have h1 : mayT [nodeA, nodeB] = true := Tree.ex_facts.1
  have ha : (putE nodeA).length = 1 := by
    rw [putE_length (by decide +kernel), ahead_length (by decide +kernel), show needL nodeA = false by decide +kernel, show needN nodeA = false by decide +kernel]
    decide +kernel
  have hb : (putE nodeB).length = 2 := by
    rw [putE_length (by decide +kernel), ahead_length (by decide +kernel), show needL nodeB = false by decide +kernel, show needN nodeB = false by decide +kernel]
    decide +kernel
  have hd : dataE nodeB = 1 := by decide +kernel
  have h2 : (allS [nodeA, nodeB]).length = 5 := by
    rw [allS_yes h1, List.length_append, endsV_length, blocks_cons, blocks_cons, List.length_append, List.length_append, ha, hb]
    rfl
  refine ⟨h1, h2, ?_⟩
  unfold whereS
  rw [if_pos (by rw [h2]; omega)]
  show whereL [nodeA, nodeB] 0 2 = _
  rw [whereL, if_neg (by rw [ha]; omega), whereL, if_pos (by rw [ha, hb]; omega)]
  unfold ownV
  rw [ha, hb, hd, if_neg (by omega)]
  rfl
theorem nil_facts : mayT [] = true ∧ (allS []).length = 2 ∧ (startsS []).length = 1 := by
  have h1 : mayT [] = true := by decide
  refine ⟨h1, ?_, ?_⟩
  · rw [all_length h1]
    rfl
  · rw [startsS_yes h1]
    rfl
theorem small_nil : ∀ n ∈ ([] : List Nd), SmallN n := by simp
theorem small_ab : ∀ n ∈ [nodeA, nodeB], SmallN n := by
  intro n hn
  simp only [List.mem_cons, List.not_mem_nil, or_false] at hn
  rcases hn with rfl | rfl <;> constructor <;> decide
theorem l0 : ([] : List Nd).length = 0 := rfl
theorem l2 : [nodeA, nodeB].length = 2 := rfl

set_option maxRecDepth 100000 in
set_option maxHeartbeats 2000000 in
theorem awake_s (I : StreamI) (w : World) : Calls Tryz.prog 4 #[] w fun e w' => e = .returned (.bool true) ∧ Stp w w' := by
  have h0 := Stp.refl w
  obtain ⟨f1, f2, f3⟩ := ex_facts
  obtain ⟨e1, e2, e3⟩ := nil_facts
  have F2 := Lib.hid f2
  have F31 := Lib.hid (congrArg Prod.fst f3)
  have F32 := Lib.hid (congrArg Prod.snd f3)
  have E1 := Lib.hid e1
  have E2 := Lib.hid e2
  have E3 := Lib.hid e3
  have HI := Lib.hid I
  clear f1 f2 f3 e1 e2 e3 I
  go_enter Tryz.func4, Tryz.ntmps4
  go_wp2_with (first
    | (go_at_call 6; (with_reducible refine (HI.out.all [] 0 l0 (by omega) small_nil _ _ _ (RdN.nil _)).mono ?_); rintro e w1 ⟨B, d, rfl, -, hs⟩; rw [E1.out, E2.out]; replace h0 := Stp.trans h0 hs; clear hs)
    | (go_at_call 16; refine (Tree.two_s _).mono ?_; rintro e w2 ⟨g, rfl, hr, hs⟩; have Hr := Lib.hid hr; replace h0 := Stp.trans h0 hs; clear hs hr)
    | (go_at_call 8; (with_reducible refine (HI.out.whose [nodeA, nodeB] 2 l2 (by omega) small_ab 2 (by omega) (by omega) _ _ _ Hr.out).mono ?_); rintro e w3 ⟨rfl, hs⟩; rw [F31.out, F32.out]; replace h0 := Stp.trans h0 hs; clear hs)
    | (go_at_call 14; (with_reducible refine (HI.out.many [nodeA, nodeB] 2 l2 (by omega) small_ab _ _ _ Hr.out).mono ?_); rintro e w4 ⟨rfl, hs⟩; rw [F2.out]; replace h0 := Stp.trans h0 hs; clear hs)
    | (go_at_call 12; (with_reducible refine (HI.out.starts [] 0 l0 (by omega) small_nil _ _ _ (RdN.nil _)).mono ?_); rintro e w5 ⟨B, d, rfl, -, hs⟩; rw [E3.out]; replace h0 := Stp.trans h0 hs; clear hs))
  all_goals go_ret
  all_goals exact ⟨rfl, h0⟩
end Go.Proofs.YtcgdeeinnfkgkaaGreat.Stream
