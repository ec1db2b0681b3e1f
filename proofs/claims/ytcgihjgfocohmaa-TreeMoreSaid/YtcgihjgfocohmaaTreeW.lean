/-
  The chapter's example of package tree, as the laws ask it first: no statement is proved here.
-/
import Derived.Test.YtcgihjgfocohmaaTreeS
namespace Go.Proofs.Ytcgihjgfocohmaa.Tree
open Go.RowKit Go.Proofs.Ytcgihjgfocohmaa.Base Go.Proofs.Ytcgihjgfocohmaa.Node Go.Proofs.Ytcgihjgfocohmaa.Long

theorem tone_v (n : Nd) (v : Value) (hv : v = nv n) (hn : SmallN n) (w : World) :
    Calls Try.prog 17 #[v] w fun e w' => e = .returned (.bool (oneB n)) ∧ Stp w w' := hv ▸ tone_s n hn w
theorem small_ab : ∀ n ∈ [nodeA, nodeB], SmallN n := by
  intro n hn
  simp only [List.mem_cons, List.not_mem_nil, or_false] at hn
  rcases hn with rfl | rfl <;> constructor <;> decide
theorem rd_tail {w : World} {g : Nat} (h : RdN w (some ⟨g, 0, none⟩) 2 [nodeA, nodeB]) : RdN w (some ⟨g, 8, none⟩) 1 [nodeB] := by
  refine ⟨by simp, fun _ => ?_⟩
  obtain ⟨b, o, e, hb, hc⟩ := h.2 (by simp)
  cases e
  refine ⟨g, 8, rfl, hb, fun q u hq => ?_⟩
  have h2 : (ntc [nodeA, nodeB])[8 + q]? = some u := by
    rw [show ntc [nodeA, nodeB] = (ncells nodeA).toList ++ ntc [nodeB] from rfl, List.getElem?_append_right (by show 8 ≤ 8 + q; omega)]
    rw [show 8 + q - (ncells nodeA).toList.length = q by show 8 + q - 8 = q; omega]
    exact hq
  have := hc _ u h2
  rw [Nat.zero_add] at this
  exact this
theorem tmay_ab (g : Nat) (w : World) (h : RdN w (some ⟨g, 0, none⟩) 2 [nodeA, nodeB]) :
    Calls Try.prog 18 #[.slice (some ⟨g, 0, none⟩) 2 2] w fun e w' => e = .returned (.bool true) ∧ Stp w w' := by
  have := tmay_s [nodeA, nodeB] (some ⟨g, 0, none⟩) 2 w h (by simp) small_ab
  rw [ex_facts.1] at this
  exact this
theorem tmay_b (g : Nat) (w : World) (h : RdN w (some ⟨g, 0, none⟩) 2 [nodeA, nodeB]) :
    Calls Try.prog 18 #[.slice (some ⟨g, 8, none⟩) 1 1] w fun e w' => e = .returned (.bool false) ∧ Stp w w' := by
  have := tmay_s [nodeB] (some ⟨g, 8, none⟩) 1 w (rd_tail h) (by simp) (fun n hn => small_ab n (by simp at hn; simp [hn]))
  rw [ex_facts.2.2.2.2] at this
  exact this
set_option maxRecDepth 100000 in
set_option maxHeartbeats 2000000 in
theorem awake_s (w : World) : Calls Try.prog 9 #[] w fun e w' => e = .returned (.bool true) ∧ Stp w w' := by
  have h0 := Stp.refl w
  obtain ⟨f1, f2, f3, f4, f5⟩ := ex_facts
  go_enter Try.func9, Try.ntmps9
  go_wp2_with (first
    | (go_at_call 24; refine (two_s _).mono ?_; rintro e w1 ⟨g, rfl, hr, hs⟩; have Hr := Lib.hid hr; replace h0 := Stp.trans h0 hs; clear hs hr; obtain ⟨b, o, hbo, -, q0, q1, q2, q3, q4, q5, q6, q7⟩ := Hr.out.cells (j := 0) (n := nodeA) rfl; cases hbo)
    | (go_at_call 18; (with_reducible refine (tmay_ab g _ Hr.out).mono ?_); rintro e w2 ⟨rfl, hs⟩; replace Hr := Lib.hid (Hr.out.keep hs); replace h0 := Stp.trans h0 hs; clear hs q0 q1 q2 q3 q4 q5 q6 q7; obtain ⟨b, o, hbo, -, q0, q1, q2, q3, q4, q5, q6, q7⟩ := Hr.out.cells (j := 0) (n := nodeA) rfl; cases hbo)
    | (go_at_call 17; refine (tone_v nodeA _ rfl (small_ab _ (by simp)) _).mono ?_; rintro e w3 ⟨rfl, hs⟩; rw [f2]; replace Hr := Lib.hid (Hr.out.keep hs); replace h0 := Stp.trans h0 hs; clear hs q0 q1 q2 q3 q4 q5 q6 q7)
    | (go_at_call 20; refine (tfind_s [nodeA, nodeB] [97, 47, 98] (some ⟨g, 0, none⟩) 2 _ Hr.out (by simp)).mono ?_; rintro e w4 ⟨rfl, hs⟩; rw [f3]; replace Hr := Lib.hid (Hr.out.keep hs); replace h0 := Stp.trans h0 hs; clear hs)
    | (go_at_call 15; refine (tunder_s [nodeA, nodeB] [97] (some ⟨g, 0, none⟩) 2 _ Hr.out (by simp) (by simp) (by decide)).mono ?_; rintro e w5 ⟨A5, c5, rfl, hr5, hs⟩; rw [f4]; replace Hr := Lib.hid (Hr.out.keep hs); replace h0 := Stp.trans h0 hs; clear hs hr5)
    | (go_at_call 19; refine (tsame_s [nodeA, nodeB] [nodeA, nodeB] (some ⟨g, 0, none⟩) (some ⟨g, 0, none⟩) 2 2 _ Hr.out Hr.out (by simp) (by simp)).mono ?_; rintro e w6 ⟨rfl, hs⟩; rw [show ([nodeA, nodeB] == [nodeA, nodeB]) = true from beq_self_eq_true _]; replace Hr := Lib.hid (Hr.out.keep hs); replace h0 := Stp.trans h0 hs; clear hs)
    | (go_at_call 18; (with_reducible refine (tmay_b g _ Hr.out).mono ?_); rintro e w7 ⟨rfl, hs⟩; replace h0 := Stp.trans h0 hs; clear hs))
  go_ret
  exact ⟨rfl, h0⟩
end Go.Proofs.Ytcgihjgfocohmaa.Tree
