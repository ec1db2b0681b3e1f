/-
  The walk of TreeTwice where a node is asked for: no statement is proved here.
-/
import Derived.Test.YtcgihjgfocohmaaTreeTwiceW
import Derived.Deep.RegionWith
namespace Go.Proofs.Ytcgihjgfocohmaa.Tree
open Go.RowKit Go.Proofs.Ytcgihjgfocohmaa.Base Go.Proofs.Ytcgihjgfocohmaa.Node Go.Proofs.Ytcgihjgfocohmaa.Long

set_option maxRecDepth 100000 in
set_option maxHeartbeats 4000000 in
theorem twice_in (t : List Nd) (p : L) (A : Option Addr) (c : Nat) (w : World) (ha : RdN w A c t) (hst : ∀ n ∈ t, n.path.length ≤ 9223372036854775807) (ht : t.length < 9223372036854775808) (hp : p.length ≤ 9223372036854775807) (j : Nat) (x : Nd) (hj : (underV t p)[j]? = some x) (hxp : x.path.length ≤ 9223372036854775807) :
    Calls Try.prog 7 #[.slice A t.length c, .string ⟨p.toArray⟩, .int .i64 j] w fun e w' => e = .returned (.bool true) ∧ Stp w w' := by
  have h0 := Stp.refl w
  obtain ⟨F, hF⟩ : ∃ x, fewT t = x := ⟨_, rfl⟩
  have HF := Lib.hid hF
  have Ha := Lib.hid ha
  have Hst := Lib.hid hst
  have Ht := Lib.hid ht
  have Hp := Lib.hid hp
  have Hj := Lib.hid hj
  have Hxp := Lib.hid hxp
  have Hlow := Lib.hid (under_low (List.mem_of_getElem? hj))
  have hjl : j < (underV t p).length := (List.getElem?_eq_some_iff.1 hj).1
  have g1 : decide ((j : Int) < 0) = false := decide_eq_false (by omega)
  have g2 : decide (((underV t p).length : Int) ≤ (j : Int)) = false := decide_eq_false (by omega)
  clear hF ha hst ht hj hxp
  go_enter Try.func7, Try.ntmps7
  go_wp2_with (first
    | (go_at_call 9; (with_reducible refine (awake_s _).mono ?_); rintro e w9 ⟨rfl, hs⟩; (try (replace Ha := Lib.hid (Ha.out.keep hs))); (try (replace Hu := Lib.hid (Hu.out.keep hs))); (try (replace Hv := Lib.hid (Hv.out.keep hs))); (try (replace Hx := Lib.hid (Hx.out.keep hs))); (try (replace Hy := Lib.hid (Hy.out.keep hs))); replace h0 := Stp.trans h0 hs; clear hs)
    | (go_at_call 11; (with_reducible refine (fewt_s t A c _ Ha.out Ht.out).mono ?_); rintro e w9 ⟨rfl, hs⟩; rw [HF.out]; (try (replace Ha := Lib.hid (Ha.out.keep hs))); (try (replace Hu := Lib.hid (Hu.out.keep hs))); (try (replace Hv := Lib.hid (Hv.out.keep hs))); (try (replace Hx := Lib.hid (Hx.out.keep hs))); (try (replace Hy := Lib.hid (Hy.out.keep hs))); replace h0 := Stp.trans h0 hs; clear hs; rcases F)
    | (go_at_call 15; (with_reducible refine (tunder_s t p A c _ Ha.out (by have := few_len HF.out; omega) Hp.out Hst.out).mono ?_); rintro e w9 ⟨U, cU, rfl, hu, hs⟩; have Hu := Lib.hid hu; clear hu; (try (replace Ha := Lib.hid (Ha.out.keep hs))); replace h0 := Stp.trans h0 hs; clear hs)
    | (go_at_call 15; (with_reducible refine (tunder_s (underV t p) p _ cU _ Hu.out (by have := few_len HF.out; have := under_le t p; omega) Hp.out (fun n hn => Hst.out n (under_sub hn))).mono ?_); rintro e w9 ⟨V, cV, rfl, hv, hs⟩; rw [under_twice] at hv ⊢; have Hv := Lib.hid hv; clear hv; (try (replace Ha := Lib.hid (Ha.out.keep hs))); (try (replace Hu := Lib.hid (Hu.out.keep hs))); replace h0 := Stp.trans h0 hs; clear hs)
    | (go_at_call 14; (with_reducible refine (rsame_s (underV t p) (underV t p) V _ cV cU _ Hv.out Hu.out (by have := few_len HF.out; have := under_le t p; omega)).mono ?_); rintro e w9 ⟨rfl, hs⟩; rw [show (underV t p == underV t p) = true from beq_self_eq_true _]; (try (replace Ha := Lib.hid (Ha.out.keep hs))); (try (replace Hu := Lib.hid (Hu.out.keep hs))); (try (replace Hv := Lib.hid (Hv.out.keep hs))); (try (replace Hx := Lib.hid (Hx.out.keep hs))); (try (replace Hy := Lib.hid (Hy.out.keep hs))); replace h0 := Stp.trans h0 hs; clear hs))
  all_goals first
    | (go_ret; exact ⟨rfl, h0⟩)
    | (exfalso; omega)
    | (obtain ⟨bu, ou, rfl, -, q0, q1, q2, q3, q4, q5, q6, q7⟩ := Hu.out.cells Hj.out
       have hcu := Hu.out.1
       replace Ha := Lib.hid (show RdN w9.drew A c t from Ha.out.keep (Stp.drewN (Stp.refl _) 1))
       replace Hu := Lib.hid (show RdN w9.drew (some ⟨bu, ou, none⟩) cU (underV t p) from Hu.out.keep (Stp.drewN (Stp.refl _) 1))
       replace h0 : Stp w w9.drew := Stp.drewN h0 1
       go_region_with (first
    | (go_at_call 15; (with_reducible refine (tunder_s t x.path A c _ Ha.out (by have := few_len HF.out; omega) Hxp.out Hst.out).mono ?_); rintro e w9 ⟨X, cX, rfl, hx, hs⟩; have Hx := Lib.hid hx; clear hx; (try (replace Ha := Lib.hid (Ha.out.keep hs))); (try (replace Hu := Lib.hid (Hu.out.keep hs))); (try (replace Hy := Lib.hid (Hy.out.keep hs))); replace h0 := Stp.trans h0 hs; clear hs; clear q0 q1 q2 q3 q4 q5 q6 q7; obtain ⟨b9, o9, e9, -, q0, q1, q2, q3, q4, q5, q6, q7⟩ := Hu.out.cells Hj.out; cases e9)
    | (go_at_call 15; (with_reducible refine (tunder_s (underV t p) x.path _ cU _ Hu.out (by have := few_len HF.out; have := under_le t p; omega) Hxp.out (fun n hn => Hst.out n (under_sub hn))).mono ?_); rintro e w9 ⟨Y, cY, rfl, hy, hs⟩; rw [← Hlow.out] at hy ⊢; have Hy := Lib.hid hy; clear hy; (try (replace Ha := Lib.hid (Ha.out.keep hs))); (try (replace Hu := Lib.hid (Hu.out.keep hs))); (try (replace Hx := Lib.hid (Hx.out.keep hs))); replace h0 := Stp.trans h0 hs; clear hs; clear q0 q1 q2 q3 q4 q5 q6 q7; obtain ⟨b9, o9, e9, -, q0, q1, q2, q3, q4, q5, q6, q7⟩ := Hu.out.cells Hj.out; cases e9)
    | (go_at_call 14; (with_reducible refine (rsame_s (underV t x.path) (underV t x.path) X Y cX cY _ Hx.out Hy.out (by have := few_len HF.out; have := under_le t x.path; omega)).mono ?_); rintro e w9 ⟨rfl, hs⟩; rw [show (underV t x.path == underV t x.path) = true from beq_self_eq_true _]; (try (replace Ha := Lib.hid (Ha.out.keep hs))); (try (replace Hu := Lib.hid (Hu.out.keep hs))); (try (replace Hv := Lib.hid (Hv.out.keep hs))); (try (replace Hx := Lib.hid (Hx.out.keep hs))); (try (replace Hy := Lib.hid (Hy.out.keep hs))); replace h0 := Stp.trans h0 hs; clear hs)))
  all_goals go_wp2_with fail
  all_goals go_ret
  all_goals exact ⟨rfl, h0⟩
theorem twice_s (t : List Nd) (q : ByteArray) (A : Option Addr) (c : Nat) (i : Int) (w : World) (ha : RdN w A c t) (hst : ∀ n ∈ t, SmallN n) (ht : t.length < 9223372036854775808) (hq : q.size ≤ maxLen) :
    Calls Try.prog 7 #[.slice A t.length c, .string q, .int .i64 i] w fun e w' => e = .returned (.bool true) ∧ Below w.heap.size w w' := by
  obtain ⟨p, rfl, hp⟩ := Str.str_form q hq
  by_cases hi : i < 0 ∨ (underV t p).length ≤ i
  · exact twice_out t p A c w ha (fun n hn => (hst n hn).path) ht hp i hi
  · obtain ⟨j, rfl⟩ : ∃ k : Nat, i = k := ⟨i.toNat, by omega⟩
    obtain ⟨x, hx⟩ : ∃ n, (underV t p)[j]? = some n := ⟨_, List.getElem?_eq_getElem (by omega)⟩
    exact twice_in t p A c w ha (fun n hn => (hst n hn).path) ht hp j x hx (hst x (under_sub (List.mem_of_getElem? hx))).path
end Go.Proofs.Ytcgihjgfocohmaa.Tree
