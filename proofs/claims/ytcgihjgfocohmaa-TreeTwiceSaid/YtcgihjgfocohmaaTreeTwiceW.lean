/-
  The walk of TreeTwice: no statement is proved here.
-/
import Derived.Test.YtcgihjgfocohmaaTreeTellsW
namespace Go.Proofs.Ytcgihjgfocohmaa.Tree
open Go.RowKit Go.Proofs.Ytcgihjgfocohmaa.Base Go.Proofs.Ytcgihjgfocohmaa.Node Go.Proofs.Ytcgihjgfocohmaa.Long

theorem under_twice (t : List Nd) (p : L) : underV (underV t p) p = underV t p := by simp [underV]
theorem under_sub {t : List Nd} {p : L} {n : Nd} (h : n ∈ underV t p) : n ∈ t := (List.mem_filter.1 h).1
theorem under_low {t : List Nd} {p : L} {x : Nd} (h : x ∈ underV t p) : underV t x.path = underV (underV t p) x.path := by
  unfold underV
  rw [List.filter_filter]
  refine List.filter_congr fun n _ => ?_
  cases hb : PathM.belowB n.path x.path
  · rfl
  · rw [PathM.belowB_trans hb (List.mem_filter.1 h).2]; rfl
set_option maxRecDepth 100000 in
set_option maxHeartbeats 4000000 in
theorem twice_out (t : List Nd) (p : L) (A : Option Addr) (c : Nat) (w : World) (ha : RdN w A c t) (hst : ∀ n ∈ t, n.path.length ≤ 9223372036854775807) (ht : t.length < 9223372036854775808) (hp : p.length ≤ 9223372036854775807) (i : Int) (hi : i < 0 ∨ (underV t p).length ≤ i) :
    Calls Try.prog 7 #[.slice A t.length c, .string ⟨p.toArray⟩, .int .i64 i] w fun e w' => e = .returned (.bool true) ∧ Stp w w' := by
  have h0 := Stp.refl w
  obtain ⟨F, hF⟩ : ∃ x, fewT t = x := ⟨_, rfl⟩
  have HF := Lib.hid hF
  have Ha := Lib.hid ha
  have Hst := Lib.hid hst
  have Ht := Lib.hid ht
  have Hp := Lib.hid hp
  clear hF ha hst ht
  rcases hi with hi | hi
  · have g1 : decide (i < 0) = true := decide_eq_true hi
    go_enter Try.func7, Try.ntmps7
    go_wp2_with (first
    | (go_at_call 9; (with_reducible refine (awake_s _).mono ?_); rintro e w9 ⟨rfl, hs⟩; (try (replace Ha := Lib.hid (Ha.out.keep hs))); (try (replace Hu := Lib.hid (Hu.out.keep hs))); (try (replace Hv := Lib.hid (Hv.out.keep hs))); (try (replace Hx := Lib.hid (Hx.out.keep hs))); (try (replace Hy := Lib.hid (Hy.out.keep hs))); replace h0 := Stp.trans h0 hs; clear hs)
    | (go_at_call 11; (with_reducible refine (fewt_s t A c _ Ha.out Ht.out).mono ?_); rintro e w9 ⟨rfl, hs⟩; rw [HF.out]; (try (replace Ha := Lib.hid (Ha.out.keep hs))); (try (replace Hu := Lib.hid (Hu.out.keep hs))); (try (replace Hv := Lib.hid (Hv.out.keep hs))); (try (replace Hx := Lib.hid (Hx.out.keep hs))); (try (replace Hy := Lib.hid (Hy.out.keep hs))); replace h0 := Stp.trans h0 hs; clear hs; rcases F)
    | (go_at_call 15; (with_reducible refine (tunder_s t p A c _ Ha.out (by have := few_len HF.out; omega) Hp.out Hst.out).mono ?_); rintro e w9 ⟨U, cU, rfl, hu, hs⟩; have Hu := Lib.hid hu; clear hu; (try (replace Ha := Lib.hid (Ha.out.keep hs))); (try (replace Hv := Lib.hid (Hv.out.keep hs))); (try (replace Hx := Lib.hid (Hx.out.keep hs))); (try (replace Hy := Lib.hid (Hy.out.keep hs))); replace h0 := Stp.trans h0 hs; clear hs)
    | (go_at_call 15; (with_reducible refine (tunder_s (underV t p) p _ cU _ Hu.out (by have := few_len HF.out; have := under_le t p; omega) Hp.out (fun n hn => Hst.out n (under_sub hn))).mono ?_); rintro e w9 ⟨V, cV, rfl, hv, hs⟩; rw [under_twice] at hv ⊢; have Hv := Lib.hid hv; clear hv; (try (replace Ha := Lib.hid (Ha.out.keep hs))); (try (replace Hu := Lib.hid (Hu.out.keep hs))); (try (replace Hx := Lib.hid (Hx.out.keep hs))); (try (replace Hy := Lib.hid (Hy.out.keep hs))); replace h0 := Stp.trans h0 hs; clear hs)
    | (go_at_call 14; (with_reducible refine (rsame_s (underV t p) (underV t p) V _ cV cU _ Hv.out Hu.out (by have := few_len HF.out; have := under_le t p; omega)).mono ?_); rintro e w9 ⟨rfl, hs⟩; rw [show (underV t p == underV t p) = true from beq_self_eq_true _]; (try (replace Ha := Lib.hid (Ha.out.keep hs))); (try (replace Hu := Lib.hid (Hu.out.keep hs))); (try (replace Hv := Lib.hid (Hv.out.keep hs))); (try (replace Hx := Lib.hid (Hx.out.keep hs))); (try (replace Hy := Lib.hid (Hy.out.keep hs))); replace h0 := Stp.trans h0 hs; clear hs))
    all_goals go_ret
    all_goals exact ⟨rfl, h0⟩
  · have g1 : decide (i < 0) = false := decide_eq_false (by omega)
    have g2 : decide (((underV t p).length : Int) ≤ i) = true := decide_eq_true hi
    go_enter Try.func7, Try.ntmps7
    go_wp2_with (first
    | (go_at_call 9; (with_reducible refine (awake_s _).mono ?_); rintro e w9 ⟨rfl, hs⟩; (try (replace Ha := Lib.hid (Ha.out.keep hs))); (try (replace Hu := Lib.hid (Hu.out.keep hs))); (try (replace Hv := Lib.hid (Hv.out.keep hs))); (try (replace Hx := Lib.hid (Hx.out.keep hs))); (try (replace Hy := Lib.hid (Hy.out.keep hs))); replace h0 := Stp.trans h0 hs; clear hs)
    | (go_at_call 11; (with_reducible refine (fewt_s t A c _ Ha.out Ht.out).mono ?_); rintro e w9 ⟨rfl, hs⟩; rw [HF.out]; (try (replace Ha := Lib.hid (Ha.out.keep hs))); (try (replace Hu := Lib.hid (Hu.out.keep hs))); (try (replace Hv := Lib.hid (Hv.out.keep hs))); (try (replace Hx := Lib.hid (Hx.out.keep hs))); (try (replace Hy := Lib.hid (Hy.out.keep hs))); replace h0 := Stp.trans h0 hs; clear hs; rcases F)
    | (go_at_call 15; (with_reducible refine (tunder_s t p A c _ Ha.out (by have := few_len HF.out; omega) Hp.out Hst.out).mono ?_); rintro e w9 ⟨U, cU, rfl, hu, hs⟩; have Hu := Lib.hid hu; clear hu; (try (replace Ha := Lib.hid (Ha.out.keep hs))); (try (replace Hv := Lib.hid (Hv.out.keep hs))); (try (replace Hx := Lib.hid (Hx.out.keep hs))); (try (replace Hy := Lib.hid (Hy.out.keep hs))); replace h0 := Stp.trans h0 hs; clear hs)
    | (go_at_call 15; (with_reducible refine (tunder_s (underV t p) p _ cU _ Hu.out (by have := few_len HF.out; have := under_le t p; omega) Hp.out (fun n hn => Hst.out n (under_sub hn))).mono ?_); rintro e w9 ⟨V, cV, rfl, hv, hs⟩; rw [under_twice] at hv ⊢; have Hv := Lib.hid hv; clear hv; (try (replace Ha := Lib.hid (Ha.out.keep hs))); (try (replace Hu := Lib.hid (Hu.out.keep hs))); (try (replace Hx := Lib.hid (Hx.out.keep hs))); (try (replace Hy := Lib.hid (Hy.out.keep hs))); replace h0 := Stp.trans h0 hs; clear hs)
    | (go_at_call 14; (with_reducible refine (rsame_s (underV t p) (underV t p) V _ cV cU _ Hv.out Hu.out (by have := few_len HF.out; have := under_le t p; omega)).mono ?_); rintro e w9 ⟨rfl, hs⟩; rw [show (underV t p == underV t p) = true from beq_self_eq_true _]; (try (replace Ha := Lib.hid (Ha.out.keep hs))); (try (replace Hu := Lib.hid (Hu.out.keep hs))); (try (replace Hv := Lib.hid (Hv.out.keep hs))); (try (replace Hx := Lib.hid (Hx.out.keep hs))); (try (replace Hy := Lib.hid (Hy.out.keep hs))); replace h0 := Stp.trans h0 hs; clear hs))
    all_goals go_ret
    all_goals exact ⟨rfl, h0⟩
end Go.Proofs.Ytcgihjgfocohmaa.Tree
