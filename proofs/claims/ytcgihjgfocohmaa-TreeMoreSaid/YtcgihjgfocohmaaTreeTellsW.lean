/-
  The walk of TreeTells: no statement is proved here.
-/
import Derived.Test.YtcgihjgfocohmaaTreeW
namespace Go.Proofs.Ytcgihjgfocohmaa.Tree
open Go.RowKit Go.Proofs.Ytcgihjgfocohmaa.Base Go.Proofs.Ytcgihjgfocohmaa.Node Go.Proofs.Ytcgihjgfocohmaa.Long

theorem few_len {t : List Nd} (h : fewT t = true) : t.length ≤ 30 := (fewT_iff.1 h).1
set_option maxRecDepth 100000 in
set_option maxHeartbeats 4000000 in
theorem tells_s (n : Nd) (t k : List Nd) (p : L) (A B : Option Addr) (c d : Nat) (w : World) (hn : SmallN n) (ha : RdN w A c t) (hb : RdN w B d k) (hst : ∀ n ∈ t, SmallN n)
    (ht : t.length < 9223372036854775808) (hk : k.length < 9223372036854775808) (hp : p.length ≤ 9223372036854775807) :
    Calls Try.prog 3 #[nv n, .slice A t.length c, .slice B k.length d, .string ⟨p.toArray⟩] w fun e w' => e = .returned (.bool true) ∧ Stp w w' := by
  have h0 := Stp.alloc (Stp.refl w) (.cells (ncells n) 23)
  obtain ⟨F1, hF1⟩ : ∃ x, fewN n = x := ⟨_, rfl⟩
  obtain ⟨F2, hF2⟩ : ∃ x, fewT t = x := ⟨_, rfl⟩
  obtain ⟨F3, hF3⟩ : ∃ x, fewT k = x := ⟨_, rfl⟩
  obtain ⟨O, hO⟩ : ∃ x, oneB n = x := ⟨_, rfl⟩
  obtain ⟨M, hM⟩ : ∃ x, mayT t = x := ⟨_, rfl⟩
  obtain ⟨S, hS⟩ : ∃ x, (t == k) = x := ⟨_, rfl⟩
  obtain ⟨D, hD⟩ : ∃ x, findV t p = x := ⟨_, rfl⟩
  have HF1 := Lib.hid hF1
  have HF2 := Lib.hid hF2
  have HF3 := Lib.hid hF3
  have HO := Lib.hid hO
  have HM := Lib.hid hM
  have HS := Lib.hid hS
  have HD := Lib.hid hD
  have Hn := Lib.hid hn
  have Ha := Lib.hid (ha.keep h0)
  have Hb := Lib.hid (hb.keep h0)
  have Hx := Lib.hid (Blk.new w 23 (ncells n))
  have Hst := Lib.hid hst
  have Ht := Lib.hid ht
  have Hk := Lib.hid hk
  have Hp := Lib.hid hp
  obtain ⟨q0, q1, q2, q3, q4, q5, q6, q7⟩ := nd_cells Hx.out
  clear hF1 hF2 hF3 hO hM hS hD hn ha hb hst ht hk
  go_enter Try.func3, Try.ntmps3
  go_wp2_with (first
    | (go_at_call 9; (with_reducible refine (awake_s _).mono ?_); rintro e w9 ⟨rfl, hs⟩; replace Ha := Lib.hid (Ha.out.keep hs); replace Hb := Lib.hid (Hb.out.keep hs); replace Hx := Lib.hid (Hx.out.keep hs Hx.out.lt); (try (replace Hu := Lib.hid (Hu.out.keep hs))); (try (replace Hv := Lib.hid (Hv.out.keep hs))); replace h0 := Stp.trans h0 hs; clear hs q0 q1 q2 q3 q4 q5 q6 q7; obtain ⟨q0, q1, q2, q3, q4, q5, q6, q7⟩ := nd_cells Hx.out)
    | (go_at_call 10; (with_reducible refine (few_s n _).mono ?_); rintro e w9 ⟨rfl, hs⟩; rw [HF1.out]; replace Ha := Lib.hid (Ha.out.keep hs); replace Hb := Lib.hid (Hb.out.keep hs); replace Hx := Lib.hid (Hx.out.keep hs Hx.out.lt); (try (replace Hu := Lib.hid (Hu.out.keep hs))); (try (replace Hv := Lib.hid (Hv.out.keep hs))); replace h0 := Stp.trans h0 hs; clear hs q0 q1 q2 q3 q4 q5 q6 q7; obtain ⟨q0, q1, q2, q3, q4, q5, q6, q7⟩ := nd_cells Hx.out; rcases F1)
    | (go_at_call 11; (with_reducible refine (fewt_s t A c _ Ha.out Ht.out).mono ?_); rintro e w9 ⟨rfl, hs⟩; rw [HF2.out]; replace Ha := Lib.hid (Ha.out.keep hs); replace Hb := Lib.hid (Hb.out.keep hs); replace Hx := Lib.hid (Hx.out.keep hs Hx.out.lt); (try (replace Hu := Lib.hid (Hu.out.keep hs))); (try (replace Hv := Lib.hid (Hv.out.keep hs))); replace h0 := Stp.trans h0 hs; clear hs q0 q1 q2 q3 q4 q5 q6 q7; obtain ⟨q0, q1, q2, q3, q4, q5, q6, q7⟩ := nd_cells Hx.out; rcases F2)
    | (go_at_call 11; (with_reducible refine (fewt_s k B d _ Hb.out Hk.out).mono ?_); rintro e w9 ⟨rfl, hs⟩; rw [HF3.out]; replace Ha := Lib.hid (Ha.out.keep hs); replace Hb := Lib.hid (Hb.out.keep hs); replace Hx := Lib.hid (Hx.out.keep hs Hx.out.lt); (try (replace Hu := Lib.hid (Hu.out.keep hs))); (try (replace Hv := Lib.hid (Hv.out.keep hs))); replace h0 := Stp.trans h0 hs; clear hs q0 q1 q2 q3 q4 q5 q6 q7; obtain ⟨q0, q1, q2, q3, q4, q5, q6, q7⟩ := nd_cells Hx.out; rcases F3)
    | (go_at_call 12; (with_reducible refine (rone_s n Hn.out _).mono ?_); rintro e w9 ⟨rfl, hs⟩; rw [HO.out]; replace Ha := Lib.hid (Ha.out.keep hs); replace Hb := Lib.hid (Hb.out.keep hs); replace Hx := Lib.hid (Hx.out.keep hs Hx.out.lt); (try (replace Hu := Lib.hid (Hu.out.keep hs))); (try (replace Hv := Lib.hid (Hv.out.keep hs))); replace h0 := Stp.trans h0 hs; clear hs q0 q1 q2 q3 q4 q5 q6 q7; obtain ⟨q0, q1, q2, q3, q4, q5, q6, q7⟩ := nd_cells Hx.out)
    | (go_at_call 13; (with_reducible refine (rmay_s t A c _ Ha.out Ht.out Hst.out).mono ?_); rintro e w9 ⟨rfl, hs⟩; rw [HM.out]; replace Ha := Lib.hid (Ha.out.keep hs); replace Hb := Lib.hid (Hb.out.keep hs); replace Hx := Lib.hid (Hx.out.keep hs Hx.out.lt); (try (replace Hu := Lib.hid (Hu.out.keep hs))); (try (replace Hv := Lib.hid (Hv.out.keep hs))); replace h0 := Stp.trans h0 hs; clear hs q0 q1 q2 q3 q4 q5 q6 q7; obtain ⟨q0, q1, q2, q3, q4, q5, q6, q7⟩ := nd_cells Hx.out)
    | (go_at_call 14; (with_reducible refine (rsame_s t k A B c d _ Ha.out Hb.out Hk.out).mono ?_); rintro e w9 ⟨rfl, hs⟩; rw [HS.out]; replace Ha := Lib.hid (Ha.out.keep hs); replace Hb := Lib.hid (Hb.out.keep hs); replace Hx := Lib.hid (Hx.out.keep hs Hx.out.lt); (try (replace Hu := Lib.hid (Hu.out.keep hs))); (try (replace Hv := Lib.hid (Hv.out.keep hs))); replace h0 := Stp.trans h0 hs; clear hs q0 q1 q2 q3 q4 q5 q6 q7; obtain ⟨q0, q1, q2, q3, q4, q5, q6, q7⟩ := nd_cells Hx.out)
    | (go_at_call 15; (with_reducible refine (tunder_s t p A c _ Ha.out (by have := few_len HF2.out; omega) Hp.out (fun n hn => (Hst.out n hn).path)).mono ?_); rintro e w9 ⟨U, cU, rfl, hu, hs⟩; have Hu := Lib.hid hu; clear hu; replace Ha := Lib.hid (Ha.out.keep hs); replace Hb := Lib.hid (Hb.out.keep hs); replace Hx := Lib.hid (Hx.out.keep hs Hx.out.lt); (try (replace Hv := Lib.hid (Hv.out.keep hs))); replace h0 := Stp.trans h0 hs; clear hs q0 q1 q2 q3 q4 q5 q6 q7; obtain ⟨q0, q1, q2, q3, q4, q5, q6, q7⟩ := nd_cells Hx.out)
    | (go_at_call 16; (with_reducible refine (runder_s t p A c _ Ha.out (by have := few_len HF2.out; omega) Hp.out (fun n hn => (Hst.out n hn).path)).mono ?_); rintro e w9 ⟨V, cV, rfl, hv, hs⟩; have Hv := Lib.hid hv; clear hv; replace Ha := Lib.hid (Ha.out.keep hs); replace Hb := Lib.hid (Hb.out.keep hs); replace Hx := Lib.hid (Hx.out.keep hs Hx.out.lt); (try (replace Hu := Lib.hid (Hu.out.keep hs))); replace h0 := Stp.trans h0 hs; clear hs q0 q1 q2 q3 q4 q5 q6 q7; obtain ⟨q0, q1, q2, q3, q4, q5, q6, q7⟩ := nd_cells Hx.out)
    | (go_at_call 14; (with_reducible refine (rsame_s (underV t p) (underV t p) U V cU cV _ Hu.out Hv.out (by have := few_len HF2.out; have := under_le t p; omega)).mono ?_); rintro e w9 ⟨rfl, hs⟩; rw [show (underV t p == underV t p) = true from beq_self_eq_true _]; replace Ha := Lib.hid (Ha.out.keep hs); replace Hb := Lib.hid (Hb.out.keep hs); replace Hx := Lib.hid (Hx.out.keep hs Hx.out.lt); (try (replace Hu := Lib.hid (Hu.out.keep hs))); (try (replace Hv := Lib.hid (Hv.out.keep hs))); replace h0 := Stp.trans h0 hs; clear hs q0 q1 q2 q3 q4 q5 q6 q7; obtain ⟨q0, q1, q2, q3, q4, q5, q6, q7⟩ := nd_cells Hx.out)
    | (go_at_call 17; (with_reducible refine (tone_s n Hn.out _).mono ?_); rintro e w9 ⟨rfl, hs⟩; rw [HO.out]; replace Ha := Lib.hid (Ha.out.keep hs); replace Hb := Lib.hid (Hb.out.keep hs); replace Hx := Lib.hid (Hx.out.keep hs Hx.out.lt); (try (replace Hu := Lib.hid (Hu.out.keep hs))); (try (replace Hv := Lib.hid (Hv.out.keep hs))); replace h0 := Stp.trans h0 hs; clear hs q0 q1 q2 q3 q4 q5 q6 q7; obtain ⟨q0, q1, q2, q3, q4, q5, q6, q7⟩ := nd_cells Hx.out; rcases O)
    | (go_at_call 18; (with_reducible refine (tmay_s t A c _ Ha.out (by have := few_len HF2.out; omega) Hst.out).mono ?_); rintro e w9 ⟨rfl, hs⟩; rw [HM.out]; replace Ha := Lib.hid (Ha.out.keep hs); replace Hb := Lib.hid (Hb.out.keep hs); replace Hx := Lib.hid (Hx.out.keep hs Hx.out.lt); (try (replace Hu := Lib.hid (Hu.out.keep hs))); (try (replace Hv := Lib.hid (Hv.out.keep hs))); replace h0 := Stp.trans h0 hs; clear hs q0 q1 q2 q3 q4 q5 q6 q7; obtain ⟨q0, q1, q2, q3, q4, q5, q6, q7⟩ := nd_cells Hx.out; rcases M)
    | (go_at_call 19; (with_reducible refine (tsame_s t k A B c d _ Ha.out Hb.out (by have := few_len HF2.out; omega) (by have := few_len HF3.out; omega)).mono ?_); rintro e w9 ⟨rfl, hs⟩; rw [HS.out]; replace Ha := Lib.hid (Ha.out.keep hs); replace Hb := Lib.hid (Hb.out.keep hs); replace Hx := Lib.hid (Hx.out.keep hs Hx.out.lt); (try (replace Hu := Lib.hid (Hu.out.keep hs))); (try (replace Hv := Lib.hid (Hv.out.keep hs))); replace h0 := Stp.trans h0 hs; clear hs q0 q1 q2 q3 q4 q5 q6 q7; obtain ⟨q0, q1, q2, q3, q4, q5, q6, q7⟩ := nd_cells Hx.out; rcases S)
    | (go_at_call 20; (with_reducible refine (tfind_s t p A c _ Ha.out (by have := few_len HF2.out; omega)).mono ?_); rintro e w9 ⟨rfl, hs⟩; rw [HD.out]; replace Ha := Lib.hid (Ha.out.keep hs); replace Hb := Lib.hid (Hb.out.keep hs); replace Hx := Lib.hid (Hx.out.keep hs Hx.out.lt); (try (replace Hu := Lib.hid (Hu.out.keep hs))); (try (replace Hv := Lib.hid (Hv.out.keep hs))); replace h0 := Stp.trans h0 hs; clear hs q0 q1 q2 q3 q4 q5 q6 q7; obtain ⟨q0, q1, q2, q3, q4, q5, q6, q7⟩ := nd_cells Hx.out)
    | (go_at_call 21; (with_reducible refine (rfind_s t p A c _ Ha.out Ht.out).mono ?_); rintro e w9 ⟨rfl, rfl⟩; rw [HD.out]; have hs := Stp.refl w9; replace Ha := Lib.hid (Ha.out.keep hs); replace Hb := Lib.hid (Hb.out.keep hs); replace Hx := Lib.hid (Hx.out.keep hs Hx.out.lt); (try (replace Hu := Lib.hid (Hu.out.keep hs))); (try (replace Hv := Lib.hid (Hv.out.keep hs))); replace h0 := Stp.trans h0 hs; clear hs q0 q1 q2 q3 q4 q5 q6 q7; obtain ⟨q0, q1, q2, q3, q4, q5, q6, q7⟩ := nd_cells Hx.out))
  all_goals go_ret
  all_goals first
    | exact ⟨rfl, h0⟩
    | refine ⟨congrArg (fun b => Ending.returned (.bool b)) ?_, h0⟩
end Go.Proofs.Ytcgihjgfocohmaa.Tree
