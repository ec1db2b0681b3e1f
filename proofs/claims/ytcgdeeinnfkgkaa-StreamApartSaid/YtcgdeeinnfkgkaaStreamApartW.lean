/-
  The walk of StreamApart: no statement is proved here.
-/
import Derived.Test.YtcgdeeinnfkgkaaStreamI
import Derived.Test.YtcgdeeinnfkgkaaTreeC1
import Derived.Deep.RegionHeld3
import Derived.Deep.QuietTactic
import Derived.BigQuiet
namespace Go.Proofs.Ytcgdeeinnfkgkaa.Stream
open Go.RowKit Go.Proofs.Ytcgdeeinnfkgkaa.Str Go.Proofs.Ytcgdeeinnfkgkaa.Base Go.Proofs.Ytcgdeeinnfkgkaa.Node Go.Proofs.Ytcgdeeinnfkgkaa.Long Go.Proofs.Ytcgdeeinnfkgkaa.Entry
open Go.Proofs.Ytcgdeeinnfkgkaa.Tree (oneB mayT fewT)

theorem few_len {t : List Nd} (h : fewT t = true) : t.length ≤ 30 := (Tree.fewT_iff.1 h).1
theorem all_small (t : List Nd) : (allS t).length ≤ 402 := by
  cases h : mayT t
  · rw [allS_no h]; simp
  · have h1 := blocks_le t
    have h2 := may_len h
    rw [allS_yes h, List.length_append, endsV_length]
    omega

set_option maxRecDepth 100000 in
set_option maxHeartbeats 8000000 in
theorem apart_s (I : StreamI) (t u : List Nd) (A B : Option Addr) (c d : Nat) (w : World) (ha : RdN w A c t) (hb : RdN w B d u) (hst : ∀ n ∈ t, SmallN n) (hsu : ∀ n ∈ u, SmallN n)
    (ht : t.length < 9223372036854775808) (hu : u.length < 9223372036854775808) :
    Calls Try.prog 5 #[.slice A t.length c, .slice B u.length d] w fun e w' => e = .returned (.bool true) ∧ Below w.heap.size w w' := by
  have h0 := Stp.refl w
  have Ha := Lib.hid ha
  have Hb := Lib.hid hb
  have Hst := Lib.hid hst
  have Hsu := Lib.hid hsu
  have Ht := Lib.hid ht
  have Hu := Lib.hid hu
  have HI := Lib.hid I
  obtain ⟨F, hF⟩ : ∃ x, fewT t = x := ⟨_, rfl⟩
  obtain ⟨G, hG⟩ : ∃ x, fewT u = x := ⟨_, rfl⟩
  obtain ⟨m, hm⟩ : ∃ x, mayT t = x := ⟨_, rfl⟩
  obtain ⟨k, hk⟩ : ∃ x, mayT u = x := ⟨_, rfl⟩
  obtain ⟨P, hP⟩ : ∃ x, allS t = x := ⟨_, rfl⟩
  obtain ⟨R, hR⟩ : ∃ x, allS u = x := ⟨_, rfl⟩
  obtain ⟨s, hs0⟩ : ∃ x, (P == R) = x := ⟨_, rfl⟩
  obtain ⟨q, hq⟩ : ∃ x, (t == u) = x := ⟨_, rfl⟩
  have hsq : m = true → k = true → s = q := fun h1 h2 => by
    rw [← hs0, ← hq, ← hP, ← hR]
    by_cases e : t = u
    · subst e; simp
    · rw [beq_eq_false_iff_ne.2 e, beq_eq_false_iff_ne.2 (fun e2 => e (allS_inj (hm.trans h1) (hk.trans h2) e2))]
  have hPl : P.length ≤ 402 := by rw [← hP]; exact all_small t
  have hRl : R.length ≤ 402 := by rw [← hR]; exact all_small u
  have HF := Lib.hid hF
  have HG := Lib.hid hG
  have Hm := Lib.hid hm
  have Hk := Lib.hid hk
  have HP := Lib.hid hP
  have HR := Lib.hid hR
  have Hs := Lib.hid hs0
  have Hq := Lib.hid hq
  have Hsq := Lib.hid hsq
  have HPl := Lib.hid (show P.length < 9223372036854775808 by omega)
  have HRl := Lib.hid (show R.length < 9223372036854775808 by omega)
  clear ha hb hst hsu ht hu I hF hG hm hk hP hR hs0 hq hsq hPl hRl
  go_enter Try.func5, Try.ntmps5
  go_wp2_with (first
    | (go_at_call 8; (with_reducible refine (awake_s HI.out _).mono ?_); rintro e w1 ⟨rfl, hs⟩; replace Ha := Lib.hid (Ha.out.keep hs); replace Hb := Lib.hid (Hb.out.keep hs); replace h0 := Stp.trans h0 hs; clear hs)
    | (go_at_call 9; (with_reducible refine (Tree.fewt_s t A c _ Ha.out Ht.out).mono ?_); rintro e w2 ⟨rfl, hs⟩; rw [HF.out]; replace Ha := Lib.hid (Ha.out.keep hs); replace Hb := Lib.hid (Hb.out.keep hs); replace h0 := Stp.trans h0 hs; clear hs)
    | (go_at_call 9; (with_reducible refine (Tree.fewt_s u B d _ Hb.out Hu.out).mono ?_); rintro e w3 ⟨rfl, hs⟩; rw [HG.out]; replace Ha := Lib.hid (Ha.out.keep hs); replace Hb := Lib.hid (Hb.out.keep hs); replace h0 := Stp.trans h0 hs; clear hs; rcases F <;> rcases G)
    | (go_at_call 11; (with_reducible refine (HI.out.all t _ rfl (by have := few_len HF.out; omega) Hst.out _ _ _ Ha.out).mono ?_); rintro e w4 ⟨A4, c4, rfl, hr, hs⟩; rw [HP.out] at hr; rw [HP.out, Hm.out]; have Hr := Lib.hid hr; replace Ha := Lib.hid (Ha.out.keep hs); replace Hb := Lib.hid (Hb.out.keep hs); replace h0 := Stp.trans h0 hs; clear hr hs)
    | (go_at_call 11; (with_reducible refine (HI.out.all u _ rfl (by have := few_len HG.out; omega) Hsu.out _ _ _ Hb.out).mono ?_); rintro e w5 ⟨A5, c5, rfl, hr, hs⟩; rw [HR.out] at hr; rw [HR.out, Hk.out]; have Hr5 := Lib.hid hr; replace Hr := Lib.hid (Hr.out.keep hs); replace Ha := Lib.hid (Ha.out.keep hs); replace Hb := Lib.hid (Hb.out.keep hs); replace h0 := Stp.trans h0 hs; clear hr hs)
    | (go_at_call 14; (with_reducible refine (Block.rsame_s P R _ _ _ _ _ Hr.out Hr5.out HPl.out HRl.out).mono ?_); rintro e w6 ⟨rfl, hs⟩; rw [Hs.out]; replace Ha := Lib.hid (Ha.out.keep hs); replace Hb := Lib.hid (Hb.out.keep hs); replace h0 := Stp.trans h0 hs; clear hs Hr Hr5)
    | (go_at_call 10; go_loud ((with_reducible refine (Tree.tmay_s t A c _ Ha.out (by have := few_len HF.out; omega) Hst.out).mono ?_); rintro e w7 ⟨rfl, hs⟩; rw [Hm.out]; replace Ha := Lib.hid (Ha.out.keep hs); replace Hb := Lib.hid (Hb.out.keep hs); replace h0 := Stp.trans h0 hs; clear hs; rcases m <;> rcases k))
    | (go_at_call 18; (with_reducible refine (Tree.tsame_s t u A B c d _ Ha.out Hb.out (by have := few_len HF.out; omega) (by have := few_len HG.out; omega)).mono ?_); rintro e w8 ⟨rfl, hs⟩; rw [Hq.out]; replace h0 := Stp.trans h0 hs; clear hs))
  all_goals first
    | (go_ret; exact ⟨rfl, h0⟩)
    | (go_ret; refine ⟨ret_bool ?_, h0⟩; have h9 := Hsq.out (by simp) (by simp); subst h9; simp)
end Go.Proofs.Ytcgdeeinnfkgkaa.Stream
