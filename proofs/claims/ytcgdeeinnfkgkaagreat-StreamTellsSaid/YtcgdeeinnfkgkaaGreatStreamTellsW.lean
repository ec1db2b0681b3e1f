/-
  The walk of StreamTells: no statement is proved here.
-/
import Derived.Test.YtcgdeeinnfkgkaaGreatStreamRef
namespace Go.Proofs.YtcgdeeinnfkgkaaGreat.Stream
open Go.RowKit Go.Proofs.YtcgdeeinnfkgkaaGreat.Str Go.Proofs.YtcgdeeinnfkgkaaGreat.Base Go.Proofs.YtcgdeeinnfkgkaaGreat.Node Go.Proofs.YtcgdeeinnfkgkaaGreat.Head Go.Proofs.YtcgdeeinnfkgkaaGreat.Long Go.Proofs.YtcgdeeinnfkgkaaGreat.Entry
open Go.Proofs.YtcgdeeinnfkgkaaGreat.Tree (oneB mayT fewT)

theorem fewer {t : List Nd} (h : fewT t = true) : t.length ≤ 30 := (Tree.fewT_iff.1 h).1
theorem all_le (t : List Nd) : (allS t).length ≤ 402 := by
  cases h : mayT t
  · rw [allS_no h]; simp
  · have h1 := blocks_le t
    have h2 := may_len h
    rw [allS_yes h, List.length_append, endsV_length]
    omega
theorem starts_le (t : List Nd) : (startsS t).length ≤ 21 := by
  cases h : mayT t
  · rw [startsS_no h]; simp
  · have h2 := may_len h
    rw [startsS_yes h, List.length_map, List.length_range]
    omega
theorem same_t (ls : List L) (A B : Option Addr) (n c d : Nat) (w : World) (ha : RdL w A c ls) (hb : RdL w B d ls) (hn : ls.length = n) (hl : n ≤ 1000000) :
    Calls Tryz.prog 10 #[.slice A n c, .slice B n d] w fun e w' => e = .returned (.bool true) ∧ Stp w w' := by
  subst hn
  refine (Block.rsame_s ls ls A B c d w ha hb (by omega) (by omega)).mono ?_
  rintro e w' ⟨rfl, h⟩
  exact ⟨by simp, h⟩

set_option maxRecDepth 100000 in
set_option maxHeartbeats 8000000 in
theorem tells_s (I : StreamI) (t : List Nd) (i : Int) (A : Option Addr) (c : Nat) (w : World) (ha : RdN w A c t) (hst : ∀ n ∈ t, SmallN n) (ht : t.length < 9223372036854775808) (hi : i < 9223372036854775808) (hi' : -9223372036854775808 ≤ i) :
    Calls Tryz.prog 3 #[.slice A t.length c, .int .i64 i] w fun e w' => e = .returned (.bool true) ∧ Below w.heap.size w w' := by
  have h0 := Stp.refl w
  have Ha := Lib.hid ha
  have Hs := Lib.hid hst
  have Ht := Lib.hid ht
  have HI := Lib.hid I
  have Hi := Lib.hid hi
  have Hi' := Lib.hid hi'
  obtain ⟨F, hF⟩ : ∃ x, fewT t = x := ⟨_, rfl⟩
  obtain ⟨m, hm⟩ : ∃ x, mayT t = x := ⟨_, rfl⟩
  obtain ⟨P, hP⟩ : ∃ x, allS t = x := ⟨_, rfl⟩
  obtain ⟨N, hN⟩ : ∃ x, P.length = x := ⟨_, rfl⟩
  have hPl := all_le t
  rw [hP, hN] at hPl
  obtain ⟨X, hX⟩ : ∃ x, whereS t i = x := ⟨_, rfl⟩
  obtain ⟨x1, hx1⟩ : ∃ x, X.1 = x := ⟨_, rfl⟩
  obtain ⟨x2, hx2⟩ : ∃ x, X.2 = x := ⟨_, rfl⟩
  obtain ⟨Q, hQ⟩ : ∃ x, startsS t = x := ⟨_, rfl⟩
  obtain ⟨q, hq⟩ : ∃ x, Q.length = x := ⟨_, rfl⟩
  have hql := starts_le t
  rw [hQ, hq] at hql
  have HF := Lib.hid hF
  have Hm := Lib.hid hm
  have HP := Lib.hid hP
  have HN := Lib.hid hN
  have HX := Lib.hid hX
  have HX1 := Lib.hid hx1
  have HX2 := Lib.hid hx2
  have HQ := Lib.hid hQ
  have Hq := Lib.hid hq
  have HNl := Lib.hid (show N ≤ 1000000 by omega)
  have Hql := Lib.hid (show q ≤ 1000000 by omega)
  clear ha hst ht I hF hm hP hN hPl hX hx1 hx2 hQ hq hql hi hi'
  go_enter Tryz.func3, Tryz.ntmps3
  go_wp2_with (first
    | (go_at_call 4; (with_reducible refine (awake_s HI.out _).mono ?_); rintro e w1 ⟨rfl, hs⟩; replace Ha := Lib.hid (Ha.out.keep hs); replace h0 := Stp.trans h0 hs; clear hs)
    | (go_at_call 5; (with_reducible refine (Tree.fewt_s t A c _ Ha.out Ht.out).mono ?_); rintro e w2 ⟨rfl, hs⟩; rw [HF.out]; replace Ha := Lib.hid (Ha.out.keep hs); replace h0 := Stp.trans h0 hs; clear hs; rcases F)
    | (go_at_call 6; (with_reducible refine (HI.out.all t _ rfl (by have := fewer HF.out; omega) Hs.out _ _ _ Ha.out).mono ?_); rintro e w3 ⟨A3, c3, rfl, hr, hs⟩; rw [HP.out] at hr; rw [HP.out, HN.out, Hm.out]; have Hr := Lib.hid hr; replace Ha := Lib.hid (Ha.out.keep hs); replace h0 := Stp.trans h0 hs; clear hr hs)
    | (go_at_call 7; (with_reducible refine (rall_s t A c _ Ha.out Ht.out Hs.out).mono ?_); rintro e w4 ⟨A4, c4, rfl, hr, hs⟩; rw [HP.out] at hr; rw [HP.out, HN.out, Hm.out]; have Hr4 := Lib.hid hr; replace Hr := Lib.hid (Hr.out.keep hs); replace Ha := Lib.hid (Ha.out.keep hs); replace h0 := Stp.trans h0 hs; clear hr hs)
    | (go_at_call 8; (with_reducible refine (HI.out.whose t _ rfl (by have := fewer HF.out; omega) Hs.out i Hi'.out Hi.out _ _ _ Ha.out).mono ?_); rintro e w5 ⟨rfl, hs⟩; rw [HX.out, HX1.out, HX2.out]; replace Hr4 := Lib.hid (Hr4.out.keep hs); replace Hr := Lib.hid (Hr.out.keep hs); replace Ha := Lib.hid (Ha.out.keep hs); replace h0 := Stp.trans h0 hs; clear hs)
    | (go_at_call 9; (with_reducible refine (rwhere_s t i A c _ Ha.out Ht.out Hs.out Hi.out Hi'.out).mono ?_); rintro e w6 ⟨rfl, hs⟩; rw [HX.out, HX1.out, HX2.out]; replace Hr4 := Lib.hid (Hr4.out.keep hs); replace Hr := Lib.hid (Hr.out.keep hs); replace Ha := Lib.hid (Ha.out.keep hs); replace h0 := Stp.trans h0 hs; clear hs)
    | (go_at_call 10; (with_reducible refine (same_t P _ _ _ _ _ _ Hr.out Hr4.out HN.out HNl.out).mono ?_); rintro e w7 ⟨rfl, hs⟩; replace Ha := Lib.hid (Ha.out.keep hs); replace h0 := Stp.trans h0 hs; clear hs Hr Hr4)
    | (go_at_call 12; (with_reducible refine (HI.out.starts t _ rfl (by have := fewer HF.out; omega) Hs.out _ _ _ Ha.out).mono ?_); rintro e w8 ⟨A8, c8, rfl, hr, hs⟩; rw [HQ.out] at hr; rw [HQ.out, Hq.out]; have Hr8 := Lib.hid hr; replace Ha := Lib.hid (Ha.out.keep hs); replace h0 := Stp.trans h0 hs; clear hr hs)
    | (go_at_call 13; (with_reducible refine (rstarts_i t A c _ Ha.out Ht.out Hs.out).mono ?_); rintro e w9 ⟨A9, c9, rfl, hr, hs⟩; rw [HQ.out] at hr; rw [HQ.out, Hq.out]; have Hr9 := Lib.hid hr; replace Hr8 := Lib.hid (RdA.keep Hr8.out hs); replace Ha := Lib.hid (Ha.out.keep hs); replace h0 := Stp.trans h0 hs; clear hr hs)
    | (go_at_call 11; (with_reducible refine (ints_s Q _ _ _ _ _ Hq.out _ Hr8.out Hr9.out Hql.out).mono ?_); rintro e w10 ⟨rfl, hs⟩; replace Ha := Lib.hid (Ha.out.keep hs); replace h0 := Stp.trans h0 hs; clear hs Hr8 Hr9)
    | (go_at_call 14; (with_reducible refine (HI.out.many t _ rfl (by have := fewer HF.out; omega) Hs.out _ _ _ Ha.out).mono ?_); rintro e w11 ⟨rfl, hs⟩; rw [HP.out, HN.out]; replace Ha := Lib.hid (Ha.out.keep hs); replace h0 := Stp.trans h0 hs; clear hs)
    | (go_at_call 15; (with_reducible refine (rmany_s t A c _ Ha.out Ht.out Hs.out).mono ?_); rintro e w12 ⟨rfl, hs⟩; rw [HP.out, HN.out]; replace h0 := Stp.trans h0 hs; clear hs))
  all_goals first
    | (go_ret; exact ⟨rfl, h0⟩)
    | (go_ret; refine ⟨ret_bool ?_, h0⟩; simp)
end Go.Proofs.YtcgdeeinnfkgkaaGreat.Stream
