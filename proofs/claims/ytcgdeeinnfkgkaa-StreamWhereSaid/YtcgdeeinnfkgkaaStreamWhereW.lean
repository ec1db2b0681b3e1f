/-
  The walk of StreamWhere: no statement is proved here.
-/
import Derived.Test.YtcgdeeinnfkgkaaStreamI
import Derived.Test.YtcgdeeinnfkgkaaBlockK
import Derived.Test.YtcgdeeinnfkgkaaHeadPut
import Derived.Deep.RegionHeld3
namespace Go.Proofs.Ytcgdeeinnfkgkaa.Stream
open Go.RowKit Go.Proofs.Ytcgdeeinnfkgkaa.Str Go.Proofs.Ytcgdeeinnfkgkaa.Base Go.Proofs.Ytcgdeeinnfkgkaa.Node Go.Proofs.Ytcgdeeinnfkgkaa.Head Go.Proofs.Ytcgdeeinnfkgkaa.Long Go.Proofs.Ytcgdeeinnfkgkaa.Entry
open Go.Proofs.Ytcgdeeinnfkgkaa.Tree (oneB mayT fewT)

theorem few30 {t : List Nd} (h : fewT t = true) : t.length ≤ 30 := (Tree.fewT_iff.1 h).1
theorem cut_n (s : L) (v : ByteArray) (e : v = ⟨s.toArray⟩) (ls : List L) (h : BlockM.cutV s = ls) (n : Nat) (hn : ls.length = n) (w : World) (hs : s.length ≤ 1000000) :
    Calls Try.prog 17 #[.string v] w fun e w' => ∃ A cap, e = .returned (.slice A n cap) ∧ RdL w' A cap ls ∧ Stp w w' := by
  subst e h hn
  exact Block.cut_s s w hs

set_option maxRecDepth 100000 in
set_option maxHeartbeats 4000000 in
theorem where_no (I : StreamI) (t : List Nd) (i : Int) (A : Option Addr) (c : Nat) (w : World) (ha : RdN w A c t) (hst : ∀ n ∈ t, SmallN n) (ht : t.length < 9223372036854775808)
    (hno : fewT t = false ∨ mayT t = false) :
    Calls Try.prog 4 #[.slice A t.length c, .int .i64 i] w fun e w' => e = .returned (.bool true) ∧ Stp w w' := by
  have h0 := Stp.refl w
  have Ha := Lib.hid ha
  have Hs := Lib.hid hst
  have Ht := Lib.hid ht
  have HI := Lib.hid I
  obtain ⟨F, hF⟩ : ∃ x, fewT t = x := ⟨_, rfl⟩
  obtain ⟨m, hm⟩ : ∃ x, mayT t = x := ⟨_, rfl⟩
  rw [hF, hm] at hno
  have HF := Lib.hid hF
  have Hm := Lib.hid hm
  have Hno := Lib.hid hno
  clear ha hst ht I hF hm hno
  go_enter Try.func4, Try.ntmps4
  go_wp2_with (first
    | (go_at_call 8; (with_reducible refine (awake_s HI.out _).mono ?_); rintro e w1 ⟨rfl, hs⟩; replace Ha := Lib.hid (Ha.out.keep hs); replace h0 := Stp.trans h0 hs; clear hs)
    | (go_at_call 9; (with_reducible refine (Tree.fewt_s t A c _ Ha.out Ht.out).mono ?_); rintro e w2 ⟨rfl, hs⟩; rw [HF.out]; replace Ha := Lib.hid (Ha.out.keep hs); replace h0 := Stp.trans h0 hs; clear hs; rcases F)
    | (go_at_call 10; (with_reducible refine (Tree.tmay_s t A c _ Ha.out (by have := few30 HF.out; omega) Hs.out).mono ?_); rintro e w7 ⟨rfl, hs⟩; rw [Hm.out]; replace Ha := Lib.hid (Ha.out.keep hs); replace h0 := Stp.trans h0 hs; clear hs; rcases m <;> first | (exfalso; rcases Hno.out with h | h <;> cases h; done) | skip))
  all_goals first
    | (go_ret; exact ⟨rfl, h0⟩)
    | (exfalso; rcases Hno.out with h | h <;> cases h; done)

set_option maxRecDepth 100000 in
set_option maxHeartbeats 8000000 in
theorem where_out (I : StreamI) (t : List Nd) (i : Int) (A : Option Addr) (c : Nat) (w : World) (ha : RdN w A c t) (hst : ∀ n ∈ t, SmallN n) (ht : t.length < 9223372036854775808) (hi : i < 9223372036854775808) (hi' : -9223372036854775808 ≤ i)
    (hF : fewT t = true) (hm : mayT t = true) (N : Nat) (hN : (allS t).length = N) (hout : i < 0 ∨ (N : Int) ≤ i) :
    Calls Try.prog 4 #[.slice A t.length c, .int .i64 i] w fun e w' => e = .returned (.bool true) ∧ Stp w w' := by
  have h0 := Stp.refl w
  have hx : whereS t i = (-1, -1) := by unfold whereS; rw [if_neg (by omega)]
  have Ha := Lib.hid ha
  have Hs := Lib.hid hst
  have Ht := Lib.hid ht
  have HI := Lib.hid I
  have Hi := Lib.hid hi
  have Hi' := Lib.hid hi'
  have HF := Lib.hid hF
  have Hm := Lib.hid hm
  have HN := Lib.hid hN
  have HX := Lib.hid hx
  clear ha hst ht I hF hm hN hx hi hi'
  by_cases hneg : i < 0
  · have g0 : decide (i < 0) = true := decide_eq_true hneg
    clear hneg hout
    go_enter Try.func4, Try.ntmps4
    go_wp2_with (first
      | (go_at_call 8; (with_reducible refine (awake_s HI.out _).mono ?_); rintro e w1 ⟨rfl, hs⟩; replace Ha := Lib.hid (Ha.out.keep hs); replace h0 := Stp.trans h0 hs; clear hs)
      | (go_at_call 9; (with_reducible refine (Tree.fewt_s t A c _ Ha.out Ht.out).mono ?_); rintro e w2 ⟨rfl, hs⟩; rw [HF.out]; replace Ha := Lib.hid (Ha.out.keep hs); replace h0 := Stp.trans h0 hs; clear hs)
      | (go_at_call 10; (with_reducible refine (Tree.tmay_s t A c _ Ha.out (by have := few30 HF.out; omega) Hs.out).mono ?_); rintro e w7 ⟨rfl, hs⟩; rw [Hm.out]; replace Ha := Lib.hid (Ha.out.keep hs); replace h0 := Stp.trans h0 hs; clear hs)
      | (go_at_call 11; (with_reducible refine (HI.out.all t _ rfl (by have := few30 HF.out; omega) Hs.out _ _ _ Ha.out).mono ?_); rintro e w3 ⟨A3, c3, rfl, hr, hs⟩; replace Ha := Lib.hid (Ha.out.keep hs); replace h0 := Stp.trans h0 hs; clear hr hs)
      | (go_at_call 16; (with_reducible refine (HI.out.whose t _ rfl (by have := few30 HF.out; omega) Hs.out i Hi'.out Hi.out _ _ _ Ha.out).mono ?_); rintro e w5 ⟨rfl, hs⟩; rw [HX.out]; replace h0 := Stp.trans h0 hs; clear hs))
    all_goals go_ret
    all_goals exact ⟨rfl, h0⟩
  · have g0 : decide (i < 0) = false := decide_eq_false hneg
    have g1 : decide ((N : Int) ≤ i) = true := decide_eq_true (by omega)
    clear hneg hout
    go_enter Try.func4, Try.ntmps4
    go_wp2_with (first
      | (go_at_call 8; (with_reducible refine (awake_s HI.out _).mono ?_); rintro e w1 ⟨rfl, hs⟩; replace Ha := Lib.hid (Ha.out.keep hs); replace h0 := Stp.trans h0 hs; clear hs)
      | (go_at_call 9; (with_reducible refine (Tree.fewt_s t A c _ Ha.out Ht.out).mono ?_); rintro e w2 ⟨rfl, hs⟩; rw [HF.out]; replace Ha := Lib.hid (Ha.out.keep hs); replace h0 := Stp.trans h0 hs; clear hs)
      | (go_at_call 10; (with_reducible refine (Tree.tmay_s t A c _ Ha.out (by have := few30 HF.out; omega) Hs.out).mono ?_); rintro e w7 ⟨rfl, hs⟩; rw [Hm.out]; replace Ha := Lib.hid (Ha.out.keep hs); replace h0 := Stp.trans h0 hs; clear hs)
      | (go_at_call 11; (with_reducible refine (HI.out.all t _ rfl (by have := few30 HF.out; omega) Hs.out _ _ _ Ha.out).mono ?_); rintro e w3 ⟨A3, c3, rfl, hr, hs⟩; rw [HN.out]; replace Ha := Lib.hid (Ha.out.keep hs); replace h0 := Stp.trans h0 hs; clear hr hs)
      | (go_at_call 16; (with_reducible refine (HI.out.whose t _ rfl (by have := few30 HF.out; omega) Hs.out i Hi'.out Hi.out _ _ _ Ha.out).mono ?_); rintro e w5 ⟨rfl, hs⟩; rw [HX.out]; replace h0 := Stp.trans h0 hs; clear hs))
    all_goals go_ret
    all_goals exact ⟨rfl, h0⟩

set_option maxRecDepth 100000 in
set_option maxHeartbeats 8000000 in
theorem where_end (I : StreamI) (t : List Nd) (i : Int) (A : Option Addr) (c : Nat) (w : World) (ha : RdN w A c t) (hst : ∀ n ∈ t, SmallN n) (ht : t.length < 9223372036854775808) (hi : i < 9223372036854775808) (hi' : -9223372036854775808 ≤ i)
    (hF : fewT t = true) (hm : mayT t = true) (N : Nat) (hN : (allS t).length = N) (h1 : 0 ≤ i) (h2 : i < (N : Int))
    (K : Int) (hK : (t.length : Int) = K) (hx : whereS t i = (K, -1)) (h3 : (N : Int) - 2 ≤ i) :
    Calls Try.prog 4 #[.slice A t.length c, .int .i64 i] w fun e w' => e = .returned (.bool true) ∧ Stp w w' := by
  have h0 := Stp.refl w
  have Ha := Lib.hid ha
  have Hs := Lib.hid hst
  have Ht := Lib.hid ht
  have HI := Lib.hid I
  have Hi := Lib.hid hi
  have Hi' := Lib.hid hi'
  have HF := Lib.hid hF
  have Hm := Lib.hid hm
  have HN := Lib.hid hN
  have HX := Lib.hid hx
  have hN402 : N ≤ 402 := by
    have q1 := blocks_le t
    have q2 := may_len hm
    rw [← hN, allS_yes hm, List.length_append, endsV_length]
    omega
  have g0 : decide (i < 0) = false := decide_eq_false (by omega)
  have g1 : decide ((N : Int) ≤ i) = false := decide_eq_false (by omega)
  have hw : IntKind.i64.wrap ((N : Int) - 2) = (N : Int) - 2 := by
    rw [IntKind.wrap_i64]
    omega
  have gi : decide ((N : Int) - 2 ≤ i) = true := decide_eq_true h3
  have gk0 : decide (K < 0) = false := decide_eq_false (by omega)
  have gkl : decide ((t.length : Int) < K) = false := decide_eq_false (by omega)
  have gke : (K == (t.length : Int)) = true := by rw [beq_iff_eq]; omega
  have gk1 : (K == -1) = false := by rw [beq_eq_false_iff_ne]; omega
  clear ha hst ht I hF hm hN hx hi hi' hN402 h1 h2 h3 hK
  go_enter Try.func4, Try.ntmps4
  go_wp2_with (first
      | (go_at_call 8; (with_reducible refine (awake_s HI.out _).mono ?_); rintro e w1 ⟨rfl, hs⟩; replace Ha := Lib.hid (Ha.out.keep hs); replace h0 := Stp.trans h0 hs; clear hs)
      | (go_at_call 9; (with_reducible refine (Tree.fewt_s t A c _ Ha.out Ht.out).mono ?_); rintro e w2 ⟨rfl, hs⟩; rw [HF.out]; replace Ha := Lib.hid (Ha.out.keep hs); replace h0 := Stp.trans h0 hs; clear hs)
      | (go_at_call 10; (with_reducible refine (Tree.tmay_s t A c _ Ha.out (by have := few30 HF.out; omega) Hs.out).mono ?_); rintro e w7 ⟨rfl, hs⟩; rw [Hm.out]; replace Ha := Lib.hid (Ha.out.keep hs); replace h0 := Stp.trans h0 hs; clear hs)
      | (go_at_call 11; (with_reducible refine (HI.out.all t _ rfl (by have := few30 HF.out; omega) Hs.out _ _ _ Ha.out).mono ?_); rintro e w3 ⟨A3, c3, rfl, hr, hs⟩; rw [HN.out]; have Hr := Lib.hid hr; replace Ha := Lib.hid (Ha.out.keep hs); replace h0 := Stp.trans h0 hs; clear hr hs)
      | (go_at_call 16; (with_reducible refine (HI.out.whose t _ rfl (by have := few30 HF.out; omega) Hs.out i Hi'.out Hi.out _ _ _ Ha.out).mono ?_); rintro e w5 ⟨rfl, hs⟩; rw [HX.out]; replace Hr := Lib.hid (Hr.out.keep hs); replace Ha := Lib.hid (Ha.out.keep hs); replace h0 := Stp.trans h0 hs; clear hs))
  all_goals go_ret
  all_goals exact ⟨rfl, h0⟩

set_option maxRecDepth 100000 in
set_option maxHeartbeats 8000000 in
theorem where_head (I : StreamI) (t : List Nd) (i : Int) (A : Option Addr) (c : Nat) (w : World) (ha : RdN w A c t) (hst : ∀ n ∈ t, SmallN n) (ht : t.length < 9223372036854775808) (hi : i < 9223372036854775808) (hi' : -9223372036854775808 ≤ i)
    (hF : fewT t = true) (hm : mayT t = true) (N : Nat) (hN : (allS t).length = N) (h1 : 0 ≤ i) (h2 : i < (N : Int))
    (K : Int) (hK : 0 ≤ K ∧ K < (t.length : Int)) (hx : whereS t i = (K, -1)) (h3 : i < (N : Int) - 2) :
    Calls Try.prog 4 #[.slice A t.length c, .int .i64 i] w fun e w' => e = .returned (.bool true) ∧ Stp w w' := by
  have h0 := Stp.refl w
  have Ha := Lib.hid ha
  have Hs := Lib.hid hst
  have Ht := Lib.hid ht
  have HI := Lib.hid I
  have Hi := Lib.hid hi
  have Hi' := Lib.hid hi'
  have HF := Lib.hid hF
  have Hm := Lib.hid hm
  have HN := Lib.hid hN
  have HX := Lib.hid hx
  have hN402 : N ≤ 402 := by
    have q1 := blocks_le t
    have q2 := may_len hm
    rw [← hN, allS_yes hm, List.length_append, endsV_length]
    omega
  have _ := h2
  have g0 : decide (i < 0) = false := decide_eq_false (by omega)
  have g1 : decide ((N : Int) ≤ i) = false := decide_eq_false (by omega)
  have hw : IntKind.i64.wrap ((N : Int) - 2) = (N : Int) - 2 := by
    rw [IntKind.wrap_i64]
    omega
  have gi : decide (i < (N : Int) - 2) = true := decide_eq_true h3
  have gk0 : decide (K < 0) = false := decide_eq_false (by omega)
  have gkl : decide ((t.length : Int) < K) = false := decide_eq_false (by omega)
  have gke : (K == (t.length : Int)) = false := by rw [beq_eq_false_iff_ne]; omega
  clear ha hst ht I hF hm hN hx hi hi' hN402 h1 h2 h3 hK
  go_enter Try.func4, Try.ntmps4
  go_wp2_with (first
      | (go_at_call 8; (with_reducible refine (awake_s HI.out _).mono ?_); rintro e w1 ⟨rfl, hs⟩; replace Ha := Lib.hid (Ha.out.keep hs); replace h0 := Stp.trans h0 hs; clear hs)
      | (go_at_call 9; (with_reducible refine (Tree.fewt_s t A c _ Ha.out Ht.out).mono ?_); rintro e w2 ⟨rfl, hs⟩; rw [HF.out]; replace Ha := Lib.hid (Ha.out.keep hs); replace h0 := Stp.trans h0 hs; clear hs)
      | (go_at_call 10; (with_reducible refine (Tree.tmay_s t A c _ Ha.out (by have := few30 HF.out; omega) Hs.out).mono ?_); rintro e w7 ⟨rfl, hs⟩; rw [Hm.out]; replace Ha := Lib.hid (Ha.out.keep hs); replace h0 := Stp.trans h0 hs; clear hs)
      | (go_at_call 11; (with_reducible refine (HI.out.all t _ rfl (by have := few30 HF.out; omega) Hs.out _ _ _ Ha.out).mono ?_); rintro e w3 ⟨A3, c3, rfl, hr, hs⟩; rw [HN.out]; have Hr := Lib.hid hr; replace Ha := Lib.hid (Ha.out.keep hs); replace h0 := Stp.trans h0 hs; clear hr hs)
      | (go_at_call 16; (with_reducible refine (HI.out.whose t _ rfl (by have := few30 HF.out; omega) Hs.out i Hi'.out Hi.out _ _ _ Ha.out).mono ?_); rintro e w5 ⟨rfl, hs⟩; rw [HX.out]; replace Hr := Lib.hid (Hr.out.keep hs); replace Ha := Lib.hid (Ha.out.keep hs); replace h0 := Stp.trans h0 hs; clear hs))
  all_goals go_ret
  all_goals exact ⟨rfl, h0⟩

set_option maxRecDepth 100000 in
set_option maxHeartbeats 8000000 in
theorem where_data (I : StreamI) (t : List Nd) (i : Int) (A : Option Addr) (c : Nat) (w : World) (ha : RdN w A c t) (hst : ∀ n ∈ t, SmallN n) (ht : t.length < 9223372036854775808) (hi : i < 9223372036854775808) (hi' : -9223372036854775808 ≤ i)
    (hF : fewT t = true) (hm : mayT t = true) (N : Nat) (hN : (allS t).length = N) (h1 : 0 ≤ i) (h2 : i < (N : Int))
    (K J : Int) (hK : 0 ≤ K ∧ K < (t.length : Int)) (hx : whereS t i = (K, J)) (hJ : 0 ≤ J) (n : Nd) (hn : t[K.toNat]? = some n) (hd : n.data.length ≤ 1000000) (x : L) (hx1 : (BlockM.cutV n.data)[J.toNat]? = some x) (hx2 : (allS t)[i.toNat]? = some x) (hxl : x.length = 512) :
    Calls Try.prog 4 #[.slice A t.length c, .int .i64 i] w fun e w' => e = .returned (.bool true) ∧ Stp w w' := by
  have h0 := Stp.refl w
  have Ha := Lib.hid ha
  have Hs := Lib.hid hst
  have Ht := Lib.hid ht
  have HI := Lib.hid I
  have Hi := Lib.hid hi
  have Hi' := Lib.hid hi'
  have HF := Lib.hid hF
  have Hm := Lib.hid hm
  have HN := Lib.hid hN
  have HX := Lib.hid hx
  have hN402 : N ≤ 402 := by
    have q1 := blocks_le t
    have q2 := may_len hm
    rw [← hN, allS_yes hm, List.length_append, endsV_length]
    omega
  have g0 : decide (i < 0) = false := decide_eq_false (by omega)
  have g1 : decide ((N : Int) ≤ i) = false := decide_eq_false (by omega)
  have hw : IntKind.i64.wrap ((N : Int) - 2) = (N : Int) - 2 := by
    rw [IntKind.wrap_i64]
    omega
  have gk0 : decide (K < 0) = false := decide_eq_false (by omega)
  have gkl : decide ((t.length : Int) < K) = false := decide_eq_false (by omega)
  have gke : (K == (t.length : Int)) = false := by rw [beq_eq_false_iff_ne]; omega
  have gj0 : decide (J < -1) = false := decide_eq_false (by omega)
  have gj1 : (J == -1) = false := by rw [beq_eq_false_iff_ne]; omega
  obtain ⟨C, hC⟩ : ∃ C, BlockM.cutV n.data = C := ⟨_, rfl⟩
  obtain ⟨M, hM⟩ : ∃ M, C.length = M := ⟨_, rfl⟩
  rw [hC] at hx1
  have hJM : J.toNat < M := by rw [← hM]; exact (List.getElem?_eq_some_iff.1 hx1).1
  have gjm : decide (J < (M : Int)) = true := decide_eq_true (by omega)
  have hjm : J < (M : Int) := by omega
  have hKl := hK.2
  have hK0 := hK.1
  have hKn : K.toNat < t.length := by omega
  have Hk := Lib.hid hn
  have HC := Lib.hid hC
  have HM := Lib.hid hM
  have Hx1 := Lib.hid hx1
  have Hx2 := Lib.hid hx2
  have Hxl := Lib.hid hxl
  have Hd := Lib.hid hd
  clear ha hst ht I hF hm hN hx hi hi' hN402 hK hn hC hM hx1 hx2 hxl hd
  go_enter Try.func4, Try.ntmps4
  go_wp2_with (first
      | (go_at_call 8; (with_reducible refine (awake_s HI.out _).mono ?_); rintro e w1 ⟨rfl, hs⟩; replace Ha := Lib.hid (Ha.out.keep hs); replace h0 := Stp.trans h0 hs; clear hs)
      | (go_at_call 9; (with_reducible refine (Tree.fewt_s t A c _ Ha.out Ht.out).mono ?_); rintro e w2 ⟨rfl, hs⟩; rw [HF.out]; replace Ha := Lib.hid (Ha.out.keep hs); replace h0 := Stp.trans h0 hs; clear hs)
      | (go_at_call 10; (with_reducible refine (Tree.tmay_s t A c _ Ha.out (by have := few30 HF.out; omega) Hs.out).mono ?_); rintro e w7 ⟨rfl, hs⟩; rw [Hm.out]; replace Ha := Lib.hid (Ha.out.keep hs); replace h0 := Stp.trans h0 hs; clear hs)
      | (go_at_call 11; (with_reducible refine (HI.out.all t _ rfl (by have := few30 HF.out; omega) Hs.out _ _ _ Ha.out).mono ?_); rintro e w3 ⟨A3, c3, rfl, hr, hs⟩; rw [HN.out]; have Hr := Lib.hid hr; replace Ha := Lib.hid (Ha.out.keep hs); replace h0 := Stp.trans h0 hs; clear hr hs)
      | (go_at_call 16; (with_reducible refine (HI.out.whose t _ rfl (by have := few30 HF.out; omega) Hs.out i Hi'.out Hi.out _ _ _ Ha.out).mono ?_); rintro e w5 ⟨rfl, hs⟩; rw [HX.out]; obtain ⟨b9, o9, e9, -, q0, q1, q2, q3, q4, q5, q6, q7⟩ := (Ha.out.keep hs).cells Hk.out; subst e9; replace Hr := Lib.hid (Hr.out.keep hs); replace Ha := Lib.hid (Ha.out.keep hs); replace h0 := Stp.trans h0 hs; clear hs)
      | (go_at_call 17; go_loud ((with_reducible refine (cut_n n.data _ rfl C HC.out M HM.out _ Hd.out).mono ?_); rintro e w6 ⟨A6, c6, rfl, h6, hs⟩; have H6 := Lib.hid h6; replace Hr := Lib.hid (Hr.out.keep hs); replace h0 := Stp.trans h0 hs; clear hs h6 q0 q1 q2 q3 q4 q5 q6 q7)))
  obtain ⟨b1, o1, A1, k1, rfl, e1, r1⟩ := H6.out.at_ Hx1.out
  obtain ⟨b2, o2, A2, k2, rfl, e2, r2⟩ := Hr.out.at_ Hx2.out
  rw [Hxl.out] at e1 e2
  have key : ∀ W, Stp w6 W → W.cell? ⟨b1, o1 + J.toNat, none⟩ = some (.slice A1 512 k1) ∧ W.cell? ⟨b2, o2 + i.toNat, none⟩ = some (.slice A2 512 k2) ∧ (convert 35 9 (.slice A1 512 k1)).run Try.prog W = .ok (.string ⟨x.toArray⟩) W ∧ (convert 35 9 (.slice A2 512 k2)).run Try.prog W = .ok (.string ⟨x.toArray⟩) W := fun W hW => by
    have v1 := Block.str_rd (RdA.keep r1 hW)
    have v2 := Block.str_rd (RdA.keep r2 hW)
    rw [Hxl.out] at v1 v2
    exact ⟨cell_later hW e1, cell_later hW e2, v1, v2⟩
  have Key := Lib.hid key
  have H0 := Lib.hid h0
  clear key e1 r1 e2 r2 h0
  go_region_held3 (fun W : World => W.cell? ⟨b1, o1 + J.toNat, none⟩ = some (.slice A1 512 k1) ∧ W.cell? ⟨b2, o2 + i.toNat, none⟩ = some (.slice A2 512 k2) ∧ (convert 35 9 (.slice A1 512 k1)).run Try.prog W = .ok (.string ⟨x.toArray⟩) W ∧ (convert 35 9 (.slice A2 512 k2)).run Try.prog W = .ok (.string ⟨x.toArray⟩) W)
    (exact Key.out _ (stp_drew (Stp.refl _)))
    (fail)
  go_wp2_with fail
  go_ret
  exact ⟨by simp, H0.out.drew⟩

theorem own_ge (n : Nd) (i : Nat) : -1 ≤ ownV n i := by
  unfold ownV
  split <;> omega
theorem where_s (I : StreamI) (t : List Nd) (i : Int) (A : Option Addr) (c : Nat) (w : World) (ha : RdN w A c t) (hst : ∀ n ∈ t, SmallN n) (ht : t.length < 9223372036854775808) (hi : i < 9223372036854775808) (hi' : -9223372036854775808 ≤ i) :
    Calls Try.prog 4 #[.slice A t.length c, .int .i64 i] w fun e w' => e = .returned (.bool true) ∧ Below w.heap.size w w' := by
  cases hF : fewT t with
  | false => exact where_no I t i A c w ha hst ht (.inl hF)
  | true =>
    cases hm : mayT t with
    | false => exact where_no I t i A c w ha hst ht (.inr hm)
    | true =>
      by_cases hin : 0 ≤ i ∧ i < ((allS t).length : Int)
      · obtain ⟨h1, h2⟩ := hin
        have hw : whereS t i = whereL t 0 i.toNat := by unfold whereS; rw [if_pos ⟨h1, h2⟩]
        have hal := all_length hm
        by_cases he : startN t t.length ≤ i.toNat
        · rw [whereL_out he] at hw
          exact where_end I t i A c w ha hst ht hi hi' hF hm _ rfl h1 h2 _ rfl hw (by omega)
        · obtain ⟨k, n, hk, s1, s2⟩ := place t i.toNat (by omega)
          have hkl := (List.getElem?_eq_some_iff.1 hk).1
          rw [whereL_in hk s1 s2] at hw
          have hon := Tree.may_one hm hk
          have hge := own_ge n (i.toNat - startN t k)
          by_cases hj : ownV n (i.toNat - startN t k) = -1
          · rw [hj] at hw
            exact where_head I t i A c w ha hst ht hi hi' hF hm _ rfl h1 h2 (k : Int) ⟨by omega, by omega⟩ hw (by omega)
          · have hs2 := s2
            rw [start_step hk] at hs2
            have hdl : (putE n).length ≤ (i.toNat - startN t k) + dataE n := by
              unfold ownV at hj
              split at hj
              · exact absurd rfl hj
              · omega
            have hov : ownV n (i.toNat - startN t k) = ((i.toNat - startN t k + dataE n - (putE n).length : Nat) : Int) := by
              unfold ownV
              rw [if_neg (by omega)]
              omega
            have hat := all_at hm hk s1 s2
            rw [put_data hon hdl] at hat
            have hlt : i.toNat - startN t k + dataE n - (putE n).length < (BlockM.cutV n.data).length := by
              rw [BlockM.cutV_length, show BlockM.manyN n.data.length = dataE n by rw [dataE, if_pos hon]]
              omega
            obtain ⟨x, hx⟩ : ∃ x, (BlockM.cutV n.data)[i.toNat - startN t k + dataE n - (putE n).length]? = some x := ⟨_, List.getElem?_eq_getElem hlt⟩
            exact where_data I t i A c w ha hst ht hi hi' hF hm _ rfl h1 h2 (k : Int) (ownV n (i.toNat - startN t k)) ⟨by omega, by omega⟩ hw (by omega) n (by rw [Int.toNat_natCast]; exact hk)
              (by have := (oneF hon).data; omega) x (by rw [hov, Int.toNat_natCast]; exact hx) (by rw [hat]; exact hx) (BlockM.mayV_iff.1 (BlockM.cutV_may n.data) x (List.mem_of_getElem? hx))
      · exact where_out I t i A c w ha hst ht hi hi' hF hm _ rfl (by omega)
end Go.Proofs.Ytcgdeeinnfkgkaa.Stream
