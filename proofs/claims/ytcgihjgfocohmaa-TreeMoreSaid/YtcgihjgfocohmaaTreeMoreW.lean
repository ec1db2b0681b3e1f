/-
  The walk of TreeMore: no statement is proved here.
-/
import Derived.Test.YtcgihjgfocohmaaTreeTellsW
import Derived.Test.YtcgihjgfocohmaaTreeL
import Derived.Test.YtcgihjgfocohmaaTreeFirstW
import Derived.Test.YtcgihjgfocohmaaTreeApp
namespace Go.Proofs.Ytcgihjgfocohmaa.Tree
open Go.RowKit Go.Proofs.Ytcgihjgfocohmaa.Base Go.Proofs.Ytcgihjgfocohmaa.Node Go.Proofs.Ytcgihjgfocohmaa.Long

theorem more_small {t : List Nd} {n : Nd} (ht : ∀ m ∈ t, SmallN m) (hn : SmallN n) : ∀ m ∈ t ++ [n], SmallN m := by
  intro m hm
  rcases List.mem_append.1 hm with h | h
  · exact ht m h
  · obtain rfl : m = n := by simpa using h
    exact hn
set_option maxRecDepth 100000 in
set_option maxHeartbeats 2000000 in
theorem more_no (t : List Nd) (n : Nd) (A : Option Addr) (c : Nat) (w : World) (ha : RdN w A c t) (hst : ∀ n ∈ t, SmallN n) (ht : t.length < 9223372036854775808) (hn : SmallN n) (hno : fewT t = false ∨ fewN n = false ∨ mayT t = false) :
    Calls Try.prog 6 #[.slice A t.length c, nv n] w fun e w' => e = .returned (.bool true) ∧ Stp w w' := by
  have h0 := Stp.alloc (Stp.refl w) (.cells (ncells n) 23)
  have Ha := Lib.hid (ha.keep h0)
  have Hb := Lib.hid (Blk.new w 23 (ncells n))
  have Hst := Lib.hid hst
  have Ht := Lib.hid ht
  have Hn := Lib.hid hn
  obtain ⟨q0, q1, q2, q3, q4, q5, q6, q7⟩ := nd_cells Hb.out
  clear ha hst ht hn
  obtain ⟨F, hF⟩ : ∃ x, fewT t = x := ⟨_, rfl⟩
  obtain ⟨G, hG⟩ : ∃ x, fewN n = x := ⟨_, rfl⟩
  rw [hF, hG] at hno
  have HF := Lib.hid hF
  have HG := Lib.hid hG
  clear hF hG
  cases F
  · clear hno
    go_enter Try.func6, Try.ntmps6
    go_wp2_with (first
    | (go_at_call 9; (with_reducible refine (awake_s _).mono ?_); rintro e w9 ⟨rfl, hs⟩; replace Ha := Lib.hid (Ha.out.keep hs); replace Hb := Lib.hid (Hb.out.keep hs Hb.out.lt); replace h0 := Stp.trans h0 hs; clear hs; clear q0 q1 q2 q3 q4 q5 q6 q7; obtain ⟨q0, q1, q2, q3, q4, q5, q6, q7⟩ := nd_cells Hb.out)
    | (go_at_call 11; (with_reducible refine (fewt_s t A c _ Ha.out Ht.out).mono ?_); rintro e w9 ⟨rfl, hs⟩; rw [HF.out]; replace Ha := Lib.hid (Ha.out.keep hs); replace Hb := Lib.hid (Hb.out.keep hs Hb.out.lt); replace h0 := Stp.trans h0 hs; clear hs; clear q0 q1 q2 q3 q4 q5 q6 q7; obtain ⟨q0, q1, q2, q3, q4, q5, q6, q7⟩ := nd_cells Hb.out)
    | (go_at_call 10; (with_reducible refine (few_s n _).mono ?_); rintro e w9 ⟨rfl, hs⟩; rw [HG.out]; replace Ha := Lib.hid (Ha.out.keep hs); replace Hb := Lib.hid (Hb.out.keep hs Hb.out.lt); replace h0 := Stp.trans h0 hs; clear hs; clear q0 q1 q2 q3 q4 q5 q6 q7; obtain ⟨q0, q1, q2, q3, q4, q5, q6, q7⟩ := nd_cells Hb.out))
    go_ret
    exact ⟨rfl, h0⟩
  · cases G
    · clear hno
      go_enter Try.func6, Try.ntmps6
      go_wp2_with (first
    | (go_at_call 9; (with_reducible refine (awake_s _).mono ?_); rintro e w9 ⟨rfl, hs⟩; replace Ha := Lib.hid (Ha.out.keep hs); replace Hb := Lib.hid (Hb.out.keep hs Hb.out.lt); replace h0 := Stp.trans h0 hs; clear hs; clear q0 q1 q2 q3 q4 q5 q6 q7; obtain ⟨q0, q1, q2, q3, q4, q5, q6, q7⟩ := nd_cells Hb.out)
    | (go_at_call 11; (with_reducible refine (fewt_s t A c _ Ha.out Ht.out).mono ?_); rintro e w9 ⟨rfl, hs⟩; rw [HF.out]; replace Ha := Lib.hid (Ha.out.keep hs); replace Hb := Lib.hid (Hb.out.keep hs Hb.out.lt); replace h0 := Stp.trans h0 hs; clear hs; clear q0 q1 q2 q3 q4 q5 q6 q7; obtain ⟨q0, q1, q2, q3, q4, q5, q6, q7⟩ := nd_cells Hb.out)
    | (go_at_call 10; (with_reducible refine (few_s n _).mono ?_); rintro e w9 ⟨rfl, hs⟩; rw [HG.out]; replace Ha := Lib.hid (Ha.out.keep hs); replace Hb := Lib.hid (Hb.out.keep hs Hb.out.lt); replace h0 := Stp.trans h0 hs; clear hs; clear q0 q1 q2 q3 q4 q5 q6 q7; obtain ⟨q0, q1, q2, q3, q4, q5, q6, q7⟩ := nd_cells Hb.out))
      go_ret
      exact ⟨rfl, h0⟩
    · have HM := Lib.hid (show mayT t = false by rcases hno with h | h | h <;> first | exact h | cases h)
      clear hno
      go_enter Try.func6, Try.ntmps6
      go_wp2_with (first
    | (go_at_call 9; (with_reducible refine (awake_s _).mono ?_); rintro e w9 ⟨rfl, hs⟩; replace Ha := Lib.hid (Ha.out.keep hs); replace Hb := Lib.hid (Hb.out.keep hs Hb.out.lt); replace h0 := Stp.trans h0 hs; clear hs; clear q0 q1 q2 q3 q4 q5 q6 q7; obtain ⟨q0, q1, q2, q3, q4, q5, q6, q7⟩ := nd_cells Hb.out)
    | (go_at_call 11; (with_reducible refine (fewt_s t A c _ Ha.out Ht.out).mono ?_); rintro e w9 ⟨rfl, hs⟩; rw [HF.out]; replace Ha := Lib.hid (Ha.out.keep hs); replace Hb := Lib.hid (Hb.out.keep hs Hb.out.lt); replace h0 := Stp.trans h0 hs; clear hs; clear q0 q1 q2 q3 q4 q5 q6 q7; obtain ⟨q0, q1, q2, q3, q4, q5, q6, q7⟩ := nd_cells Hb.out)
    | (go_at_call 10; (with_reducible refine (few_s n _).mono ?_); rintro e w9 ⟨rfl, hs⟩; rw [HG.out]; replace Ha := Lib.hid (Ha.out.keep hs); replace Hb := Lib.hid (Hb.out.keep hs Hb.out.lt); replace h0 := Stp.trans h0 hs; clear hs; clear q0 q1 q2 q3 q4 q5 q6 q7; obtain ⟨q0, q1, q2, q3, q4, q5, q6, q7⟩ := nd_cells Hb.out)
    | (go_at_call 18; (with_reducible refine (tmay_s t A c _ Ha.out (by have := few_len HF.out; omega) Hst.out).mono ?_); rintro e w9 ⟨rfl, hs⟩; rw [HM.out]; replace Ha := Lib.hid (Ha.out.keep hs); replace Hb := Lib.hid (Hb.out.keep hs Hb.out.lt); replace h0 := Stp.trans h0 hs; clear hs; clear q0 q1 q2 q3 q4 q5 q6 q7; obtain ⟨q0, q1, q2, q3, q4, q5, q6, q7⟩ := nd_cells Hb.out))
      go_ret
      exact ⟨rfl, h0⟩
set_option maxRecDepth 100000 in
set_option maxHeartbeats 4000000 in
theorem more_in (t : List Nd) (n : Nd) (A : Option Addr) (c : Nat) (w : World) (ha : RdN w A c t) (hst : ∀ n ∈ t, SmallN n) (ht : t.length < 9223372036854775808) (hn : SmallN n) (hF : fewT t = true) (hG : fewN n = true) (hM : mayT t = true) :
    Calls Try.prog 6 #[.slice A t.length c, nv n] w fun e w' => e = .returned (.bool true) ∧ Stp w w' := by
  have h0 := Stp.alloc (Stp.refl w) (.cells (ncells n) 23)
  have Ha := Lib.hid (ha.keep h0)
  have Hb := Lib.hid (Blk.new w 23 (ncells n))
  have Hst := Lib.hid hst
  have Ht := Lib.hid ht
  have Hn := Lib.hid hn
  obtain ⟨q0, q1, q2, q3, q4, q5, q6, q7⟩ := nd_cells Hb.out
  have HF := Lib.hid hF
  have HG := Lib.hid hG
  have HM := Lib.hid hM
  clear ha hst ht hn hF hG hM
  go_enter Try.func6, Try.ntmps6
  go_upto_region 6 with (first
    | (go_at_call 9; (with_reducible refine (awake_s _).mono ?_); rintro e w9 ⟨rfl, hs⟩; replace Ha := Lib.hid (Ha.out.keep hs); replace Hb := Lib.hid (Hb.out.keep hs Hb.out.lt); replace h0 := Stp.trans h0 hs; clear hs; clear q0 q1 q2 q3 q4 q5 q6 q7; obtain ⟨q0, q1, q2, q3, q4, q5, q6, q7⟩ := nd_cells Hb.out)
    | (go_at_call 11; (with_reducible refine (fewt_s t A c _ Ha.out Ht.out).mono ?_); rintro e w9 ⟨rfl, hs⟩; rw [HF.out]; replace Ha := Lib.hid (Ha.out.keep hs); replace Hb := Lib.hid (Hb.out.keep hs Hb.out.lt); replace h0 := Stp.trans h0 hs; clear hs; clear q0 q1 q2 q3 q4 q5 q6 q7; obtain ⟨q0, q1, q2, q3, q4, q5, q6, q7⟩ := nd_cells Hb.out)
    | (go_at_call 10; (with_reducible refine (few_s n _).mono ?_); rintro e w9 ⟨rfl, hs⟩; rw [HG.out]; replace Ha := Lib.hid (Ha.out.keep hs); replace Hb := Lib.hid (Hb.out.keep hs Hb.out.lt); replace h0 := Stp.trans h0 hs; clear hs; clear q0 q1 q2 q3 q4 q5 q6 q7; obtain ⟨q0, q1, q2, q3, q4, q5, q6, q7⟩ := nd_cells Hb.out)
    | (go_at_call 18; (with_reducible refine (tmay_s t A c _ Ha.out (by have := few_len HF.out; omega) Hst.out).mono ?_); rintro e w9 ⟨rfl, hs⟩; rw [HM.out]; replace Ha := Lib.hid (Ha.out.keep hs); replace Hb := Lib.hid (Hb.out.keep hs Hb.out.lt); replace h0 := Stp.trans h0 hs; clear hs; clear q0 q1 q2 q3 q4 q5 q6 q7; obtain ⟨q0, q1, q2, q3, q4, q5, q6, q7⟩ := nd_cells Hb.out))
  go_cut [8] from 37 (fun s8 wx => ∃ A' c', s8 = .slice A' (t.length + 1) c' ∧ Hid (RdN wx A' c' (t ++ [n])) ∧ Hid (Stp w9 wx))
  case first =>
    have hlt := few_len HF.out
    have hlt2 : t.length ≤ 1000 := by omega
    go_region_law (first
      | (refine step_app_first w9.drew rfl _ _ rfl w9.heap.size rfl t A c rfl (Ha.out.keep (Stp.drewN (Stp.refl _) 1)) hlt2 (Nat.le_refl _) ?_; intro v1 w1 hv1 hg1; have Hv1 := Lib.hid hv1; have H1 := Lib.hid (row_stp (World.ownsRow_nil w9.drew w9.heap.size 23 8) (Stp.drewN (Stp.refl w9) 1) (Nat.le_refl _) hg1); clear hv1 hg1 q0 q1 q2 q3 q4 q5 q6 q7; obtain ⟨q0, q1, q2, q3, q4, q5, q6, q7⟩ := nd_cells (Hb.out.keep H1.out Hb.out.lt))
      | (refine step_app_first (w9.alloc (.cells (ncells n) 23)).drew rfl _ _ rfl w9.heap.size rfl t A c rfl (Ha.out.keep (Stp.drewN (Stp.alloc (Stp.refl _) _) 1)) hlt2 (le_new w9 _) ?_; intro v1 w1 hv1 hg1; have Hv1 := Lib.hid hv1; have h1a := row_stp (World.ownsRow_nil (w9.alloc (.cells (ncells n) 23)).drew (w9.alloc (.cells (ncells n) 23)).heap.size 23 8) (Stp.refl (w9.alloc (.cells (ncells n) 23)).drew) (Nat.le_refl _) hg1; have Hlit := Lib.hid (Blk.keep (Blk.drew (Blk.new w9 23 (ncells n))) h1a (lt_new w9 _)); have H1 := Lib.hid (Stp.trans (Stp.drewN (Stp.alloc (Stp.refl w9) (.cells (ncells n) 23)) 1) h1a); clear hv1 hg1 h1a q0 q1 q2 q3 q4 q5 q6 q7; obtain ⟨q0, q1, q2, q3, q4, q5, q6, q7⟩ := nd_cells (Hb.out.keep H1.out Hb.out.lt))
      | (refine step_app_next (w1.alloc (.cells (ncells n) 23)) rfl _ _ rfl w9.heap.size v1 rfl t n (Hv1.out.alloc _) ⟨w1.heap.size, 0, none⟩ rfl (lit_cells n w1 _) hlt2 (le_later H1.out _) ?_; intro A2 c2 w2 hr2 hg2; have Hr2 := Lib.hid hr2; have H2 := Lib.hid (row_stp (Hv1.out.alloc _) (Stp.alloc H1.out _) (Nat.le_refl _) hg2); clear hr2 hg2)
      | (refine step_app_next w1 rfl _ _ rfl w9.heap.size v1 rfl t n Hv1.out ⟨w9.heap.size, 0, none⟩ rfl (World.news_of_block Hlit.out) hlt2 H1.out.size ?_; intro A2 c2 w2 hr2 hg2; have Hr2 := Lib.hid hr2; have H2 := Lib.hid (row_stp Hv1.out H1.out (Nat.le_refl _) hg2); clear hr2 hg2))
    all_goals go_wp2_with fail
    all_goals go_meet
    all_goals exact ⟨A2, c2, rfl, Hr2, H2⟩
  case rest =>
    obtain ⟨A2, c2, rfl, Hr, H2⟩ := hcut
    have hs := H2.out
    obtain ⟨w9, hw9⟩ : ∃ z, wc = z := ⟨_, rfl⟩
    subst hw9
    replace Ha := Lib.hid (Ha.out.keep hs)
    replace Hb := Lib.hid (Hb.out.keep hs Hb.out.lt)
    replace h0 := Stp.trans h0 hs
    clear hs H2 q0 q1 q2 q3 q4 q5 q6 q7
    obtain ⟨q0, q1, q2, q3, q4, q5, q6, q7⟩ := nd_cells Hb.out
    have hlt := few_len HF.out
    obtain ⟨on, h1⟩ : ∃ x, oneB n = x := ⟨_, rfl⟩
    obtain ⟨ri, h2⟩ : ∃ x, riseV t n.path = x := ⟨_, rfl⟩
    obtain ⟨pb, p1⟩ : ∃ x, PathM.parB n.path = x := ⟨_, rfl⟩
    obtain ⟨pv, p0⟩ : ∃ x, PathM.parV n.path = x := ⟨_, rfl⟩
    obtain ⟨D, p2⟩ : ∃ x, (!pb || hasB t pv 53) = x := ⟨_, rfl⟩
    obtain ⟨kd, p3⟩ : ∃ x, decide (n.kind = 49) = x := ⟨_, rfl⟩
    obtain ⟨G, p4⟩ : ∃ x, (!kd || hasB t n.link 48) = x := ⟨_, rfl⟩
    obtain ⟨l20, p5⟩ : ∃ x, decide (t.length < 20) = x := ⟨_, rfl⟩
    obtain ⟨V1, v1⟩ : ∃ x, findV t pv = x := ⟨_, rfl⟩
    obtain ⟨V2, v2⟩ : ∃ x, findV t n.link = x := ⟨_, rfl⟩
    have HX := Lib.hid (show mayT (t ++ [n]) = (l20 && (on && (ri && (D && G)))) by rw [may_more t n HM.out, step_of, h1, h2, p1, p0, p3, p2, p4, p5])
    have F1 := Lib.hid h1
    have F2 := Lib.hid h2
    have P0 := Lib.hid p0
    have P1 := Lib.hid p1
    have P2 := Lib.hid p2
    have P3 := Lib.hid p3
    have P4 := Lib.hid p4
    have P5 := Lib.hid p5
    have HV1 := Lib.hid v1
    have HV2 := Lib.hid v2
    clear h1 h2 p0 p1 p2 p3 p4 p5 v1 v2
    go_upto_region 10 with (first
    | (go_at_call 23; (with_reducible refine (Path.parent_s n.path _ Hn.out.path).mono ?_); rintro e w9 ⟨rfl, hs⟩; rw [P0.out, P1.out]; replace Hr := Lib.hid (Hr.out.keep hs); replace Ha := Lib.hid (Ha.out.keep hs); replace Hb := Lib.hid (Hb.out.keep hs Hb.out.lt); replace h0 := Stp.trans h0 hs; clear hs; clear q0 q1 q2 q3 q4 q5 q6 q7; obtain ⟨q0, q1, q2, q3, q4, q5, q6, q7⟩ := nd_cells Hb.out)
    | (go_at_call 20; (with_reducible refine (tfind_s t pv A c _ Ha.out (by have := few_len HF.out; omega)).mono ?_); rintro e w9 ⟨rfl, hs⟩; rw [HV1.out]; replace Hr := Lib.hid (Hr.out.keep hs); replace Ha := Lib.hid (Ha.out.keep hs); replace Hb := Lib.hid (Hb.out.keep hs Hb.out.lt); replace h0 := Stp.trans h0 hs; clear hs; clear q0 q1 q2 q3 q4 q5 q6 q7; obtain ⟨q0, q1, q2, q3, q4, q5, q6, q7⟩ := nd_cells Hb.out)
    | (go_at_call 20; (with_reducible refine (tfind_s t n.link A c _ Ha.out (by have := few_len HF.out; omega)).mono ?_); rintro e w9 ⟨rfl, hs⟩; rw [HV2.out]; replace Hr := Lib.hid (Hr.out.keep hs); replace Ha := Lib.hid (Ha.out.keep hs); replace Hb := Lib.hid (Hb.out.keep hs Hb.out.lt); replace h0 := Stp.trans h0 hs; clear hs; clear q0 q1 q2 q3 q4 q5 q6 q7; obtain ⟨q0, q1, q2, q3, q4, q5, q6, q7⟩ := nd_cells Hb.out))
    go_cut [13] from 55 (fun s wx => s = .bool D ∧ wx = w9)
    case first =>
      have hd := P2.out
      cases pb with
      | false =>
        obtain rfl : D = true := hd.symm
        clear hd
        go_wp2_with fail
        go_meet
        exact ⟨rfl, rfl⟩
      | true =>
        have hv := HV1.out
        rw [Bool.not_true, Bool.false_or, hasB] at hd
        rw [findV] at hv
        cases hf : findN pv t with
        | none =>
          rw [hf] at hd hv
          subst hd hv
          clear hf
          go_wp2_with fail
          go_meet
          exact ⟨rfl, rfl⟩
        | some j =>
          obtain ⟨m, hm, -, -⟩ := findN_lt hf
          have hj := findN_bound hf
          rw [hf] at hd hv
          simp only [hm, Option.map_some, Option.getD_some] at hd
          subst hv
          obtain ⟨b, o, rfl, -, r0, r1, r2, r3, r4, r5, r6, r7⟩ := Ha.out.cells hm
          have hc := Ha.out.1
          have gm : ((m.kind.toNat : Int) == 53) = D := by
            rw [← hd, Bool.eq_iff_iff, beq_iff_eq, decide_eq_true_eq]
            exact ⟨fun h => UInt8.toNat_inj.1 (by show m.kind.toNat = 53; omega), fun h => by rw [h]; rfl⟩
          have gj0 : decide ((0 : Int) ≤ (j : Int)) = true := decide_eq_true (by omega)
          have gj1 : decide ((j : Int) < (t.length : Int)) = true := decide_eq_true (by omega)
          clear hd hm hf
          go_wp2_with fail
          all_goals first
            | (exfalso; omega)
            | (go_meet; exact ⟨rfl, rfl⟩)
    case rest =>
    obtain ⟨rfl, hwc⟩ := hcut
    subst hwc
    go_upto_region 11 with fail
    go_cut [14] from 55 (fun s wx => s = .bool G ∧ wx = wc)
    case first =>
      have hd := P4.out
      cases kd with
      | false =>
        obtain rfl : G = true := hd.symm
        have gk : ((n.kind.toNat : Int) != 49) = true := by
          have h := P3.out
          simp
          intro h2
          rw [decide_eq_false_iff_not] at h
          exact h (UInt8.toNat_inj.1 (by show n.kind.toNat = 49; omega))
        clear hd
        go_wp2_with fail
        go_meet
        exact ⟨rfl, rfl⟩
      | true =>
        have gk : ((n.kind.toNat : Int) != 49) = false := by
          have h := P3.out
          rw [decide_eq_true_eq] at h
          rw [h]
          rfl
        have hv := HV2.out
        rw [Bool.not_true, Bool.false_or, hasB] at hd
        rw [findV] at hv
        cases hf : findN n.link t with
        | none =>
          rw [hf] at hd hv
          subst hd hv
          clear hf
          go_wp2_with fail
          go_meet
          exact ⟨rfl, rfl⟩
        | some j =>
          obtain ⟨m, hm, -, -⟩ := findN_lt hf
          have hj := findN_bound hf
          rw [hf] at hd hv
          simp only [hm, Option.map_some, Option.getD_some] at hd
          subst hv
          obtain ⟨b, o, rfl, -, r0, r1, r2, r3, r4, r5, r6, r7⟩ := Ha.out.cells hm
          have hc := Ha.out.1
          have gm : ((m.kind.toNat : Int) == 48) = G := by
            rw [← hd, Bool.eq_iff_iff, beq_iff_eq, decide_eq_true_eq]
            exact ⟨fun h => UInt8.toNat_inj.1 (by show m.kind.toNat = 48; omega), fun h => by rw [h]; rfl⟩
          have gj0 : decide ((0 : Int) ≤ (j : Int)) = true := decide_eq_true (by omega)
          have gj1 : decide ((j : Int) < (t.length : Int)) = true := decide_eq_true (by omega)
          clear hd hm hf
          go_wp2_with fail
          all_goals first
            | (exfalso; omega)
            | (go_meet; exact ⟨rfl, rfl⟩)
    case rest =>
    obtain ⟨rfl, hwc⟩ := hcut
    subst hwc
    go_upto_region 12 with fail
    go_cut [15] from 55 (fun s wx => s = .bool ri ∧ Hid (Stp wc wx))
    case first =>
      generalize hN : t.length = N at *
      cases N with
      | zero =>
        obtain rfl : ri = true := by
          rw [← F2.out, List.eq_nil_of_length_eq_zero hN]
          rfl
        clear hN
        go_quiet (fail)
        go_wp2_with fail
        go_meet
        exact ⟨rfl, Lib.hid (Stp.drewN (Stp.refl _) _)⟩
      | succ j =>
        obtain ⟨m, hm⟩ : ∃ m, t[j]? = some m := ⟨_, List.getElem?_eq_getElem (by omega)⟩
        have hri := F2.out
        rw [rise_last hN hm] at hri
        obtain ⟨b, o, rfl, -, r0, r1, r2, r3, r4, r5, r6, r7⟩ := Ha.out.cells hm
        have hc := Ha.out.1
        rw [hN] at hc
        obtain ⟨le, hle⟩ : ∃ x, (Op.bytesLess n.path m.path || n.path == m.path) = x := ⟨_, rfl⟩
        rw [hle] at hri
        subst hri
        have gw : IntKind.i64.wrap (j : Int) = (j : Int) := by rw [IntKind.wrap_i64]; omega
        have g0 : ((j : Int) + 1 == 0) = false := beq_eq_false_iff_ne.2 (by omega)
        clear hm hN
        rcases le
        all_goals go_quiet (fail)
        all_goals go_wp2_with fail
        all_goals go_meet
        all_goals exact ⟨rfl, Lib.hid (Stp.drewN (Stp.refl _) _)⟩
    case rest =>
    obtain ⟨rfl, Hs⟩ := hcut
    have hs := Hs.out
    replace Ha := Lib.hid (Ha.out.keep hs)
    replace Hb := Lib.hid (Hb.out.keep hs Hb.out.lt)
    replace Hr := Lib.hid (Hr.out.keep hs)
    replace h0 := Stp.trans h0 hs
    clear hs Hs q0 q1 q2 q3 q4 q5 q6 q7
    obtain ⟨q0, q1, q2, q3, q4, q5, q6, q7⟩ := nd_cells Hb.out
    have p5 := P5.out
    have g20 : decide ((t.length : Int) < 20) = l20 := by
      rw [← p5, Bool.eq_iff_iff, decide_eq_true_eq, decide_eq_true_eq]
      omega
    clear p5
    go_wp2_with (first
    | (go_at_call 18; (with_reducible refine (tmay_n (t ++ [n]) (t.length + 1) (by simp) A2 c2 _ Hr.out (by simp; omega) (more_small Hst.out Hn.out)).mono ?_); rintro e w9 ⟨rfl, hs⟩; rw [HX.out]; replace Ha := Lib.hid (Ha.out.keep hs); replace Hb := Lib.hid (Hb.out.keep hs Hb.out.lt); replace h0 := Stp.trans h0 hs; clear hs; clear q0 q1 q2 q3 q4 q5 q6 q7; obtain ⟨q0, q1, q2, q3, q4, q5, q6, q7⟩ := nd_cells Hb.out; rcases l20)
    | (go_at_call 17; (with_reducible refine (tone_s n Hn.out _).mono ?_); rintro e w9 ⟨rfl, hs⟩; rw [F1.out]; replace Ha := Lib.hid (Ha.out.keep hs); replace Hb := Lib.hid (Hb.out.keep hs Hb.out.lt); replace h0 := Stp.trans h0 hs; clear hs; clear q0 q1 q2 q3 q4 q5 q6 q7; obtain ⟨q0, q1, q2, q3, q4, q5, q6, q7⟩ := nd_cells Hb.out; rcases on))
    all_goals go_ret
    all_goals refine ⟨congrArg (fun b => Ending.returned (.bool b)) ?_, h0⟩
    all_goals clear q0 q1 q2 q3 q4 q5 q6 q7 Ha Hb Hr h0 HX F1 F2 P0 P1 P2 P3 P4 P5 HV1 HV2
    all_goals rcases D <;> rcases G <;> rcases ri <;> first | rfl | simp | simp_all
theorem more_s (t : List Nd) (n : Nd) (A : Option Addr) (c : Nat) (w : World) (ha : RdN w A c t) (hst : ∀ n ∈ t, SmallN n) (ht : t.length < 9223372036854775808) (hn : SmallN n) :
    Calls Try.prog 6 #[.slice A t.length c, nv n] w fun e w' => e = .returned (.bool true) ∧ Below w.heap.size w w' := by
  cases hF : fewT t with
  | false => exact more_no t n A c w ha hst ht hn (.inl hF)
  | true =>
    cases hG : fewN n with
    | false => exact more_no t n A c w ha hst ht hn (.inr (.inl hG))
    | true =>
      cases hM : mayT t with
      | false => exact more_no t n A c w ha hst ht hn (.inr (.inr hM))
      | true => exact more_in t n A c w ha hst ht hn hF hG hM
end Go.Proofs.Ytcgihjgfocohmaa.Tree
