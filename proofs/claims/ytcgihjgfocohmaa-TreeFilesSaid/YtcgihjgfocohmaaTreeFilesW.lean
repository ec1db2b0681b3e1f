/-
  The walk of TreeFiles: no statement is proved here.
-/
import Derived.Test.YtcgihjgfocohmaaTreeTellsW
import Derived.Test.YtcgihjgfocohmaaTreeL
import Derived.Deep.RegionWith
namespace Go.Proofs.Ytcgihjgfocohmaa.Tree
open Go.RowKit Go.Proofs.Ytcgihjgfocohmaa.Base Go.Proofs.Ytcgihjgfocohmaa.Node Go.Proofs.Ytcgihjgfocohmaa.Long

theorem last_snoc (l : L) (c : UInt8) : PathM.lastCut (l ++ [c]) = if c = 47 then some (l, []) else (PathM.lastCut l).map fun x => (x.1, x.2 ++ [c]) := by
  by_cases h : c = 47
  · subst h
    rw [if_pos rfl]
    exact PathM.lastCut_of (by simp)
  · rw [if_neg h]
    cases hl : PathM.lastCut l with
    | none =>
      have h1 := PathM.lastCut_none hl
      rw [PathM.lastCut_one (by
        intro hm
        rcases List.mem_append.1 hm with h2 | h2
        · exact h1 h2
        · simp at h2
          exact h h2.symm)]
      rfl
    | some x =>
      obtain ⟨a, b⟩ := x
      obtain ⟨rfl, hb⟩ := PathM.lastCut_some hl
      have e : a ++ 47 :: b ++ [c] = a ++ 47 :: (b ++ [c]) := by simp
      rw [e, PathM.lastCut_of (by
        intro hm
        rcases List.mem_append.1 hm with h2 | h2
        · exact hb h2
        · simp at h2
          exact h h2.symm)]
      rfl
/-- The place of the last slash, or -1. -/
def lastS (l : L) : Int := match PathM.lastCut l with | some x => (x.1.length : Int) | none => -1
theorem lastS_nil : lastS [] = -1 := rfl
theorem lastS_yes {l : L} {k : Nat} {c : UInt8} (h : l[k]? = some c) (hc : c = 47) : lastS (l.take (k + 1)) = (k : Int) := by
  have hk := (List.getElem?_eq_some_iff.1 h).1
  unfold lastS
  rw [List.take_add_one, h, Option.toList_some, last_snoc, if_pos hc]
  simp
  omega
theorem lastS_no {l : L} {k : Nat} {c : UInt8} (h : l[k]? = some c) (hc : c ≠ 47) : lastS (l.take (k + 1)) = lastS (l.take k) := by
  unfold lastS
  rw [List.take_add_one, h, Option.toList_some, last_snoc, if_neg hc]
  cases PathM.lastCut (l.take k) <;> rfl

set_option maxRecDepth 100000 in
set_option maxHeartbeats 4000000 in
theorem files_out (t : List Nd) (i : Int) (hi : i < 0 ∨ t.length ≤ i) (A : Option Addr) (c : Nat) (w : World) (ha : RdN w A c t) (hst : ∀ n ∈ t, SmallN n) (ht : t.length < 9223372036854775808) :
    Calls Try.prog 8 #[.slice A t.length c, .int .i64 i] w fun e w' => e = .returned (.bool true) ∧ Stp w w' := by
  have h0 := Stp.refl w
  obtain ⟨F, hF⟩ : ∃ x, fewT t = x := ⟨_, rfl⟩
  obtain ⟨M, hM⟩ : ∃ x, mayT t = x := ⟨_, rfl⟩
  have HF := Lib.hid hF
  have HM := Lib.hid hM
  have Ha := Lib.hid ha
  have Hst := Lib.hid hst
  have Ht := Lib.hid ht
  clear hF hM ha hst ht
  by_cases h1 : i < 0
  · have g1 : decide (i < 0) = true := decide_eq_true h1
    go_enter Try.func8, Try.ntmps8
    go_wp2_with (first
    | (go_at_call 9; (with_reducible refine (awake_s _).mono ?_); rintro e w9 ⟨rfl, hs⟩; replace Ha := Lib.hid (Ha.out.keep hs); replace h0 := Stp.trans h0 hs; clear hs)
    | (go_at_call 11; (with_reducible refine (fewt_s t A c _ Ha.out Ht.out).mono ?_); rintro e w9 ⟨rfl, hs⟩; rw [HF.out]; replace Ha := Lib.hid (Ha.out.keep hs); replace h0 := Stp.trans h0 hs; clear hs; rcases F)
    | (go_at_call 18; (with_reducible refine (tmay_s t A c _ Ha.out (by have := few_len HF.out; omega) Hst.out).mono ?_); rintro e w9 ⟨rfl, hs⟩; rw [HM.out]; replace Ha := Lib.hid (Ha.out.keep hs); replace h0 := Stp.trans h0 hs; clear hs; rcases M))
    all_goals go_ret
    all_goals exact ⟨rfl, h0⟩
  · have g1 : decide (i < 0) = false := decide_eq_false h1
    have g3 : decide ((t.length : Int) ≤ i) = true := decide_eq_true (by omega)
    go_enter Try.func8, Try.ntmps8
    go_wp2_with (first
    | (go_at_call 9; (with_reducible refine (awake_s _).mono ?_); rintro e w9 ⟨rfl, hs⟩; replace Ha := Lib.hid (Ha.out.keep hs); replace h0 := Stp.trans h0 hs; clear hs)
    | (go_at_call 11; (with_reducible refine (fewt_s t A c _ Ha.out Ht.out).mono ?_); rintro e w9 ⟨rfl, hs⟩; rw [HF.out]; replace Ha := Lib.hid (Ha.out.keep hs); replace h0 := Stp.trans h0 hs; clear hs; rcases F)
    | (go_at_call 18; (with_reducible refine (tmay_s t A c _ Ha.out (by have := few_len HF.out; omega) Hst.out).mono ?_); rintro e w9 ⟨rfl, hs⟩; rw [HM.out]; replace Ha := Lib.hid (Ha.out.keep hs); replace h0 := Stp.trans h0 hs; clear hs; rcases M))
    all_goals go_ret
    all_goals exact ⟨rfl, h0⟩
set_option maxRecDepth 100000 in
set_option maxHeartbeats 4000000 in
theorem files_no (t : List Nd) (i : Int) (hno : fewT t = false ∨ mayT t = false) (A : Option Addr) (c : Nat) (w : World) (ha : RdN w A c t) (hst : ∀ n ∈ t, SmallN n) (ht : t.length < 9223372036854775808) :
    Calls Try.prog 8 #[.slice A t.length c, .int .i64 i] w fun e w' => e = .returned (.bool true) ∧ Stp w w' := by
  have h0 := Stp.refl w
  have Ha := Lib.hid ha
  have Hst := Lib.hid hst
  have Ht := Lib.hid ht
  clear ha hst ht
  rcases hno with hF | hM
  · have HF := Lib.hid hF
    clear hF
    go_enter Try.func8, Try.ntmps8
    go_wp2_with (first
    | (go_at_call 9; (with_reducible refine (awake_s _).mono ?_); rintro e w9 ⟨rfl, hs⟩; replace Ha := Lib.hid (Ha.out.keep hs); replace h0 := Stp.trans h0 hs; clear hs)
    | (go_at_call 11; (with_reducible refine (fewt_s t A c _ Ha.out Ht.out).mono ?_); rintro e w9 ⟨rfl, hs⟩; rw [HF.out]; replace Ha := Lib.hid (Ha.out.keep hs); replace h0 := Stp.trans h0 hs; clear hs))
    all_goals go_ret
    all_goals exact ⟨rfl, h0⟩
  · obtain ⟨F, hF⟩ : ∃ x, fewT t = x := ⟨_, rfl⟩
    have HF := Lib.hid hF
    have HM := Lib.hid hM
    clear hF hM
    go_enter Try.func8, Try.ntmps8
    go_wp2_with (first
    | (go_at_call 9; (with_reducible refine (awake_s _).mono ?_); rintro e w9 ⟨rfl, hs⟩; replace Ha := Lib.hid (Ha.out.keep hs); replace h0 := Stp.trans h0 hs; clear hs)
    | (go_at_call 11; (with_reducible refine (fewt_s t A c _ Ha.out Ht.out).mono ?_); rintro e w9 ⟨rfl, hs⟩; rw [HF.out]; replace Ha := Lib.hid (Ha.out.keep hs); replace h0 := Stp.trans h0 hs; clear hs; rcases F)
    | (go_at_call 18; (with_reducible refine (tmay_s t A c _ Ha.out (by have := few_len HF.out; omega) Hst.out).mono ?_); rintro e w9 ⟨rfl, hs⟩; rw [HM.out]; replace Ha := Lib.hid (Ha.out.keep hs); replace h0 := Stp.trans h0 hs; clear hs))
    all_goals go_ret
    all_goals exact ⟨rfl, h0⟩
set_option maxRecDepth 100000 in
set_option maxHeartbeats 4000000 in
theorem files_in0 (t : List Nd) (i : Nat) (hi : i < t.length) (x : Nd) (hx : t[i]? = some x) (hF : fewT t = true) (hM : mayT t = true) (hk : x.kind ≠ 49) (A : Option Addr) (c : Nat) (w : World) (ha : RdN w A c t) (hst : ∀ n ∈ t, SmallN n) (ht : t.length < 9223372036854775808) :
    Calls Try.prog 8 #[.slice A t.length c, .int .i64 (i : Int)] w fun e w' => e = .returned (.bool true) ∧ Stp w w' := by
  have h0 := Stp.refl w
  have HF := Lib.hid hF
  have HM := Lib.hid hM
  have Ha := Lib.hid ha
  have Hst := Lib.hid hst
  have Ht := Lib.hid ht
  have Hx := Lib.hid hx
  obtain ⟨b, o, rfl, -, q0, q1, q2, q3, q4, q5, q6, q7⟩ := ha.cells hx
  have hc := ha.1
  obtain ⟨V, hV⟩ : ∃ z, findV t x.link = z := ⟨_, rfl⟩
  have HV := Lib.hid hV
  have g1 : decide ((i : Int) < 0) = false := decide_eq_false (by omega)
  have g2 : decide ((t.length : Int) ≤ (i : Int)) = false := decide_eq_false (by omega)
  have gk : ((x.kind.toNat : Int) != 49) = true := by
    simp
    intro h
    exact hk (UInt8.toNat_inj.1 (by show x.kind.toNat = 49; omega))
  clear hF hM ha hst hx hV
  go_enter Try.func8, Try.ntmps8
  go_wp2_with (first
    | (go_at_call 9; (with_reducible refine (awake_s _).mono ?_); rintro e w9 ⟨rfl, hs⟩; replace Ha := Lib.hid (Ha.out.keep hs); replace h0 := Stp.trans h0 hs; clear hs; clear q0 q1 q2 q3 q4 q5 q6 q7; obtain ⟨b9, o9, e9, -, q0, q1, q2, q3, q4, q5, q6, q7⟩ := Ha.out.cells Hx.out; cases e9)
    | (go_at_call 11; (with_reducible refine (fewt_s t _ c _ Ha.out Ht.out).mono ?_); rintro e w9 ⟨rfl, hs⟩; rw [HF.out]; replace Ha := Lib.hid (Ha.out.keep hs); replace h0 := Stp.trans h0 hs; clear hs; clear q0 q1 q2 q3 q4 q5 q6 q7; obtain ⟨b9, o9, e9, -, q0, q1, q2, q3, q4, q5, q6, q7⟩ := Ha.out.cells Hx.out; cases e9)
    | (go_at_call 18; (with_reducible refine (tmay_s t _ c _ Ha.out (by have := few_len HF.out; omega) Hst.out).mono ?_); rintro e w9 ⟨rfl, hs⟩; rw [HM.out]; replace Ha := Lib.hid (Ha.out.keep hs); replace h0 := Stp.trans h0 hs; clear hs; clear q0 q1 q2 q3 q4 q5 q6 q7; obtain ⟨b9, o9, e9, -, q0, q1, q2, q3, q4, q5, q6, q7⟩ := Ha.out.cells Hx.out; cases e9)
    | (go_at_call 20; (with_reducible refine (tfind_s t x.link _ c _ Ha.out (by have := few_len HF.out; omega)).mono ?_); rintro e w9 ⟨rfl, hs⟩; rw [HV.out]; replace Ha := Lib.hid (Ha.out.keep hs); replace h0 := Stp.trans h0 hs; clear hs; clear q0 q1 q2 q3 q4 q5 q6 q7; obtain ⟨b9, o9, e9, -, q0, q1, q2, q3, q4, q5, q6, q7⟩ := Ha.out.cells Hx.out; cases e9))
  go_loopw [9, 10] (fun at' n wr => ∃ (k : Nat) (z : Int), k ≤ x.path.length ∧ n = .int .i64 k ∧ at' = .int .i64 z ∧ Hid (lastS (x.path.take k) = z) ∧ wr = w9) (fun _ n _ => x.path.length - (intOf n).toNat)
  case atStart => exact ⟨0, -1, by omega, rfl, rfl, Lib.hid rfl, rfl⟩
  case round =>
    obtain ⟨k, z, hkl, rfl, rfl, Hz, rfl⟩ := hrel
    by_cases hlt : k < x.path.length
    · obtain ⟨ch, hch⟩ : ∃ ch, x.path[k]? = some ch := ⟨_, List.getElem?_eq_getElem hlt⟩
      have hix := Str.idx_l x.path (k : Int) ch (by omega) (by rw [Int.toNat_natCast]; exact hch)
      have gl : decide ((k : Int) < (x.path.length : Int)) = true := decide_eq_true (by omega)
      have hsz := (Hst.out x (List.mem_of_getElem? Hx.out)).path
      by_cases h47 : ch = 47
      · have e47 : ((ch.toNat : Int) == 47) = true := by rw [h47]; rfl
        have Hn := Lib.hid (lastS_yes hch h47)
        clear hch h47
        go_wp2_with fail
        go_roundw
        case rel => exact ⟨k + 1, k, by omega, by go_num, rfl, Hn, by first | rfl | trivial⟩
        case measure => simp [intOf]; omega
      · have e47 : ((ch.toNat : Int) == 47) = false := beq_eq_false_iff_ne.2 fun h => h47 (UInt8.toNat_inj.1 (by show ch.toNat = 47; omega))
        have Hn := Lib.hid ((lastS_no hch h47).trans Hz.out)
        clear hch h47
        go_wp2_with fail
        go_roundw
        case rel => exact ⟨k + 1, z, by omega, by go_num, rfl, Hn, by first | rfl | trivial⟩
        case measure => simp [intOf]; omega
    · obtain rfl : k = x.path.length := by omega
      have hz := Hz.out
      rw [List.take_length] at hz
      have hmp := may_path HM.out Hx.out
      cases hlc : PathM.lastCut x.path with
      | none =>
        obtain rfl : z = -1 := by rw [← hz]; unfold lastS; rw [hlc]
        clear hz hlc hmp Hz
        go_wp2_with fail
        go_ret
        exact ⟨rfl, h0⟩
      | some ab =>
        obtain ⟨a, bb⟩ := ab
        obtain rfl : z = (a.length : Int) := by rw [← hz]; unfold lastS; rw [hlc]
        have hpb : PathM.parB x.path = true := by unfold PathM.parB; rw [hmp, hlc]; rfl
        have hpv : PathM.parV x.path = a := by unfold PathM.parV; rw [if_pos hmp, hlc]
        obtain ⟨j2, n2, hj2, hn2, -, hk2, hf2⟩ := may_parent HM.out Hx.out hpb
        rw [hpv] at hf2
        have he := (PathM.lastCut_some hlc).1
        have hcut := Str.cut_h x.path a.length (by rw [he]; simp)
        rw [show x.path.take a.length = a by rw [he]; simp] at hcut
        have HV2 := Lib.hid (show findV t a = (j2 : Int) by rw [findV, hf2])
        have Hn2 := Lib.hid hn2
        have ek2 : (n2.kind.toNat : Int) = 53 := by rw [hk2]; rfl
        clear hz hlc hmp Hz hpb hpv hf2 he hn2 hk2
        go_wp2_with (first
    | (go_at_call 20; (with_reducible refine (tfind_s t a _ c _ Ha.out (by have := few_len HF.out; omega)).mono ?_); rintro e w10 ⟨rfl, hs⟩; rw [HV2.out]; replace Ha := Lib.hid (Ha.out.keep hs); replace h0 := Stp.trans h0 hs; clear hs q0 q1 q2 q3 q4 q5 q6 q7; obtain ⟨b9, o9, e9, -, q0, q1, q2, q3, q4, q5, q6, q7⟩ := Ha.out.cells Hn2.out; cases e9))
        all_goals first
          | (exfalso; omega)
          | (go_ret; exact ⟨rfl, h0⟩)
set_option maxRecDepth 100000 in
set_option maxHeartbeats 4000000 in
theorem files_in1 (t : List Nd) (i : Nat) (hi : i < t.length) (x : Nd) (hx : t[i]? = some x) (hF : fewT t = true) (hM : mayT t = true) (hk : x.kind = 49) (j : Nat) (m : Nd) (hj : j < i) (hm : t[j]? = some m) (hmk : m.kind = 48) (hf : findN x.link t = some j) (A : Option Addr) (c : Nat) (w : World) (ha : RdN w A c t) (hst : ∀ n ∈ t, SmallN n) (ht : t.length < 9223372036854775808) :
    Calls Try.prog 8 #[.slice A t.length c, .int .i64 (i : Int)] w fun e w' => e = .returned (.bool true) ∧ Stp w w' := by
  have h0 := Stp.refl w
  have HF := Lib.hid hF
  have HM := Lib.hid hM
  have Ha := Lib.hid ha
  have Hst := Lib.hid hst
  have Ht := Lib.hid ht
  have Hx := Lib.hid hx
  obtain ⟨b, o, rfl, -, q0, q1, q2, q3, q4, q5, q6, q7⟩ := ha.cells hx
  have hc := ha.1
  obtain ⟨V, hV⟩ : ∃ z, findV t x.link = z := ⟨_, rfl⟩
  have HV := Lib.hid hV
  have g1 : decide ((i : Int) < 0) = false := decide_eq_false (by omega)
  have g2 : decide ((t.length : Int) ≤ (i : Int)) = false := decide_eq_false (by omega)
  have ek : (x.kind.toNat : Int) = 49 := by rw [hk]; rfl
  have em : (m.kind.toNat : Int) = 48 := by rw [hmk]; rfl
  obtain rfl : V = (j : Int) := by rw [← hV, findV, hf]
  have gj0 : decide ((0 : Int) ≤ (j : Int)) = true := decide_eq_true (by omega)
  have Hm := Lib.hid hm
  clear hF hM ha hst hx hV
  go_enter Try.func8, Try.ntmps8
  go_wp2_with (first
    | (go_at_call 9; (with_reducible refine (awake_s _).mono ?_); rintro e w9 ⟨rfl, hs⟩; replace Ha := Lib.hid (Ha.out.keep hs); replace h0 := Stp.trans h0 hs; clear hs; clear q0 q1 q2 q3 q4 q5 q6 q7; obtain ⟨b9, o9, e9, -, q0, q1, q2, q3, q4, q5, q6, q7⟩ := Ha.out.cells Hx.out; cases e9)
    | (go_at_call 11; (with_reducible refine (fewt_s t _ c _ Ha.out Ht.out).mono ?_); rintro e w9 ⟨rfl, hs⟩; rw [HF.out]; replace Ha := Lib.hid (Ha.out.keep hs); replace h0 := Stp.trans h0 hs; clear hs; clear q0 q1 q2 q3 q4 q5 q6 q7; obtain ⟨b9, o9, e9, -, q0, q1, q2, q3, q4, q5, q6, q7⟩ := Ha.out.cells Hx.out; cases e9)
    | (go_at_call 18; (with_reducible refine (tmay_s t _ c _ Ha.out (by have := few_len HF.out; omega) Hst.out).mono ?_); rintro e w9 ⟨rfl, hs⟩; rw [HM.out]; replace Ha := Lib.hid (Ha.out.keep hs); replace h0 := Stp.trans h0 hs; clear hs; clear q0 q1 q2 q3 q4 q5 q6 q7; obtain ⟨b9, o9, e9, -, q0, q1, q2, q3, q4, q5, q6, q7⟩ := Ha.out.cells Hx.out; cases e9)
    | (go_at_call 20; (with_reducible refine (tfind_s t x.link _ c _ Ha.out (by have := few_len HF.out; omega)).mono ?_); rintro e w9 ⟨rfl, hs⟩; rw [HV.out]; replace Ha := Lib.hid (Ha.out.keep hs); replace h0 := Stp.trans h0 hs; clear hs; clear q0 q1 q2 q3 q4 q5 q6 q7; obtain ⟨b9, o9, e9, -, q0, q1, q2, q3, q4, q5, q6, q7⟩ := Ha.out.cells Hx.out; cases e9; obtain ⟨b8, o8, e8, -, r0, r1, r2, r3, r4, r5, r6, r7⟩ := Ha.out.cells Hm.out; cases e8))
  go_loopw [9, 10] (fun at' n wr => ∃ (k : Nat) (z : Int), k ≤ x.path.length ∧ n = .int .i64 k ∧ at' = .int .i64 z ∧ Hid (lastS (x.path.take k) = z) ∧ wr = w9) (fun _ n _ => x.path.length - (intOf n).toNat)
  case atStart => exact ⟨0, -1, by omega, rfl, rfl, Lib.hid rfl, rfl⟩
  case round =>
    obtain ⟨k, z, hkl, rfl, rfl, Hz, rfl⟩ := hrel
    by_cases hlt : k < x.path.length
    · obtain ⟨ch, hch⟩ : ∃ ch, x.path[k]? = some ch := ⟨_, List.getElem?_eq_getElem hlt⟩
      have hix := Str.idx_l x.path (k : Int) ch (by omega) (by rw [Int.toNat_natCast]; exact hch)
      have gl : decide ((k : Int) < (x.path.length : Int)) = true := decide_eq_true (by omega)
      have hsz := (Hst.out x (List.mem_of_getElem? Hx.out)).path
      by_cases h47 : ch = 47
      · have e47 : ((ch.toNat : Int) == 47) = true := by rw [h47]; rfl
        have Hn := Lib.hid (lastS_yes hch h47)
        clear hch h47
        go_wp2_with fail
        go_roundw
        case rel => exact ⟨k + 1, k, by omega, by go_num, rfl, Hn, by first | rfl | trivial⟩
        case measure => simp [intOf]; omega
      · have e47 : ((ch.toNat : Int) == 47) = false := beq_eq_false_iff_ne.2 fun h => h47 (UInt8.toNat_inj.1 (by show ch.toNat = 47; omega))
        have Hn := Lib.hid ((lastS_no hch h47).trans Hz.out)
        clear hch h47
        go_wp2_with fail
        go_roundw
        case rel => exact ⟨k + 1, z, by omega, by go_num, rfl, Hn, by first | rfl | trivial⟩
        case measure => simp [intOf]; omega
    · obtain rfl : k = x.path.length := by omega
      have hz := Hz.out
      rw [List.take_length] at hz
      have hmp := may_path HM.out Hx.out
      cases hlc : PathM.lastCut x.path with
      | none =>
        obtain rfl : z = -1 := by rw [← hz]; unfold lastS; rw [hlc]
        clear hz hlc hmp Hz
        go_wp2_with fail
        go_ret
        exact ⟨rfl, h0⟩
      | some ab =>
        obtain ⟨a, bb⟩ := ab
        obtain rfl : z = (a.length : Int) := by rw [← hz]; unfold lastS; rw [hlc]
        have hpb : PathM.parB x.path = true := by unfold PathM.parB; rw [hmp, hlc]; rfl
        have hpv : PathM.parV x.path = a := by unfold PathM.parV; rw [if_pos hmp, hlc]
        obtain ⟨j2, n2, hj2, hn2, -, hk2, hf2⟩ := may_parent HM.out Hx.out hpb
        rw [hpv] at hf2
        have he := (PathM.lastCut_some hlc).1
        have hcut := Str.cut_h x.path a.length (by rw [he]; simp)
        rw [show x.path.take a.length = a by rw [he]; simp] at hcut
        have HV2 := Lib.hid (show findV t a = (j2 : Int) by rw [findV, hf2])
        have Hn2 := Lib.hid hn2
        have ek2 : (n2.kind.toNat : Int) = 53 := by rw [hk2]; rfl
        clear hz hlc hmp Hz hpb hpv hf2 he hn2 hk2
        go_wp2_with (first
    | (go_at_call 20; (with_reducible refine (tfind_s t a _ c _ Ha.out (by have := few_len HF.out; omega)).mono ?_); rintro e w10 ⟨rfl, hs⟩; rw [HV2.out]; replace Ha := Lib.hid (Ha.out.keep hs); replace h0 := Stp.trans h0 hs; clear hs q0 q1 q2 q3 q4 q5 q6 q7; obtain ⟨b9, o9, e9, -, q0, q1, q2, q3, q4, q5, q6, q7⟩ := Ha.out.cells Hn2.out; cases e9))
        all_goals first
          | (exfalso; omega)
          | (go_ret; exact ⟨rfl, h0⟩)
theorem files_s (t : List Nd) (i : Int) (A : Option Addr) (c : Nat) (w : World) (ha : RdN w A c t) (hst : ∀ n ∈ t, SmallN n) (ht : t.length < 9223372036854775808) :
    Calls Try.prog 8 #[.slice A t.length c, .int .i64 i] w fun e w' => e = .returned (.bool true) ∧ Below w.heap.size w w' := by
  by_cases hi : i < 0 ∨ t.length ≤ i
  · exact files_out t i hi A c w ha hst ht
  · cases hF : fewT t with
    | false => exact files_no t i (.inl hF) A c w ha hst ht
    | true =>
      cases hM : mayT t with
      | false => exact files_no t i (.inr hM) A c w ha hst ht
      | true =>
        obtain ⟨k, rfl⟩ : ∃ k : Nat, i = k := ⟨i.toNat, by omega⟩
        obtain ⟨x, hx⟩ : ∃ n, t[k]? = some n := ⟨_, List.getElem?_eq_getElem (by omega)⟩
        by_cases hk : x.kind = 49
        · obtain ⟨j, m, hj, hm, -, hmk, hf⟩ := may_hard hM hx hk
          exact files_in1 t k (by omega) x hx hF hM hk j m hj hm hmk hf A c w ha hst ht
        · exact files_in0 t k (by omega) x hx hF hM hk A c w ha hst ht
end Go.Proofs.Ytcgihjgfocohmaa.Tree
