/-
  The walk of StreamMany: no statement is proved here.
-/
import Derived.Test.YtcgdeeinnfkgkaaStreamI
import Derived.Test.YtcgdeeinnfkgkaaEntryK2
import Derived.Deep.RegionHeld3
namespace Go.Proofs.Ytcgdeeinnfkgkaa.Stream
open Go.RowKit Go.Proofs.Ytcgdeeinnfkgkaa.Str Go.Proofs.Ytcgdeeinnfkgkaa.Base Go.Proofs.Ytcgdeeinnfkgkaa.Node Go.Proofs.Ytcgdeeinnfkgkaa.Head Go.Proofs.Ytcgdeeinnfkgkaa.Long Go.Proofs.Ytcgdeeinnfkgkaa.Entry
open Go.Proofs.Ytcgdeeinnfkgkaa.Tree (oneB mayT fewT)

theorem fewm {t : List Nd} (h : fewT t = true) : t.length ≤ 30 := (Tree.fewT_iff.1 h).1
theorem starts_len {t : List Nd} (h : mayT t = true) : (startsS t).length = t.length + 1 := by rw [startsS_yes h, List.length_map, List.length_range]
theorem starts_at {t : List Nd} (h : mayT t = true) {j : Nat} (hj : j ≤ t.length) : (startsS t)[j]? = some (startN t j) := by
  rw [startsS_yes h, List.getElem?_map, List.getElem?_range (by omega)]
  rfl
theorem start400 {t : List Nd} (h : mayT t = true) (k : Nat) : startN t k ≤ 400 := by
  have h1 := start_le t k
  have h2 := blocks_le t
  have h3 := may_len h
  omega
theorem emany_n (n : Nd) (v : Value) (e : v = nv n) (hn : SmallN n) (w : World) :
    Calls Try.prog 20 #[v] w fun e w' => e = .returned (.int .i64 ((putE n).length : Int)) ∧ Stp w w' := by
  subst e
  exact emany_s n hn w

set_option maxRecDepth 100000 in
set_option maxHeartbeats 4000000 in
theorem smany_no (I : StreamI) (t : List Nd) (k : Int) (A : Option Addr) (c : Nat) (w : World) (ha : RdN w A c t) (hst : ∀ n ∈ t, SmallN n) (ht : t.length < 9223372036854775808)
    (hno : fewT t = false ∨ mayT t = false) :
    Calls Try.prog 6 #[.slice A t.length c, .int .i64 k] w fun e w' => e = .returned (.bool true) ∧ Stp w w' := by
  have h0 := Stp.refl w
  have Ha := Lib.hid ha
  have Hs := Lib.hid hst
  have Ht := Lib.hid ht
  have HI := Lib.hid I
  clear ha hst ht I
  cases hF : fewT t
  · have HF := Lib.hid hF
    clear hF hno
    go_enter Try.func6, Try.ntmps6
    go_wp2_with (first
      | (go_at_call 8; (with_reducible refine (awake_s HI.out _).mono ?_); rintro e w1 ⟨rfl, hs⟩; replace Ha := Lib.hid (Ha.out.keep hs); replace h0 := Stp.trans h0 hs; clear hs)
      | (go_at_call 9; (with_reducible refine (Tree.fewt_s t A c _ Ha.out Ht.out).mono ?_); rintro e w2 ⟨rfl, hs⟩; rw [HF.out]; replace h0 := Stp.trans h0 hs; clear hs))
    go_ret
    exact ⟨rfl, h0⟩
  · have hm : mayT t = false := by
      rcases hno with h | h
      · rw [hF] at h; cases h
      · exact h
    have e1 := allS_no hm
    have e2 := startsS_no hm
    have HF := Lib.hid hF
    have Hm := Lib.hid hm
    have E1 := Lib.hid e1
    have E2 := Lib.hid e2
    clear hF hm hno e1 e2
    go_enter Try.func6, Try.ntmps6
    go_wp2_with (first
      | (go_at_call 8; (with_reducible refine (awake_s HI.out _).mono ?_); rintro e w1 ⟨rfl, hs⟩; replace Ha := Lib.hid (Ha.out.keep hs); replace h0 := Stp.trans h0 hs; clear hs)
      | (go_at_call 9; (with_reducible refine (Tree.fewt_s t A c _ Ha.out Ht.out).mono ?_); rintro e w2 ⟨rfl, hs⟩; rw [HF.out]; replace Ha := Lib.hid (Ha.out.keep hs); replace h0 := Stp.trans h0 hs; clear hs)
      | (go_at_call 12; (with_reducible refine (HI.out.starts t _ rfl (by have := fewm HF.out; omega) Hs.out _ _ _ Ha.out).mono ?_); rintro e w3 ⟨B, d, rfl, -, hs⟩; rw [E2.out]; replace Ha := Lib.hid (Ha.out.keep hs); replace h0 := Stp.trans h0 hs; clear hs)
      | (go_at_call 10; (with_reducible refine (Tree.tmay_s t A c _ Ha.out (by have := fewm HF.out; omega) Hs.out).mono ?_); rintro e w4 ⟨rfl, hs⟩; rw [Hm.out]; replace Ha := Lib.hid (Ha.out.keep hs); replace h0 := Stp.trans h0 hs; clear hs)
      | (go_at_call 19; (with_reducible refine (HI.out.many t _ rfl (by have := fewm HF.out; omega) Hs.out _ _ _ Ha.out).mono ?_); rintro e w5 ⟨rfl, hs⟩; rw [E1.out]; replace h0 := Stp.trans h0 hs; clear hs))
    go_ret
    exact ⟨rfl, h0⟩

set_option maxRecDepth 100000 in
set_option maxHeartbeats 8000000 in
theorem smany_in (I : StreamI) (t : List Nd) (k : Int) (A : Option Addr) (c : Nat) (w : World) (ha : RdN w A c t) (hst : ∀ n ∈ t, SmallN n) (ht : t.length < 9223372036854775808)
    (hF : fewT t = true) (hm : mayT t = true) :
    Calls Try.prog 6 #[.slice A t.length c, .int .i64 k] w fun e w' => e = .returned (.bool true) ∧ Stp w w' := by
  have h0 := Stp.refl w
  have h20 := may_len hm
  obtain ⟨Q, hQ⟩ : ∃ x, startsS t = x := ⟨_, rfl⟩
  obtain ⟨q, hq⟩ : ∃ x, Q.length = x := ⟨_, rfl⟩
  have hql : q = t.length + 1 := by rw [← hq, ← hQ, starts_len hm]
  have hQat : ∀ j, j ≤ t.length → Q[j]? = some (startN t j) := fun j hj => by rw [← hQ]; exact starts_at hm hj
  obtain ⟨L, hL⟩ : ∃ x, (allS t).length = x := ⟨_, rfl⟩
  have hLs : L = startN t t.length + 2 := by rw [← hL, all_length hm]
  have Ha := Lib.hid ha
  have Hs := Lib.hid hst
  have Ht := Lib.hid ht
  have HI := Lib.hid I
  have HF := Lib.hid hF
  have Hm := Lib.hid hm
  have HQ := Lib.hid hQ
  have Hq := Lib.hid hq
  have Hql := Lib.hid hql
  have Hat := Lib.hid hQat
  have HL := Lib.hid hL
  have HLs := Lib.hid hLs
  have H4 := Lib.hid (start400 hm)
  clear ha hst ht I hF hm hQ hq hql hQat hL hLs
  go_enter Try.func6, Try.ntmps6
  go_wp2_with (first
    | (go_at_call 8; (with_reducible refine (awake_s HI.out _).mono ?_); rintro e w1 ⟨rfl, hs⟩; replace Ha := Lib.hid (Ha.out.keep hs); replace h0 := Stp.trans h0 hs; clear hs)
    | (go_at_call 9; (with_reducible refine (Tree.fewt_s t A c _ Ha.out Ht.out).mono ?_); rintro e w2 ⟨rfl, hs⟩; rw [HF.out]; replace Ha := Lib.hid (Ha.out.keep hs); replace h0 := Stp.trans h0 hs; clear hs)
    | (go_at_call 12; (with_reducible refine (HI.out.starts t _ rfl (by have := fewm HF.out; omega) Hs.out _ _ _ Ha.out).mono ?_); rintro e w3 ⟨B, d, rfl, hr, hs⟩; rw [HQ.out] at hr; rw [HQ.out, Hq.out]; have Hr := Lib.hid hr; replace Ha := Lib.hid (Ha.out.keep hs); replace h0 := Stp.trans h0 hs; clear hs hr)
    | (go_at_call 10; (with_reducible refine (Tree.tmay_s t A c _ Ha.out (by have := fewm HF.out; omega) Hs.out).mono ?_); rintro e w4 ⟨rfl, hs⟩; rw [Hm.out]; replace Ha := Lib.hid (Ha.out.keep hs); replace Hr := Lib.hid (RdA.keep Hr.out hs); replace h0 := Stp.trans h0 hs; clear hs))
  go_loopw [8, 9] (fun v x wr => ∃ i : Nat, i ≤ t.length ∧ x = .int .i64 (i : Int) ∧ v = .int .i64 (startN t i : Int) ∧ Hid (Stp w4 wr)) (fun _ x _ => t.length - (intOf x).toNat)
  case atStart => exact ⟨0, by omega, rfl, by rw [start_zero]; rfl, Lib.hid (Stp.refl w4)⟩
  case round =>
    obtain ⟨i, hi, rfl, rfl, H1⟩ := hrel
    obtain ⟨S, hS⟩ : ∃ S : Int, (startN t i : Int) = S := ⟨_, rfl⟩
    have hS4 := H4.out i
    rw [hS]
    by_cases hlt : i < t.length
    · obtain ⟨n, hn⟩ : ∃ n, t[i]? = some n := ⟨_, List.getElem?_eq_getElem hlt⟩
      obtain ⟨b, o, rfl, -, q0, q1, q2, q3, q4, q5, q6, q7⟩ := (Ha.out.keep H1.out).cells hn
      have Hsn := Lib.hid (Hs.out n (List.mem_of_getElem? hn))
      obtain ⟨M, hM⟩ : ∃ M : Int, ((putE n).length : Int) = M := ⟨_, rfl⟩
      obtain ⟨T, hT⟩ : ∃ T : Int, (startN t (i + 1) : Int) = T := ⟨_, rfl⟩
      have h5 := H4.out (i + 1)
      have h6 := start_step hn
      have hw : IntKind.i64.wrap (S + M) = T := by
        rw [IntKind.wrap_i64]
        omega
      have HM := Lib.hid hM
      have HT := Lib.hid hT
      have HS := Lib.hid hS
      by_cases hik : (i : Int) = k
      · have hki : k.toNat = i := by omega
        have gk : ((i : Int) == k) = true := by rw [beq_iff_eq]; exact hik
        have gq : decide ((q : Int) ≤ k) = false := decide_eq_false (by have := Hql.out; omega)
        have hkq : k < (q : Int) := by have := Hql.out; omega
        have hk0 : 0 ≤ k := by omega
        obtain ⟨b2, o2, rfl, c0⟩ := RdI.cell (RdA.keep Hr.out H1.out) (j := k.toNat) (x := startN t i) (by rw [hki]; exact Hat.out i hi)
        rw [hS] at c0
        clear hS hM hT h5 h6 hn hik hki hS4
        go_wp2_with (go_at_call 20; (with_reducible refine (emany_n n _ rfl Hsn.out _).mono ?_); rintro e w5 ⟨rfl, hs⟩; rw [HM.out]; replace H1 := Lib.hid (Stp.trans H1.out hs); clear hs q0 q1 q2 q3 q4 q5 q6 q7 c0)
        go_roundw
        case rel => exact ⟨i + 1, by omega, by go_num, by rw [HT.out], H1⟩
        case measure => simp [intOf]; omega
      · have gk : ((i : Int) == k) = false := by rw [beq_eq_false_iff_ne]; exact hik
        clear hS hM hT h5 h6 hn hik hS4
        go_wp2_with (go_at_call 20; (with_reducible refine (emany_n n _ rfl Hsn.out _).mono ?_); rintro e w5 ⟨rfl, hs⟩; rw [HM.out]; replace H1 := Lib.hid (Stp.trans H1.out hs); clear hs q0 q1 q2 q3 q4 q5 q6 q7)
        go_roundw
        case rel => exact ⟨i + 1, by omega, by go_num, by rw [HT.out], H1⟩
        case measure => simp [intOf]; omega
    · obtain rfl : i = t.length := by omega
      have hw2 : IntKind.i64.wrap (S + 2) = (L : Int) := by
        have := HLs.out
        rw [IntKind.wrap_i64]
        omega
      have hw3 : IntKind.i64.wrap ((t.length : Int) + 1) = (q : Int) := by
        have := Hql.out
        rw [IntKind.wrap_i64]
        omega
      clear hS hS4
      go_wp2_with (go_at_call 19; (with_reducible refine (HI.out.many t _ rfl (by omega) Hs.out _ _ _ (Ha.out.keep H1.out)).mono ?_); rintro e w6 ⟨rfl, hs⟩; rw [HL.out]; replace H1 := Lib.hid (Stp.trans H1.out hs); clear hs)
      go_ret
      refine ⟨ret_bool ?_, Stp.trans h0 H1.out⟩
      first | rfl | simp
theorem smany_s (I : StreamI) (t : List Nd) (k : Int) (A : Option Addr) (c : Nat) (w : World) (ha : RdN w A c t) (hst : ∀ n ∈ t, SmallN n) (ht : t.length < 9223372036854775808) :
    Calls Try.prog 6 #[.slice A t.length c, .int .i64 k] w fun e w' => e = .returned (.bool true) ∧ Below w.heap.size w w' := by
  cases hF : fewT t with
  | false => exact smany_no I t k A c w ha hst ht (.inl hF)
  | true =>
    cases hm : mayT t with
    | false => exact smany_no I t k A c w ha hst ht (.inr hm)
    | true => exact smany_in I t k A c w ha hst ht hF hm
end Go.Proofs.Ytcgdeeinnfkgkaa.Stream
