/-
  Package parse's Same: the code's contract. No statement is proved here.
  Package parse's code: its four contracts, and entry's Put; and the walks over any slices of bytes. No statement is proved here.
-/
import Derived.Test.YtejgnhicgeiceaaEvq
import Derived.Test.YtejgnhicgeiceaaParseMayC
import Derived.BigQuiet
import Derived.Test.YtejgnhicgeiceaaParseT
import Derived.Test.YtejgnhicgeiceaaParseI
namespace Go.Proofs.Ytejgnhicgeiceaa.Parse
open Go.RowKit Go.Proofs.Ytejgnhicgeiceaa.Str Go.Proofs.Ytejgnhicgeiceaa.Base Go.Proofs.Ytejgnhicgeiceaa.Node

theorem take_nxt {xs ys : List Evt} {k : Nat} {x y : Evt} (hx : xs[k]? = some x) (hy : ys[k]? = some y) (h : xs.take k = ys.take k) : xs.take (k + 1) = ys.take (k + 1) ↔ x = y := by
  rw [List.take_add_one, List.take_add_one, hx, hy, h]
  simp
set_option maxRecDepth 100000 in
set_option maxHeartbeats 2000000 in
theorem equal_e (xs ys : List Evt) (m n : Nat) (hm : xs.length = m) (hn : ys.length = n) (hm3 : m ≤ 3000) (hn3 : n ≤ 3000) (A B : Option Addr) (c d : Nat) (w : World) (ha : RdE w A c xs) (hb : RdE w B d ys) :
    Calls Try.prog 41 #[.slice A m c, .slice B n d] w fun e w' => e = .returned (.bool (decide (xs = ys))) ∧ Stp w w' := by
  have h0 := Stp.refl w
  by_cases hlen : m = n
  · subst hlen
    have HM := Lib.hid hm
    have HN := Lib.hid hn
    clear hm hn
    go_enter Try.func41, Try.ntmps41
    go_wp2_with fail
    go_loopw [13] (fun i wr => ∃ k : Nat, k ≤ m ∧ i = .int .i64 k ∧ Stp w wr ∧ Hid (xs.take k = ys.take k)) (fun i _ => m - (intOf i).toNat)
    case atStart => exact ⟨0, by omega, rfl, Stp.refl w, Lib.hid (by simp)⟩
    case round =>
      obtain ⟨k, hk, rfl, hst, Ht⟩ := hrel
      by_cases hlt : k < m
      · obtain ⟨x, hx⟩ : ∃ n, xs[k]? = some n := ⟨_, List.getElem?_eq_getElem (by rw [HM.out]; exact hlt)⟩
        obtain ⟨y, hy⟩ : ∃ n, ys[k]? = some n := ⟨_, List.getElem?_eq_getElem (by rw [HN.out]; exact hlt)⟩
        have ha1 := ha.keep hst
        have hb1 := hb.keep hst
        obtain ⟨b1, o1, rfl, -, q0, q1, q2, q3, q4, q5, q6, q7, q8, q9⟩ := ha1.cells hx
        obtain ⟨b2, o2, rfl, -, r0, r1, r2, r3, r4, r5, r6, r7, r8, r9⟩ := hb1.cells hy
        have Hx := Lib.hid hx
        have Hy := Lib.hid hy
        have heq := eq_evs x y
        have hng := eq_evs_free
        clear hx hy ha1 hb1
        by_cases e : x = y
        · rw [decide_eq_true e] at heq
          have Hnext := Lib.hid ((take_nxt Hx.out Hy.out Ht.out).2 e)
          clear e
          go_wp2_with fail
          go_quiet (fail)
          go_wp2_with fail
          go_roundw
          case rel => exact ⟨k + 1, by omega, by go_num, hst.drewN _, Hnext⟩
          case measure => simp [intOf]; omega
        · rw [decide_eq_false e] at heq
          have Hne := Lib.hid e
          clear e
          go_wp2_with fail
          go_quiet (fail)
          go_wp2_with fail
          go_ret
          refine ⟨congrArg (fun b => Ending.returned (.bool b)) ?_, hst.drewN _⟩
          symm
          rw [decide_eq_false_iff_not]
          rintro rfl
          have h1 := Hx.out
          rw [Hy.out] at h1
          exact Hne.out (Option.some.inj h1).symm
      · obtain rfl : k = m := by omega
        have ht := Ht.out
        rw [List.take_of_length_le (by rw [HM.out]; exact Nat.le_refl _), List.take_of_length_le (by rw [HN.out]; exact Nat.le_refl _)] at ht
        have Ht2 := Lib.hid ht
        clear ht
        go_wp2_with fail
        go_ret
        exact ⟨congrArg (fun b => Ending.returned (.bool b)) (decide_eq_true Ht2.out).symm, hst⟩
  · have hne : ((m : Int) != (n : Int)) = true := by rw [bne_iff_ne]; omega
    have HD := Lib.hid (show decide (xs = ys) = false from decide_eq_false (fun h => hlen (by rw [← hm, ← hn, h])))
    clear hm hn hlen
    go_enter Try.func41, Try.ntmps41
    go_wp2_with fail
    go_ret
    exact ⟨congrArg (fun b => Ending.returned (.bool b)) HD.out.symm, h0⟩
set_option maxRecDepth 100000 in
theorem same_c (xs ys : List Evt) (m n : Nat) (hm : xs.length = m) (hn : ys.length = n) (hm3 : m ≤ 3000) (hn3 : n ≤ 3000) (A B : Option Addr) (c d : Nat) (w : World) (ha : RdE w A c xs) (hb : RdE w B d ys) :
    Calls Try.prog 21 #[.slice A m c, .slice B n d] w fun e w' => e = .returned (.bool (decide (xs = ys))) ∧ Stp w w' := by
  have h0 := Stp.refl w
  obtain ⟨x, hx⟩ : ∃ x, decide (xs = ys) = x := ⟨_, rfl⟩
  have HX := Lib.hid hx
  have Ha := Lib.hid ha
  have Hb := Lib.hid hb
  have HM := Lib.hid hm
  have HN := Lib.hid hn
  rw [hx]
  clear hx ha hb hm hn
  go_enter Try.func21, Try.ntmps21
  go_wp2_with (go_at_call 41; (refine (equal_e xs ys m n HM.out HN.out hm3 hn3 A B c d _ Ha.out Hb.out).mono ?_); rintro e w1 ⟨rfl, hs⟩; rw [HX.out]; replace h0 := Stp.trans h0 hs; clear hs)
  go_ret
  exact ⟨rfl, h0⟩
end Go.Proofs.Ytejgnhicgeiceaa.Parse

namespace Go.Proofs.Ytejgnhicgeiceaa.Parse
open Go.RowKit Go.Proofs.Ytejgnhicgeiceaa.Str Go.Proofs.Ytejgnhicgeiceaa.Base Go.Proofs.Ytejgnhicgeiceaa.Node

theorem parseI : ParseI where
  may := fun s v hv hs w => cmay_s s v hv hs w
  step := fun s v hv hs b n hn _ t y k e0 hst hk A c w ha => by
    subst hn hk
    exact step_cv s v hv hs b t y e0 hst A c w ha
  run := fun s v hv hs l n hn hn1 _ t y k m e0 hr hk A c w ha => by
    subst hk hv
    refine (run_c s hs l n hn hn1 (t, y, m, e0) hr A c w ha).mono ?_
    rintro e w' ⟨v, rfl, ⟨B, d, rfl, hE⟩, hS⟩
    exact ⟨B, d, rfl, hE, hS⟩
  same := fun xs ys m n hm hn hm3 hn3 A B c d w ha hb => same_c xs ys m n hm hn hm3 hn3 A B c d w ha hb
end Go.Proofs.Ytejgnhicgeiceaa.Parse

