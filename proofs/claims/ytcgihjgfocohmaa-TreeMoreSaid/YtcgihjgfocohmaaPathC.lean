/-
  Contracts of package path: what each of its calls answers, and that it writes nothing that was there: no statement is proved here.
-/
import Derived.Test.YtcgihjgfocohmaaPathIt
namespace Go.Proofs.Ytcgihjgfocohmaa.Path
open Go.RowKit Go.Shelf Go.Proofs.Ytcgihjgfocohmaa.Base Go.Proofs.Ytcgihjgfocohmaa.PathM

theorem below_drewN {B : Nat} {a w : World} (h : Below B a w) (n : Nat) : Below B a (w.drewN n) := ⟨h.os, h.tape, h.output, h.size, h.block⟩

/-- The strings of texts, as cells. -/
def ss (xs : List L) : List Value := xs.map fun x => .string ⟨x.toArray⟩
theorem ss_length (xs : List L) : (ss xs).length = xs.length := by simp [ss]
theorem ss_append (xs ys : List L) : ss (xs ++ ys) = ss xs ++ ss ys := by simp [ss]
theorem ss_at {xs : List L} {j : Nat} (hj : j < xs.length) : (ss xs)[j]? = some (.string ⟨xs[j].toArray⟩) := by simp [ss, hj]
theorem str_info : (Try.prog.info? 9).map (fun i => (i.zero, i.size, i.bytes)) = some (some (.string ⟨#[]⟩), 1, 16) := by kernel_rfl

theorem okSize {p : L} (h : mayB p = true) : p.length ≤ 300 := (mayB_iff.1 h).2.1

set_option maxRecDepth 100000 in
set_option maxHeartbeats 1000000 in
theorem may_any (p : L) (w : World) (hp : p.length ≤ 9223372036854775807) :
    Calls Try.prog 31 #[.string ⟨p.toArray⟩] w fun e w' => e = .returned (.bool (mayB p)) ∧ Below w.heap.size w w' := by
  by_cases h1 : p.length < 1
  · have hm : mayB p = false := by simp [mayB]; omega
    rw [hm]
    have g1 : decide ((p.length : Int) < 1) = true := decide_eq_true (by omega)
    clear hm
    go_enter Try.func31, Try.ntmps31
    go_wp2_with fail
    go_ret
    exact ⟨rfl, Below.refl _ _⟩
  · have g1 : decide ((p.length : Int) < 1) = false := by simp; omega
    by_cases h2 : 300 < p.length
    · have hm : mayB p = false := by simp [mayB]; omega
      rw [hm]
      have g2 : decide ((300 : Int) < (p.length : Int)) = true := by simp; omega
      clear hm
      go_enter Try.func31, Try.ntmps31
      go_wp2_with fail
      go_ret
      exact ⟨rfl, Below.refl _ _⟩
    · have g2 : decide ((300 : Int) < (p.length : Int)) = false := by simp; omega
      by_cases h3 : (0 : UInt8) ∈ p
      · have hm : mayB p = false := by simp [mayB, h3]
        rw [hm]
        have hi : 0 ≤ Lib.indexByte p 0 := by
          have a := Lib.indexByte_ge p 0
          have b := mt indexByte_neg.1 (fun h => h h3)
          omega
        obtain ⟨q, hq⟩ : ∃ q, Lib.indexByte p (Int.toNat 0).toUInt8 = q := ⟨_, rfl⟩
        have hq0 : 0 ≤ q := by rw [← hq]; exact hi
        have Hq := Lib.hid hq
        clear hm hi hq h3
        go_enter Try.func31, Try.ntmps31
        go_wp2_with fail
        refine (indexByte_l p 0 _).mono ?_
        rintro e w' ⟨rfl, rfl⟩
        rw [Hq.out]
        go_wp2_with fail
        go_ret
        exact ⟨rfl, Below.refl _ _⟩
      · have hm : mayB p = (pcs p).all okP := by
          have e1 : decide (1 ≤ p.length) = true := by simp; omega
          have e2 : decide (p.length ≤ 300) = true := by simp; omega
          have e3 : p.contains 0 = false := by simpa using h3
          rw [mayB, e1, e2, e3]
          rfl
        rw [hm]
        have hi : Lib.indexByte p (Int.toNat 0).toUInt8 = -1 := indexByte_neg.2 h3
        have Hi := Lib.hid hi
        obtain ⟨r, hr⟩ : ∃ r, (pcs p).all okP = r := ⟨_, rfl⟩
        rw [hr]
        have Hr := Lib.hid hr
        clear hm hi h3 hr
        go_enter Try.func31, Try.ntmps31
        go_wp2_with fail
        refine (indexByte_l p 0 _).mono ?_
        rintro e w' ⟨rfl, rfl⟩
        rw [Hi.out]
        go_wp2_with fail
        refine (parts_any _ _).mono ?_
        rintro e w' ⟨rfl, rfl⟩
        go_wp2_with fail
        refine (all_any p _ _ hp (by simp) (Boxed.new w _ _).cell).mono ?_
        rintro e w2 ⟨rfl, hb⟩
        rw [Hr.out]
        have Hb := Lib.hid (((Below.refl w.heap.size w).alloc (Nat.le_refl _) _).trans (hb.mono (by simp)))
        clear hb
        go_wp2_with fail
        go_ret
        exact ⟨rfl, Hb.out⟩

theorem rd_of_row {w : World} {lo n : Nat} {e : TypeId} {v : Value} {xs : List Value} (h : w.ownsRow lo e 1 v n xs) : Rd w w.heap.size v xs := by
  obtain ⟨hl, ⟨rfl, rfl⟩ | ⟨g, cap, cur, rfl, hb, hg, hn, hcap, hs, ht⟩⟩ := h
  · obtain rfl : xs = [] := List.eq_nil_of_length_eq_zero (by simpa using hl)
    exact Rd.nil _ _
  · simp only [Nat.mul_one] at hl ht
    refine ⟨_, cap, by rw [hl], by omega, fun _ => ⟨g, 0, rfl, lt_of_block hg, fun j u hj => ?_⟩⟩
    rw [Nat.zero_add, cell_of_row w g j cur e _ hg]
    rw [← ht, List.getElem?_take] at hj
    split at hj
    · simpa using hj
    · cases hj

attribute [local go_sem] Oper.semAt_some in
/-! ### pieces of texts -/
theorem cut_h (p : L) (k : Nat) (h : k ≤ p.length) (w : World) : (Instr.slice 9 (.string ⟨p.toArray⟩) none (some (.int .i64 (k : Int))) none).run Try.prog w = .ok (.string ⟨(p.take k).toArray⟩) w := by
  rw [run_slice_string_h (P := Try.prog) w 9 _ Try.underlying9 .i64 k (by omega) (by show (k : Int) ≤ (p.toArray.size : Int); simp; omega)]
  have e := ba_eq (extract_take ⟨p.toArray⟩ k)
  rw [Int.toNat_natCast, e]
theorem cut_l (p : L) (k : Nat) (h : k ≤ p.length) (w : World) : (Instr.slice 9 (.string ⟨p.toArray⟩) (some (.int .i64 (k : Int))) none none).run Try.prog w = .ok (.string ⟨(p.drop k).toArray⟩) w := by
  rw [run_slice_string_l (P := Try.prog) w 9 _ Try.underlying9 .i64 k (by omega) (by show (k : Int) ≤ (p.toArray.size : Int); simp; omega)]
  have e := ba_eq (extract_drop ⟨p.toArray⟩ k)
  rw [Int.toNat_natCast, e]
theorem add_ll (a b : L) (h : a.length + b.length ≤ 9223372036854775807) (w : World) : (Op.stringOp .add ⟨a.toArray⟩ ⟨b.toArray⟩).run Try.prog w = .ok (.string ⟨(a ++ b).toArray⟩) w := by
  rw [run_string_add_sum (P := Try.prog) w _ _ (by show a.toArray.size + b.toArray.size ≤ _; simpa using h)]
  have e : (⟨a.toArray⟩ ++ ⟨b.toArray⟩ : ByteArray) = ⟨(a ++ b).toArray⟩ := ba_eq (by rw [ByteArray.data_append]; simp)
  rw [e]

set_option maxRecDepth 100000 in
theorem parent_any (p : L) (w : World) (hp : p.length ≤ 9223372036854775807) :
    Calls Try.prog 23 #[.string ⟨p.toArray⟩] w fun e w' => e = .returned (.tuple #[.string ⟨(parV p).toArray⟩, .bool (parB p)]) ∧ Below w.heap.size w w' := by
  match hl : lastCut p with
  | none =>
    have e1 : parV p = [] := by unfold parV; rw [hl]; split <;> rfl
    have e2 : parB p = false := by unfold parB; rw [hl]; simp
    have Hi := Lib.hid (lastI_none hl)
    rw [e1, e2]
    clear e1 e2 hl
    go_enter Try.func23, Try.ntmps23
    go_wp2_with fail
    refine (last_l p _ hp).mono ?_
    rintro e w' ⟨rfl, rfl⟩
    rw [Hi.out]
    go_wp2_with fail
    go_ret2
    exact ⟨rfl, Below.refl _ _⟩
  | some (a, b) =>
    have hlen : a.length ≤ p.length := by
      have h := congrArg List.length (lastCut_some hl).1
      rw [List.length_append] at h
      omega
    have Hi := Lib.hid (lastI_some hl)
    cases hm : mayB p
    · have e1 : parV p = [] := by unfold parV; rw [if_neg (by simp [hm])]
      have e2 : parB p = false := by unfold parB; rw [hm]; rfl
      rw [e1, e2]
      have Hm := Lib.hid hm
      clear e1 e2 hl hm
      go_enter Try.func23, Try.ntmps23
      go_wp2_with fail
      refine (last_l p _ hp).mono ?_
      rintro e w' ⟨rfl, rfl⟩
      rw [Hi.out]
      go_wp2_with fail
      refine (may_any p _ hp).mono ?_
      rintro e w1 ⟨rfl, hb1⟩
      rw [Hm.out]
      have Hb1 := Lib.hid hb1
      clear hb1
      go_wp2_with fail
      go_ret2
      exact ⟨rfl, Hb1.out⟩
    · have e1 : parV p = a := by unfold parV; rw [if_pos hm, hl]
      have e2 : parB p = true := by unfold parB; rw [hm, hl]; rfl
      rw [e1, e2]
      have Hm := Lib.hid hm
      have hcut := cut_h p a.length hlen
      have e3 : p.take a.length = a := by conv => lhs; rw [(lastCut_some hl).1]
                                          exact List.take_left
      rw [e3] at hcut
      clear e1 e2 hl hm e3
      go_enter Try.func23, Try.ntmps23
      go_wp2_with fail
      refine (last_l p _ hp).mono ?_
      rintro e w' ⟨rfl, rfl⟩
      rw [Hi.out]
      go_wp2_with fail
      refine (may_any p _ hp).mono ?_
      rintro e w1 ⟨rfl, hb1⟩
      rw [Hm.out]
      have Hb1 := Lib.hid hb1
      clear hb1
      go_wp2_with fail
      go_ret2
      exact ⟨rfl, Hb1.out⟩

set_option maxRecDepth 100000 in
theorem below_any (p q : L) (w : World) (hp : p.length ≤ 9223372036854775807) (hq : q.length ≤ 9223372036854775807) :
    Calls Try.prog 22 #[.string ⟨p.toArray⟩, .string ⟨q.toArray⟩] w fun e w' => e = .returned (.bool (belowB p q)) ∧ Below w.heap.size w w' := by
  cases hm : mayB p
  · have e : belowB p q = false := by unfold belowB; rw [hm]; rfl
    rw [e]
    have Hm := Lib.hid hm
    clear hm e
    go_enter Try.func22, Try.ntmps22
    go_wp2_with fail
    refine (may_any p _ hp).mono ?_
    rintro e w1 ⟨rfl, hb1⟩
    rw [Hm.out]
    have Hb1 := Lib.hid hb1
    clear hb1
    go_wp2_with fail
    go_ret
    exact ⟨rfl, Hb1.out⟩
  · cases hn : mayB q
    · have e : belowB p q = false := by unfold belowB; rw [hm, hn]; rfl
      rw [e]
      have Hm := Lib.hid hm
      have Hn := Lib.hid hn
      clear hm hn e
      go_enter Try.func22, Try.ntmps22
      go_wp2_with fail
      refine (may_any p _ hp).mono ?_
      rintro e w1 ⟨rfl, hb1⟩
      rw [Hm.out]
      have Hb1 := Lib.hid hb1
      clear hb1
      go_wp2_with fail
      refine (may_any q _ hq).mono ?_
      rintro e w2 ⟨rfl, hb2⟩
      rw [Hn.out]
      have Hb2 := Lib.hid (Hb1.out.trans (hb2.mono Hb1.out.size))
      clear hb2
      go_wp2_with fail
      go_ret
      exact ⟨rfl, Hb2.out⟩
    · have e : belowB p q = prefB (q ++ [47]) p := by unfold belowB; rw [hm, hn]; rfl
      rw [e]
      have hadd := add_ll q [47] (by have := okSize hn; simp; omega)
      have Hm := Lib.hid hm
      have Hn := Lib.hid hn
      clear hm hn e
      obtain ⟨r, hr⟩ : ∃ r, prefB (q ++ [47]) p = r := ⟨_, rfl⟩
      rw [hr]
      have Hr := Lib.hid hr
      clear hr
      go_enter Try.func22, Try.ntmps22
      go_wp2_with fail
      refine (may_any p _ hp).mono ?_
      rintro e w1 ⟨rfl, hb1⟩
      rw [Hm.out]
      have Hb1 := Lib.hid hb1
      clear hb1
      go_wp2_with fail
      refine (may_any q _ hq).mono ?_
      rintro e w2 ⟨rfl, hb2⟩
      rw [Hn.out]
      have Hb2 := Lib.hid (Hb1.out.trans (hb2.mono Hb1.out.size))
      clear hb2
      go_wp2_with fail
      refine (hasPrefix_l _ _ _).mono ?_
      rintro e w3 ⟨rfl, rfl⟩
      rw [Hr.out]
      go_wp2_with fail
      go_ret
      exact ⟨rfl, Hb2.out⟩

/-- The first slash behind which there is no more than a name. -/
theorem least_cut (p : L) (h : 101 ≤ p.length) : ({ data := List.toArray p } : ByteArray).extract (p.length - 100 - 1) p.length = ⟨(p.drop (p.length - 101)).toArray⟩ := by
  have e := ba_eq (extract_drop ⟨p.toArray⟩ (p.length - 101))
  rw [← e, show p.length - 100 - 1 = p.length - 101 by omega]
  simp [ByteArray.size]

theorem splV_none {p : L} (h : splitO p = none) : splV p = ([], []) ∧ splB p = false := by unfold splV splB; rw [h]; exact ⟨rfl, rfl⟩
theorem splV_some {p a b : L} (h : splitO p = some (a, b)) : splV p = (a, b) ∧ splB p = true := by unfold splV splB; rw [h]; exact ⟨rfl, rfl⟩

end Go.Proofs.Ytcgihjgfocohmaa.Path
