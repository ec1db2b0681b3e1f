/-
  Contracts of package path: what each of its calls answers, and that it writes nothing that was there: no statement is proved here.
-/
import Derived.Test.YtleoiejkipobbaaPathIt
namespace Go.Proofs.Ytleoiejkipobbaa.Path
open Go.RowKit Go.Shelf Go.Proofs.Ytleoiejkipobbaa.Base Go.Proofs.Ytleoiejkipobbaa.PathM

theorem below_drewN {B : Nat} {a w : World} (h : Below B a w) (n : Nat) : Below B a (w.drewN n) := ⟨h.os, h.tape, h.output, h.size, h.block⟩

/-- The strings of texts, as cells. -/
def ss (xs : List L) : List Value := xs.map fun x => .string ⟨x.toArray⟩
theorem ss_length (xs : List L) : (ss xs).length = xs.length := by simp [ss]
theorem ss_append (xs ys : List L) : ss (xs ++ ys) = ss xs ++ ss ys := by simp [ss]
theorem ss_at {xs : List L} {j : Nat} (hj : j < xs.length) : (ss xs)[j]? = some (.string ⟨xs[j].toArray⟩) := by simp [ss, hj]
theorem str_info : (Try.prog.info? 9).map (fun i => (i.zero, i.size, i.bytes)) = some (some (.string ⟨#[]⟩), 1, 16) := by kernel_rfl

theorem okSize {p : L} (h : mayB p = true) : p.length ≤ 300 := (mayB_iff.1 h).2.1

set_option maxRecDepth 100000 in
set_option maxHeartbeats 1000000 in
theorem may_any (p : L) (w : World) (hp : p.length ≤ 9223372036854775807) :
    Calls Try.prog 36 #[.string ⟨p.toArray⟩] w fun e w' => e = .returned (.bool (mayB p)) ∧ Below w.heap.size w w' := by
  by_cases h1 : p.length < 1
  · have hm : mayB p = false := by simp [mayB]; omega
    rw [hm]
    have g1 : decide ((p.length : Int) < 1) = true := decide_eq_true (by omega)
    clear hm
    go_enter Try.func36, Try.ntmps36
    go_wp2_with fail
    go_ret
    exact ⟨rfl, Below.refl _ _⟩
  · have g1 : decide ((p.length : Int) < 1) = false := by simp; omega
    by_cases h2 : 300 < p.length
    · have hm : mayB p = false := by simp [mayB]; omega
      rw [hm]
      have g2 : decide ((300 : Int) < (p.length : Int)) = true := by simp; omega
      clear hm
      go_enter Try.func36, Try.ntmps36
      go_wp2_with fail
      go_ret
      exact ⟨rfl, Below.refl _ _⟩
    · have g2 : decide ((300 : Int) < (p.length : Int)) = false := by simp; omega
      by_cases h3 : (0 : UInt8) ∈ p
      · have hm : mayB p = false := by simp [mayB, h3]
        rw [hm]
        have hi : 0 ≤ Lib.indexByte p 0 := by
          have a := Lib.indexByte_ge p 0
          have b := mt indexByte_neg.1 (fun h => h h3)
          omega
        obtain ⟨q, hq⟩ : ∃ q, Lib.indexByte p (Int.toNat 0).toUInt8 = q := ⟨_, rfl⟩
        have hq0 : 0 ≤ q := by rw [← hq]; exact hi
        have Hq := Lib.hid hq
        clear hm hi hq h3
        go_enter Try.func36, Try.ntmps36
        go_wp2_with fail
        refine (indexByte_l p 0 _).mono ?_
        rintro e w' ⟨rfl, rfl⟩
        rw [Hq.out]
        go_wp2_with fail
        go_ret
        exact ⟨rfl, Below.refl _ _⟩
      · have hm : mayB p = (pcs p).all okP := by
          have e1 : decide (1 ≤ p.length) = true := by simp; omega
          have e2 : decide (p.length ≤ 300) = true := by simp; omega
          have e3 : p.contains 0 = false := by simpa using h3
          rw [mayB, e1, e2, e3]
          rfl
        rw [hm]
        have hi : Lib.indexByte p (Int.toNat 0).toUInt8 = -1 := indexByte_neg.2 h3
        have Hi := Lib.hid hi
        obtain ⟨r, hr⟩ : ∃ r, (pcs p).all okP = r := ⟨_, rfl⟩
        rw [hr]
        have Hr := Lib.hid hr
        clear hm hi h3 hr
        go_enter Try.func36, Try.ntmps36
        go_wp2_with fail
        refine (indexByte_l p 0 _).mono ?_
        rintro e w' ⟨rfl, rfl⟩
        rw [Hi.out]
        go_wp2_with fail
        refine (parts_any _ _).mono ?_
        rintro e w' ⟨rfl, rfl⟩
        go_wp2_with fail
        refine (all_any p _ _ hp (by simp) (Boxed.new w _ _).cell).mono ?_
        rintro e w2 ⟨rfl, hb⟩
        rw [Hr.out]
        have Hb := Lib.hid (((Below.refl w.heap.size w).alloc (Nat.le_refl _) _).trans (hb.mono (by simp)))
        clear hb
        go_wp2_with fail
        go_ret
        exact ⟨rfl, Hb.out⟩

theorem rd_of_row {w : World} {lo n : Nat} {e : TypeId} {v : Value} {xs : List Value} (h : w.ownsRow lo e 1 v n xs) : Rd w w.heap.size v xs := by
  obtain ⟨hl, ⟨rfl, rfl⟩ | ⟨g, cap, cur, rfl, hb, hg, hn, hcap, hs, ht⟩⟩ := h
  · obtain rfl : xs = [] := List.eq_nil_of_length_eq_zero (by simpa using hl)
    exact Rd.nil _ _
  · simp only [Nat.mul_one] at hl ht
    refine ⟨_, cap, by rw [hl], by omega, fun _ => ⟨g, 0, rfl, lt_of_block hg, fun j u hj => ?_⟩⟩
    rw [Nat.zero_add, cell_of_row w g j cur e _ hg]
    rw [← ht, List.getElem?_take] at hj
    split at hj
    · simpa using hj
    · cases hj

attribute [local go_sem] Oper.semAt_some in
/-! ### pieces of texts -/
theorem cut_h (p : L) (k : Nat) (h : k ≤ p.length) (w : World) : (Instr.slice 9 (.string ⟨p.toArray⟩) none (some (.int .i64 (k : Int))) none).run Try.prog w = .ok (.string ⟨(p.take k).toArray⟩) w := by
  rw [run_slice_string_h (P := Try.prog) w 9 _ Try.underlying9 .i64 k (by omega) (by show (k : Int) ≤ (p.toArray.size : Int); simp; omega)]
  have e := ba_eq (extract_take ⟨p.toArray⟩ k)
  rw [Int.toNat_natCast, e]
theorem cut_l (p : L) (k : Nat) (h : k ≤ p.length) (w : World) : (Instr.slice 9 (.string ⟨p.toArray⟩) (some (.int .i64 (k : Int))) none none).run Try.prog w = .ok (.string ⟨(p.drop k).toArray⟩) w := by
  rw [run_slice_string_l (P := Try.prog) w 9 _ Try.underlying9 .i64 k (by omega) (by show (k : Int) ≤ (p.toArray.size : Int); simp; omega)]
  have e := ba_eq (extract_drop ⟨p.toArray⟩ k)
  rw [Int.toNat_natCast, e]
theorem add_ll (a b : L) (h : a.length + b.length ≤ 9223372036854775807) (w : World) : (Op.stringOp .add ⟨a.toArray⟩ ⟨b.toArray⟩).run Try.prog w = .ok (.string ⟨(a ++ b).toArray⟩) w := by
  rw [run_string_add_sum (P := Try.prog) w _ _ (by show a.toArray.size + b.toArray.size ≤ _; simpa using h)]
  have e : (⟨a.toArray⟩ ++ ⟨b.toArray⟩ : ByteArray) = ⟨(a ++ b).toArray⟩ := ba_eq (by rw [ByteArray.data_append]; simp)
  rw [e]

set_option maxRecDepth 100000 in
theorem join_any (a b : L) (w : World) (h : a.length + b.length + 1 ≤ 9223372036854775807) :
    Calls Try.prog 37 #[.string ⟨a.toArray⟩, .string ⟨b.toArray⟩] w fun e w' => e = .returned (.string ⟨(joinV a b).toArray⟩) ∧ w = w' := by
  cases ha : (a == [])
  · have e : joinV a b = a ++ 47 :: b := by simp at ha; simp [joinV, ha]
    rw [e]
    have h1 := add_ll a [47] (by simp; omega)
    have h2 := add_ll (a ++ [47]) b (by simp; omega)
    clear e
    go_enter Try.func37, Try.ntmps37
    go_wp2_with fail
    go_ret
    exact ⟨rfl, rfl⟩
  · have e : joinV a b = b := by simp at ha; simp [joinV, ha]
    rw [e]
    clear e
    go_enter Try.func37, Try.ntmps37
    go_wp2_with fail
    go_ret
    exact ⟨rfl, rfl⟩

/-- The first slash behind which there is no more than a name. -/
theorem least_cut (p : L) (h : 101 ≤ p.length) : ({ data := List.toArray p } : ByteArray).extract (p.length - 100 - 1) p.length = ⟨(p.drop (p.length - 101)).toArray⟩ := by
  have e := ba_eq (extract_drop ⟨p.toArray⟩ (p.length - 101))
  rw [← e, show p.length - 100 - 1 = p.length - 101 by omega]
  simp [ByteArray.size]

set_option maxRecDepth 100000 in
theorem firstCut_yes (p a b : L) (w : World) (h : 101 ≤ p.length) (hp : p.length ≤ 300) (hf : firstCut (p.drop (p.length - 101)) = some (a, b)) :
    Calls Try.prog 74 #[.string ⟨p.toArray⟩] w fun e w' => e = .returned (.tuple #[.int .i64 ((p.length - 101 + a.length : Nat) : Int), .bool true]) ∧ w = w' := by
  have hlen := firstCut_len hf
  rw [List.length_drop] at hlen
  have Hi := Lib.hid (indexByte_some hf)
  have Hcut := Lib.hid (least_cut p h)
  have ha : a.length ≤ 300 := by omega
  have g : decide ((a.length : Int) < 0) = false := by simp
  clear hf hlen
  go_enter Try.func74, Try.ntmps74
  go_wp2_with fail
  rw [Hcut.out]
  refine (indexByte_l _ 47 _).mono ?_
  rintro e w' ⟨rfl, rfl⟩
  rw [show (Int.toNat 47).toUInt8 = 47 from rfl, Hi.out]
  go_wp2_with fail
  go_ret2
  have e : ((p.length - 101 + a.length : Nat) : Int) = (p.length : Int) - 100 - 1 + (a.length : Int) := by omega
  exact ⟨by rw [e]; rfl, rfl⟩
set_option maxRecDepth 100000 in
theorem firstCut_no (p : L) (w : World) (h : 101 ≤ p.length) (hp : p.length ≤ 300) (hf : firstCut (p.drop (p.length - 101)) = none) :
    Calls Try.prog 74 #[.string ⟨p.toArray⟩] w fun e w' => e = .returned (.tuple #[.int .i64 0, .bool false]) ∧ w = w' := by
  have Hi := Lib.hid (indexByte_none hf)
  have Hcut := Lib.hid (least_cut p h)
  clear hf
  go_enter Try.func74, Try.ntmps74
  go_wp2_with fail
  rw [Hcut.out]
  refine (indexByte_l _ 47 _).mono ?_
  rintro e w' ⟨rfl, rfl⟩
  rw [show (Int.toNat 47).toUInt8 = 47 from rfl, Hi.out]
  go_wp2_with fail
  go_ret2
  exact ⟨rfl, rfl⟩

theorem splV_none {p : L} (h : splitO p = none) : splV p = ([], []) ∧ splB p = false := by unfold splV splB; rw [h]; exact ⟨rfl, rfl⟩
theorem splV_some {p a b : L} (h : splitO p = some (a, b)) : splV p = (a, b) ∧ splB p = true := by unfold splV splB; rw [h]; exact ⟨rfl, rfl⟩

set_option maxRecDepth 100000 in
set_option maxHeartbeats 1000000 in
theorem split_any (p : L) (w : World) (hp : p.length ≤ 9223372036854775807) :
    Calls Try.prog 38 #[.string ⟨p.toArray⟩] w fun e w' => e = .returned (.tuple #[.string ⟨(splV p).1.toArray⟩, .string ⟨(splV p).2.toArray⟩, .bool (splB p)]) ∧ Below w.heap.size w w' := by
  cases hm : mayB p
  · obtain ⟨e1, e2⟩ := splV_none (p := p) (by unfold splitO; rw [if_neg (by simp [hm])])
    rw [e1, e2]
    have Hm := Lib.hid hm
    clear e1 e2 hm
    go_enter Try.func38, Try.ntmps38
    go_wp2_with fail
    refine (may_any p _ hp).mono ?_
    rintro e w1 ⟨rfl, hb1⟩
    rw [Hm.out]
    have Hb1 := Lib.hid hb1
    clear hb1
    go_wp2_with fail
    go_ret3
    exact ⟨rfl, Hb1.out⟩
  · have h300 := okSize hm
    by_cases hl : p.length ≤ 100
    · obtain ⟨e1, e2⟩ := splV_some (p := p) (a := []) (b := p) (by unfold splitO; rw [if_pos hm, if_pos hl])
      rw [e1, e2]
      have Hm := Lib.hid hm
      clear e1 e2 hm
      have g : decide ((p.length : Int) ≤ 100) = true := decide_eq_true (by omega)
      go_enter Try.func38, Try.ntmps38
      go_wp2_with fail
      refine (may_any p _ hp).mono ?_
      rintro e w1 ⟨rfl, hb1⟩
      rw [Hm.out]
      have Hb1 := Lib.hid hb1
      clear hb1
      go_wp2_with fail
      go_ret3
      exact ⟨rfl, Hb1.out⟩
    · have g : decide ((p.length : Int) ≤ 100) = false := decide_eq_false (by omega)
      match hf : firstCut (p.drop (p.length - 101)) with
      | none =>
        obtain ⟨e1, e2⟩ := splV_none (p := p) (by unfold splitO; rw [if_pos hm, if_neg hl, hf])
        rw [e1, e2]
        have Hm := Lib.hid hm
        have Hf := Lib.hid hf
        clear e1 e2 hm hf
        go_enter Try.func38, Try.ntmps38
        go_wp2_with fail
        refine (may_any p _ hp).mono ?_
        rintro e w1 ⟨rfl, hb1⟩
        rw [Hm.out]
        have Hb1 := Lib.hid hb1
        clear hb1
        go_wp2_with fail
        refine (firstCut_no p _ (by omega) h300 Hf.out).mono ?_
        rintro e w' ⟨rfl, rfl⟩
        go_wp2_with fail
        go_ret3
        exact ⟨rfl, Hb1.out⟩
      | some (a, b) =>
        have hlen := firstCut_len hf
        rw [List.length_drop] at hlen
        obtain ⟨k, hk⟩ : ∃ k, k = p.length - 101 + a.length := ⟨_, rfl⟩
        by_cases h155 : k ≤ 155
        · obtain ⟨e1, e2⟩ := splV_some (p := p) (a := p.take k) (b := b) (by unfold splitO; rw [if_pos hm, if_neg hl, hf]; simp only; rw [if_pos (by omega), hk])
          rw [e1, e2]
          have hd : p.drop (k + 1) = b := by
            have h := congrArg (List.drop (a.length + 1)) (firstCut_some hf).1
            rw [List.drop_drop, show a ++ 47 :: b = (a ++ [47]) ++ b by simp, show a.length + 1 = (a ++ [47]).length by simp, List.drop_left] at h
            rw [← h]
            congr 1
            simp
            omega
          have hc1 := cut_h p k (by omega)
          have hc2 := cut_l p (k + 1) (by omega)
          rw [hd, show ((k + 1 : Nat) : Int) = (k : Int) + 1 by omega] at hc2
          have Hm := Lib.hid hm
          have Hf := Lib.hid hf
          have Hk := Lib.hid hk
          have g2 : decide ((155 : Int) < (k : Int)) = false := decide_eq_false (by omega)
          have g3 : k + 1 ≤ p.length := by omega
          clear e1 e2 hm hf hk hlen hd
          go_enter Try.func38, Try.ntmps38
          go_wp2_with fail
          refine (may_any p _ hp).mono ?_
          rintro e w1 ⟨rfl, hb1⟩
          rw [Hm.out]
          have Hb1 := Lib.hid hb1
          clear hb1
          go_wp2_with fail
          refine (firstCut_yes p a b _ (by omega) h300 Hf.out).mono ?_
          rintro e w' ⟨rfl, rfl⟩
          rw [← Hk.out]
          go_wp2_with fail
          go_quiet (fail)
          all_goals go_wp2_with fail
          all_goals go_ret3
          all_goals exact ⟨rfl, below_drewN Hb1.out _⟩
        · obtain ⟨e1, e2⟩ := splV_none (p := p) (by unfold splitO; rw [if_pos hm, if_neg hl, hf]; simp only; rw [if_neg (by omega)])
          rw [e1, e2]
          have Hm := Lib.hid hm
          have Hf := Lib.hid hf
          have Hk := Lib.hid hk
          have g2 : decide ((155 : Int) < (k : Int)) = true := decide_eq_true (by omega)
          clear e1 e2 hm hf hk hlen
          go_enter Try.func38, Try.ntmps38
          go_wp2_with fail
          refine (may_any p _ hp).mono ?_
          rintro e w1 ⟨rfl, hb1⟩
          rw [Hm.out]
          have Hb1 := Lib.hid hb1
          clear hb1
          go_wp2_with fail
          refine (firstCut_yes p a b _ (by omega) h300 Hf.out).mono ?_
          rintro e w' ⟨rfl, rfl⟩
          rw [← Hk.out]
          go_wp2_with fail
          go_ret3
          exact ⟨rfl, Hb1.out⟩
end Go.Proofs.Ytleoiejkipobbaa.Path
