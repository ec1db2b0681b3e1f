/-
  The document's own answers for package tree: One, Find, has, Same, Under: no statement is proved here.
  The document's own answers for package tree: One: no statement is proved here.
-/
import Derived.Test.YtjddgmdbgajjpaaEntryM
import Derived.Test.YtjddgmdbgajjpaaNodes
import Derived.Test.YtjddgmdbgajjpaaPathRef
import Derived.Deep.QuietTactic
import Derived.BigQuiet
namespace Go.Proofs.Ytjddgmdbgajjpaa.Tree
open Go.RowKit Go.Proofs.Ytjddgmdbgajjpaa.Base Go.Proofs.Ytjddgmdbgajjpaa.Node Go.Proofs.Ytjddgmdbgajjpaa.Long

set_option maxRecDepth 100000 in
set_option maxHeartbeats 2000000 in
theorem rfind_s (ns : List Nd) (p : L) (A : Option Addr) (c : Nat) (w : World) (ha : RdN w A c ns) (hl : ns.length < 9223372036854775808) :
    Calls Try.prog 36 #[.slice A ns.length c, .string ⟨p.toArray⟩] w fun e w' => e = .returned (.int .i64 (findV ns p)) ∧ w' = w := by
  obtain ⟨r, hr⟩ : ∃ r, findV ns p = r := ⟨_, rfl⟩
  have Hr := Lib.hid hr
  rw [hr]
  clear hr
  go_enter Try.func36, Try.ntmps36
  go_wp2_with fail
  go_loopw [5] (fun i wr => ∃ k : Nat, k ≤ ns.length ∧ i = .int .i64 k ∧ wr = w ∧ Hid (∀ (j : Nat) (m : Nd), j < k → ns[j]? = some m → m.path ≠ p)) (fun i _ => ns.length - (intOf i).toNat)
  case atStart => exact ⟨0, by omega, rfl, rfl, Lib.hid (fun j m hj => by omega)⟩
  case round =>
    obtain ⟨k, hk, rfl, rfl, Hn⟩ := hrel
    by_cases hlt : k < ns.length
    · obtain ⟨n, hn⟩ : ∃ n, ns[k]? = some n := ⟨_, List.getElem?_eq_getElem hlt⟩
      obtain ⟨b, o, rfl, hb, q0, -⟩ := ha.cells hn
      have Hk := Lib.hid hn
      have hc := ha.1
      clear hn
      by_cases he : n.path = p
      · have g : (n.path == p) = true := beq_iff_eq.2 he
        have He := Lib.hid he
        clear he
        go_wp2_with fail
        go_ret
        refine ⟨congrArg (fun x => Ending.returned (.int .i64 x)) ?_, by first | rfl | trivial⟩
        rw [← Hr.out, findV, findN_of Hk.out He.out Hn.out]
      · have g : (n.path == p) = false := beq_eq_false_iff_ne.2 he
        have Hs := Lib.hid (none_step Hk.out he Hn.out)
        clear he
        go_wp2_with fail
        go_roundw
        case rel => exact ⟨k + 1, by omega, by go_num, by first | rfl | trivial, Hs⟩
        case measure => simp [intOf]; omega
    · obtain rfl : k = ns.length := by omega
      have hn := Hn.out
      go_wp2_with fail
      go_ret
      refine ⟨congrArg (fun x => Ending.returned (.int .i64 x)) ?_, by first | rfl | trivial⟩
      rw [← Hr.out, findV, findN_none (fun j m hm => hn j m (List.getElem?_eq_some_iff.1 hm).1 hm)]

theorem Nd.ext_iff' (g k : Nd) : g = k ↔ (g.path = k.path ∧ g.link = k.link ∧ g.kind = k.kind ∧ g.mode = k.mode ∧ g.uid = k.uid ∧ g.gid = k.gid ∧ g.time = k.time ∧ g.data = k.data) := by
  cases g; cases k; simp
set_option maxRecDepth 100000 in
theorem eq_nodes (g k : Nd) (w : World) : (Op.equalIn 10000 26 (nv g) (nv k)).run Try.prog w = .ok (decide (g = k)) w := by
  rw [show (10000 : Nat) = 9999 + 1 from rfl, run_equalIn_struct (P := Try.prog) w 9999 26 _ _ (by kernel_rfl) (by kernel_rfl)]
  have hf : (Try.prog.fieldsOf 26).toList = (Try.prog.fieldsOf 26).toList := rfl
  conv at hf => rhs; whnf
  rw [hf]
  go_simp
  have hty : ((g.kind.toNat : Int) = (k.kind.toNat : Int)) ↔ g.kind = k.kind := by
    constructor
    · intro h
      exact UInt8.toNat_inj.1 (by omega)
    · intro h
      rw [h]
  by_cases h : g = k
  · subst h
    simp
  · rw [decide_eq_false h]
    rw [Nd.ext_iff', ← hty] at h
    clear hty hf
    repeat' split
    all_goals first | rfl | exact absurd (by simp only [*, and_self]) h
theorem noGuardN : Try.prog.eqGuardType Try.prog.depth 26 = false := by kernel_rfl
theorem take_next {ns ms : List Nd} {k : Nat} {l m : Nd} (hl : ns[k]? = some l) (hm : ms[k]? = some m) (h : ns.take k = ms.take k) : (ns.take (k + 1) = ms.take (k + 1)) ↔ l = m := by
  rw [List.take_add_one, List.take_add_one, hl, hm, h]
  simp

set_option maxRecDepth 100000 in
set_option maxHeartbeats 2000000 in
theorem rsame_s (ns ms : List Nd) (A B : Option Addr) (c d : Nat) (w : World) (ha : RdN w A c ns) (hb : RdN w B d ms) (hm : ms.length < 9223372036854775808) :
    Calls Try.prog 28 #[.slice A ns.length c, .slice B ms.length d] w fun e w' => e = .returned (.bool (ns == ms)) ∧ Stp w w' := by
  have h0 := Stp.refl w
  by_cases hlen : ns.length = ms.length
  · obtain ⟨N, hN⟩ : ∃ N, ms.length = N := ⟨_, rfl⟩
    rw [hN] at hlen
    rw [hlen, hN]
    have HN := Lib.hid hN
    have HL := Lib.hid hlen
    rw [hN] at hm
    clear hN hlen
    go_enter Try.func28, Try.ntmps28
    go_wp2_with fail
    go_loopw [5] (fun i wr => ∃ k : Nat, k ≤ N ∧ i = .int .i64 k ∧ Stp w wr ∧ Hid (ns.take k = ms.take k)) (fun i _ => N - (intOf i).toNat)
    case atStart => exact ⟨0, by omega, rfl, Stp.refl w, Lib.hid (by simp)⟩
    case round =>
      obtain ⟨k, hk, rfl, hst, Ht⟩ := hrel
      by_cases hlt : k < N
      · obtain ⟨x, hx⟩ : ∃ n, ns[k]? = some n := ⟨_, List.getElem?_eq_getElem (by rw [HL.out]; exact hlt)⟩
        obtain ⟨y, hy⟩ : ∃ n, ms[k]? = some n := ⟨_, List.getElem?_eq_getElem (by rw [HN.out]; exact hlt)⟩
        have ha1 := ha.keep hst
        have hb1 := hb.keep hst
        obtain ⟨b1, o1, rfl, -, q0, q1, q2, q3, q4, q5, q6, q7⟩ := ha1.cells hx
        obtain ⟨b2, o2, rfl, -, r0, r1, r2, r3, r4, r5, r6, r7⟩ := hb1.cells hy
        have Hx := Lib.hid hx
        have Hy := Lib.hid hy
        have heq := eq_nodes x y
        have hng := noGuardN
        clear hx hy ha1 hb1
        by_cases e : x = y
        · rw [decide_eq_true e] at heq
          have Hnext := Lib.hid ((take_next Hx.out Hy.out Ht.out).2 e)
          clear e
          go_wp2_with fail
          go_quiet (fail)
          go_wp2_with fail
          go_roundw
          case rel => exact ⟨k + 1, by omega, by go_num, hst.drewN _, Hnext⟩
          case measure => simp [intOf]; omega
        · rw [decide_eq_false e] at heq
          have Hne := Lib.hid e
          clear e
          go_wp2_with fail
          go_quiet (fail)
          go_wp2_with fail
          go_ret
          refine ⟨congrArg (fun b => Ending.returned (.bool b)) ?_, hst.drewN _⟩
          symm
          rw [beq_eq_false_iff_ne]
          rintro rfl
          have h1 := Hx.out
          rw [Hy.out] at h1
          exact Hne.out (Option.some.inj h1).symm
      · obtain rfl : k = N := by omega
        have ht := Ht.out
        rw [List.take_of_length_le (by rw [HL.out]; exact Nat.le_refl _), List.take_of_length_le (by rw [HN.out]; exact Nat.le_refl _)] at ht
        have Ht2 := Lib.hid ht
        clear ht
        go_wp2_with fail
        go_ret
        exact ⟨by rw [Ht2.out]; simp, hst⟩
  · have g : ((ns.length : Int) != (ms.length : Int)) = true := by simp; omega
    have e : (ns == ms) = false := by
      rw [beq_eq_false_iff_ne]
      rintro rfl
      exact hlen rfl
    rw [e]
    clear e hlen
    go_enter Try.func28, Try.ntmps28
    go_wp2_with fail
    go_ret
    exact ⟨rfl, h0⟩

theorem node_info : (Try.prog.info? 26).map (fun i => (i.zero, i.size, i.bytes)) = some (some (nv zeroN), 8, 88) := by kernel_rfl
end Go.Proofs.Ytjddgmdbgajjpaa.Tree

namespace Go.Proofs.Ytjddgmdbgajjpaa.Tree
open Go.RowKit Go.Proofs.Ytjddgmdbgajjpaa.Base Go.Proofs.Ytjddgmdbgajjpaa.Node Go.Proofs.Ytjddgmdbgajjpaa.Long

theorem kindB_is (n : Nd) : kindB n = if ((n.kind.toNat : Int) == 48) = true then (n.link == []) && decide ((n.data.length : Int) ≤ 4000)
    else if ((n.kind.toNat : Int) == 49) = true then PathM.mayB n.link && ((n.data == []) && ((n.mode == 0) && ((n.uid == 0) && ((n.gid == 0) && (n.time == 0)))))
    else if ((n.kind.toNat : Int) == 50) = true then textL n.link && (n.data == [])
    else if ((n.kind.toNat : Int) == 53) = true then (n.link == []) && (n.data == []) else false := by
  have e : ∀ k : UInt8, (n.kind = k) ↔ ((n.kind.toNat : Int) == (k.toNat : Int)) = true := fun k => by
    rw [beq_iff_eq]
    exact ⟨fun h => by rw [h], fun h => UInt8.toNat_inj.1 (by omega)⟩
  have e4 : decide (n.data.length ≤ 4000) = decide ((n.data.length : Int) ≤ 4000) := by
    rw [Bool.eq_iff_iff, decide_eq_true_eq, decide_eq_true_eq]
    omega
  unfold kindB
  simp only [e, e4]
  rfl
theorem nums_no {n : Nd} (h : n.mode < 0 ∨ 4095 < n.mode ∨ n.uid < 0 ∨ 1099511627776 < n.uid ∨ n.gid < 0 ∨ 1099511627776 < n.gid ∨ n.time < 0 ∨ 1099511627776 < n.time) : oneB n = false := by
  have : numsB n = false := by
    rw [Bool.eq_false_iff]
    intro h2
    simp only [numsB, Bool.and_eq_true, decide_eq_true_eq] at h2
    omega
  unfold oneB
  rw [this]
  simp
theorem nums_yes {n : Nd} (hm : PathM.mayB n.path = true) (h : ¬ (n.mode < 0 ∨ 4095 < n.mode ∨ n.uid < 0 ∨ 1099511627776 < n.uid ∨ n.gid < 0 ∨ 1099511627776 < n.gid ∨ n.time < 0 ∨ 1099511627776 < n.time)) : oneB n = kindB n := by
  have : numsB n = true := by
    simp only [numsB, Bool.and_eq_true, decide_eq_true_eq]
    omega
  unfold oneB
  rw [this, hm]
  simp

set_option maxRecDepth 100000 in
set_option maxHeartbeats 4000000 in
theorem rone_s (n : Nd) (hn : SmallN n) (w : World) :
    Calls Try.prog 35 #[nv n] w fun e w' => e = .returned (.bool (oneB n)) ∧ Stp w w' := by
  have h0 := Stp.refl w
  have Hn := Lib.hid hn
  have Hb0 := Lib.hid (Blk.new w 26 (ncells n))
  have H0 := Lib.hid (Stp.alloc h0 (.cells (ncells n) 26))
  obtain ⟨q0, q1, q2, q3, q4, q5, q6, q7⟩ := nd_cells Hb0.out
  obtain ⟨m1, h1⟩ : ∃ m, PathM.mayB n.path = m := ⟨_, rfl⟩
  obtain ⟨m2, h2⟩ : ∃ m, PathM.mayB n.link = m := ⟨_, rfl⟩
  obtain ⟨tl, h3⟩ : ∃ m, textL n.link = m := ⟨_, rfl⟩
  have F1 := Lib.hid h1
  have F2 := Lib.hid h2
  have F3 := Lib.hid h3
  obtain ⟨R, hR⟩ : ∃ R, oneB n = R := ⟨_, rfl⟩
  have HR := Lib.hid hR
  rw [hR]
  clear h1 h2 h3 hR hn
  go_enter Try.func35, Try.ntmps35
  go_wp2_with (first
    | (go_at_call 58; (with_reducible refine (Path.rmay_s n.path _ Hn.out.path).mono ?_); rintro e w1 ⟨rfl, hs⟩; rw [F1.out]; have Hb := Lib.hid (Hb0.out.keep hs Hb0.out.lt); have H := Lib.hid (Stp.trans H0.out hs); clear hs q0 q1 q2 q3 q4 q5 q6 q7; obtain ⟨q0, q1, q2, q3, q4, q5, q6, q7⟩ := nd_cells Hb.out)
    | (go_at_call 58; (with_reducible refine (Path.rmay_s n.link _ Hn.out.link).mono ?_); rintro e w1 ⟨rfl, hs⟩; rw [F2.out]; replace Hb := Lib.hid (Hb.out.keep hs Hb.out.lt); replace H := Lib.hid (Stp.trans H.out hs); clear hs q0 q1 q2 q3 q4 q5 q6 q7; obtain ⟨q0, q1, q2, q3, q4, q5, q6, q7⟩ := nd_cells Hb.out)
    | (go_at_call 59; refine (rtext_s n.link Hn.out.link _).mono ?_; rintro e w1 ⟨rfl, hs⟩; rw [F3.out]; replace Hb := Lib.hid (Hb.out.keep hs Hb.out.lt); replace H := Lib.hid (Stp.trans H.out hs); clear hs q0 q1 q2 q3 q4 q5 q6 q7; obtain ⟨q0, q1, q2, q3, q4, q5, q6, q7⟩ := nd_cells Hb.out; rcases m1))
  all_goals go_ret
  all_goals refine ⟨congrArg (fun b => Ending.returned (.bool b)) ?_, H.out⟩
  all_goals rw [← HR.out]
  all_goals clear q0 q1 q2 q3 q4 q5 q6 q7 Hb Hb0 H H0 h0 Hn HR
  all_goals first
    | (rw [show oneB n = false from by unfold oneB; rw [F1.out]; rfl]; done)
    | (rw [nums_no (by omega)]; done)
    | (rw [nums_yes F1.out (by omega), kindB_is, F2.out, F3.out]; simp [*]; done)
end Go.Proofs.Ytjddgmdbgajjpaa.Tree

