/-
  The document's own answers for package tree: One, Find, has, Same, Under: no statement is proved here.
  The document's own answers for package tree: One: no statement is proved here.
-/
import Derived.Test.YtagkdodjffhlmaaGreatEntryM
import Derived.Test.YtagkdodjffhlmaaGreatNodes
import Derived.Test.YtagkdodjffhlmaaGreatPathRef
import Derived.Deep.QuietTactic
import Derived.BigQuiet
namespace Go.Proofs.YtagkdodjffhlmaaGreat.Tree
open Go.RowKit Go.Proofs.YtagkdodjffhlmaaGreat.Base Go.Proofs.YtagkdodjffhlmaaGreat.Node Go.Proofs.YtagkdodjffhlmaaGreat.Long

theorem Nd.ext_iff' (g k : Nd) : g = k ↔ (g.path = k.path ∧ g.link = k.link ∧ g.kind = k.kind ∧ g.mode = k.mode ∧ g.uid = k.uid ∧ g.gid = k.gid ∧ g.time = k.time ∧ g.data = k.data) := by
  cases g; cases k; simp
set_option maxRecDepth 100000 in
theorem eq_nodes (g k : Nd) (w : World) : (Op.equalIn 10000 23 (nv g) (nv k)).run Tryz.prog w = .ok (decide (g = k)) w := by
  rw [show (10000 : Nat) = 9999 + 1 from rfl, run_equalIn_struct (P := Tryz.prog) w 9999 23 _ _ (by kernel_rfl) (by kernel_rfl)]
  have hf : (Tryz.prog.fieldsOf 23).toList = (Tryz.prog.fieldsOf 23).toList := rfl
  conv at hf => rhs; whnf
  rw [hf]
  go_simp
  have hty : ((g.kind.toNat : Int) = (k.kind.toNat : Int)) ↔ g.kind = k.kind := by
    constructor
    · intro h
      exact UInt8.toNat_inj.1 (by omega)
    · intro h
      rw [h]
  by_cases h : g = k
  · subst h
    simp
  · rw [decide_eq_false h]
    rw [Nd.ext_iff', ← hty] at h
    clear hty hf
    repeat' split
    all_goals first | rfl | exact absurd (by simp only [*, and_self]) h
theorem noGuardN : Tryz.prog.eqGuardType Tryz.prog.depth 23 = false := by kernel_rfl
theorem take_next {ns ms : List Nd} {k : Nat} {l m : Nd} (hl : ns[k]? = some l) (hm : ms[k]? = some m) (h : ns.take k = ms.take k) : (ns.take (k + 1) = ms.take (k + 1)) ↔ l = m := by
  rw [List.take_add_one, List.take_add_one, hl, hm, h]
  simp

theorem node_info : (Tryz.prog.info? 23).map (fun i => (i.zero, i.size, i.bytes)) = some (some (nv zeroN), 8, 88) := by kernel_rfl
end Go.Proofs.YtagkdodjffhlmaaGreat.Tree

namespace Go.Proofs.YtagkdodjffhlmaaGreat.Tree
open Go.RowKit Go.Proofs.YtagkdodjffhlmaaGreat.Base Go.Proofs.YtagkdodjffhlmaaGreat.Node Go.Proofs.YtagkdodjffhlmaaGreat.Long

theorem kindB_is (n : Nd) : kindB n = if ((n.kind.toNat : Int) == 48) = true then (n.link == []) && decide ((n.data.length : Int) ≤ 4000)
    else if ((n.kind.toNat : Int) == 49) = true then PathM.mayB n.link && ((n.data == []) && ((n.mode == 0) && ((n.uid == 0) && ((n.gid == 0) && (n.time == 0)))))
    else if ((n.kind.toNat : Int) == 50) = true then textL n.link && (n.data == [])
    else if ((n.kind.toNat : Int) == 53) = true then (n.link == []) && (n.data == []) else false := by
  have e : ∀ k : UInt8, (n.kind = k) ↔ ((n.kind.toNat : Int) == (k.toNat : Int)) = true := fun k => by
    rw [beq_iff_eq]
    exact ⟨fun h => by rw [h], fun h => UInt8.toNat_inj.1 (by omega)⟩
  have e4 : decide (n.data.length ≤ 4000) = decide ((n.data.length : Int) ≤ 4000) := by
    rw [Bool.eq_iff_iff, decide_eq_true_eq, decide_eq_true_eq]
    omega
  unfold kindB
  simp only [e, e4]
  rfl
theorem nums_no {n : Nd} (h : n.mode < 0 ∨ 4095 < n.mode ∨ n.uid < 0 ∨ 1099511627776 < n.uid ∨ n.gid < 0 ∨ 1099511627776 < n.gid ∨ n.time < 0 ∨ 1099511627776 < n.time) : oneB n = false := by
  have : numsB n = false := by
    rw [Bool.eq_false_iff]
    intro h2
    simp only [numsB, Bool.and_eq_true, decide_eq_true_eq] at h2
    omega
  unfold oneB
  rw [this]
  simp
theorem nums_yes {n : Nd} (hm : PathM.mayB n.path = true) (h : ¬ (n.mode < 0 ∨ 4095 < n.mode ∨ n.uid < 0 ∨ 1099511627776 < n.uid ∨ n.gid < 0 ∨ 1099511627776 < n.gid ∨ n.time < 0 ∨ 1099511627776 < n.time)) : oneB n = kindB n := by
  have : numsB n = true := by
    simp only [numsB, Bool.and_eq_true, decide_eq_true_eq]
    omega
  unfold oneB
  rw [this, hm]
  simp

set_option maxRecDepth 100000 in
set_option maxHeartbeats 4000000 in
theorem rone_s (n : Nd) (hn : SmallN n) (w : World) :
    Calls Tryz.prog 32 #[nv n] w fun e w' => e = .returned (.bool (oneB n)) ∧ Stp w w' := by
  have h0 := Stp.refl w
  have Hn := Lib.hid hn
  have Hb0 := Lib.hid (Blk.new w 23 (ncells n))
  have H0 := Lib.hid (Stp.alloc h0 (.cells (ncells n) 23))
  obtain ⟨q0, q1, q2, q3, q4, q5, q6, q7⟩ := nd_cells Hb0.out
  obtain ⟨m1, h1⟩ : ∃ m, PathM.mayB n.path = m := ⟨_, rfl⟩
  obtain ⟨m2, h2⟩ : ∃ m, PathM.mayB n.link = m := ⟨_, rfl⟩
  obtain ⟨tl, h3⟩ : ∃ m, textL n.link = m := ⟨_, rfl⟩
  have F1 := Lib.hid h1
  have F2 := Lib.hid h2
  have F3 := Lib.hid h3
  obtain ⟨R, hR⟩ : ∃ R, oneB n = R := ⟨_, rfl⟩
  have HR := Lib.hid hR
  rw [hR]
  clear h1 h2 h3 hR hn
  go_enter Tryz.func32, Tryz.ntmps32
  go_wp2_with (first
    | (go_at_call 56; (with_reducible refine (Path.rmay_s n.path _ Hn.out.path).mono ?_); rintro e w1 ⟨rfl, hs⟩; rw [F1.out]; have Hb := Lib.hid (Hb0.out.keep hs Hb0.out.lt); have H := Lib.hid (Stp.trans H0.out hs); clear hs q0 q1 q2 q3 q4 q5 q6 q7; obtain ⟨q0, q1, q2, q3, q4, q5, q6, q7⟩ := nd_cells Hb.out)
    | (go_at_call 56; (with_reducible refine (Path.rmay_s n.link _ Hn.out.link).mono ?_); rintro e w1 ⟨rfl, hs⟩; rw [F2.out]; replace Hb := Lib.hid (Hb.out.keep hs Hb.out.lt); replace H := Lib.hid (Stp.trans H.out hs); clear hs q0 q1 q2 q3 q4 q5 q6 q7; obtain ⟨q0, q1, q2, q3, q4, q5, q6, q7⟩ := nd_cells Hb.out)
    | (go_at_call 42; refine (rtext_s n.link Hn.out.link _).mono ?_; rintro e w1 ⟨rfl, hs⟩; rw [F3.out]; replace Hb := Lib.hid (Hb.out.keep hs Hb.out.lt); replace H := Lib.hid (Stp.trans H.out hs); clear hs q0 q1 q2 q3 q4 q5 q6 q7; obtain ⟨q0, q1, q2, q3, q4, q5, q6, q7⟩ := nd_cells Hb.out; rcases m1))
  all_goals go_ret
  all_goals refine ⟨congrArg (fun b => Ending.returned (.bool b)) ?_, H.out⟩
  all_goals rw [← HR.out]
  all_goals clear q0 q1 q2 q3 q4 q5 q6 q7 Hb Hb0 H H0 h0 Hn HR
  all_goals first
    | (rw [show oneB n = false from by unfold oneB; rw [F1.out]; rfl]; done)
    | (rw [nums_no (by omega)]; done)
    | (rw [nums_yes F1.out (by omega), kindB_is, F2.out, F3.out]; simp [*]; done)
end Go.Proofs.YtagkdodjffhlmaaGreat.Tree

