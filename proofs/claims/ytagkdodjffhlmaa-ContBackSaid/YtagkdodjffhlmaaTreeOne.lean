/-
  The document's own answers for package tree: One, Find, has, Same, Under: no statement is proved here.
  The document's own answers for package tree: One: no statement is proved here.
-/
import Derived.Test.YtagkdodjffhlmaaEntryM
import Derived.Test.YtagkdodjffhlmaaNodes
import Derived.Test.YtagkdodjffhlmaaPathRef
import Derived.Deep.QuietTactic
import Derived.BigQuiet
namespace Go.Proofs.Ytagkdodjffhlmaa.Tree
open Go.RowKit Go.Proofs.Ytagkdodjffhlmaa.Base Go.Proofs.Ytagkdodjffhlmaa.Node Go.Proofs.Ytagkdodjffhlmaa.Long

theorem Nd.ext_iff' (g k : Nd) : g = k ↔ (g.path = k.path ∧ g.link = k.link ∧ g.kind = k.kind ∧ g.mode = k.mode ∧ g.uid = k.uid ∧ g.gid = k.gid ∧ g.time = k.time ∧ g.data = k.data) := by
  cases g; cases k; simp
set_option maxRecDepth 100000 in
theorem eq_nodes (g k : Nd) (w : World) : (Op.equalIn 10000 23 (nv g) (nv k)).run Try.prog w = .ok (decide (g = k)) w := by
  rw [show (10000 : Nat) = 9999 + 1 from rfl, run_equalIn_struct (P := Try.prog) w 9999 23 _ _ (by kernel_rfl) (by kernel_rfl)]
  have hf : (Try.prog.fieldsOf 23).toList = (Try.prog.fieldsOf 23).toList := rfl
  conv at hf => rhs; whnf
  rw [hf]
  go_simp
  have hty : ((g.kind.toNat : Int) = (k.kind.toNat : Int)) ↔ g.kind = k.kind := by
    constructor
    · intro h
      exact UInt8.toNat_inj.1 (by omega)
    · intro h
      rw [h]
  by_cases h : g = k
  · subst h
    simp
  · rw [decide_eq_false h]
    rw [Nd.ext_iff', ← hty] at h
    clear hty hf
    repeat' split
    all_goals first | rfl | exact absurd (by simp only [*, and_self]) h
theorem noGuardN : Try.prog.eqGuardType Try.prog.depth 23 = false := by kernel_rfl
theorem take_next {ns ms : List Nd} {k : Nat} {l m : Nd} (hl : ns[k]? = some l) (hm : ms[k]? = some m) (h : ns.take k = ms.take k) : (ns.take (k + 1) = ms.take (k + 1)) ↔ l = m := by
  rw [List.take_add_one, List.take_add_one, hl, hm, h]
  simp

theorem node_info : (Try.prog.info? 23).map (fun i => (i.zero, i.size, i.bytes)) = some (some (nv zeroN), 8, 88) := by kernel_rfl
end Go.Proofs.Ytagkdodjffhlmaa.Tree

namespace Go.Proofs.Ytagkdodjffhlmaa.Tree
open Go.RowKit Go.Proofs.Ytagkdodjffhlmaa.Base Go.Proofs.Ytagkdodjffhlmaa.Node Go.Proofs.Ytagkdodjffhlmaa.Long

theorem kindB_is (n : Nd) : kindB n = if ((n.kind.toNat : Int) == 48) = true then (n.link == []) && decide ((n.data.length : Int) ≤ 4000)
    else if ((n.kind.toNat : Int) == 49) = true then PathM.mayB n.link && ((n.data == []) && ((n.mode == 0) && ((n.uid == 0) && ((n.gid == 0) && (n.time == 0)))))
    else if ((n.kind.toNat : Int) == 50) = true then textL n.link && (n.data == [])
    else if ((n.kind.toNat : Int) == 53) = true then (n.link == []) && (n.data == []) else false := by
  have e : ∀ k : UInt8, (n.kind = k) ↔ ((n.kind.toNat : Int) == (k.toNat : Int)) = true := fun k => by
    rw [beq_iff_eq]
    exact ⟨fun h => by rw [h], fun h => UInt8.toNat_inj.1 (by omega)⟩
  have e4 : decide (n.data.length ≤ 4000) = decide ((n.data.length : Int) ≤ 4000) := by
    rw [Bool.eq_iff_iff, decide_eq_true_eq, decide_eq_true_eq]
    omega
  unfold kindB
  simp only [e, e4]
  rfl
theorem nums_no {n : Nd} (h : n.mode < 0 ∨ 4095 < n.mode ∨ n.uid < 0 ∨ 1099511627776 < n.uid ∨ n.gid < 0 ∨ 1099511627776 < n.gid ∨ n.time < 0 ∨ 1099511627776 < n.time) : oneB n = false := by
  have : numsB n = false := by
    rw [Bool.eq_false_iff]
    intro h2
    simp only [numsB, Bool.and_eq_true, decide_eq_true_eq] at h2
    omega
  unfold oneB
  rw [this]
  simp
theorem nums_yes {n : Nd} (hm : PathM.mayB n.path = true) (h : ¬ (n.mode < 0 ∨ 4095 < n.mode ∨ n.uid < 0 ∨ 1099511627776 < n.uid ∨ n.gid < 0 ∨ 1099511627776 < n.gid ∨ n.time < 0 ∨ 1099511627776 < n.time)) : oneB n = kindB n := by
  have : numsB n = true := by
    simp only [numsB, Bool.and_eq_true, decide_eq_true_eq]
    omega
  unfold oneB
  rw [this, hm]
  simp

end Go.Proofs.Ytagkdodjffhlmaa.Tree

