/-
  A parser's states, and what it tells, compared: no statement is proved here.
-/
import Derived.Test.YtgjdbbhfgfodlaaEvs
import Derived.Test.YtgjdbbhfgfodlaaTreeOne
namespace Go.Proofs.Ytgjdbbhfgfodlaa.Parse
open Go.RowKit Go.Proofs.Ytgjdbbhfgfodlaa.Base Go.Proofs.Ytgjdbbhfgfodlaa.Node

theorem nd_ext (g k : Nd) : g = k ↔ (g.path = k.path ∧ g.link = k.link ∧ g.kind = k.kind ∧ g.mode = k.mode ∧ g.uid = k.uid ∧ g.gid = k.gid ∧ g.time = k.time ∧ g.data = k.data) := by cases g; cases k; simp
theorem evt_ext (x y : Evt) : x = y ↔ x.kind = y.kind ∧ x.node = y.node ∧ x.data = y.data := by cases x; cases y; simp
theorem st_ext (x y : St) : x = y ↔ x.phase = y.phase ∧ x.node = y.node ∧ x.size = y.size ∧ x.left = y.left ∧ x.text = y.text ∧ x.name = y.name ∧ x.link = y.link := by cases x; cases y; simp
set_option maxRecDepth 100000 in
set_option maxHeartbeats 1000000 in
theorem eq_evs (x y : Evt) (w : World) : (Op.equalIn 10000 80 (evv x) (evv y)).run Try.prog w = .ok (decide (x = y)) w := by
  rw [show (10000 : Nat) = 9999 + 1 from rfl, run_equalIn_struct (P := Try.prog) w 9999 80 _ _ (by kernel_rfl) (by kernel_rfl)]
  have hf : (Try.prog.fieldsOf 80).toList = (Try.prog.fieldsOf 80).toList := rfl
  conv at hf => rhs; whnf
  rw [hf]
  go_simp
  have hty : ((x.node.kind.toNat : Int) = (y.node.kind.toNat : Int)) ↔ x.node.kind = y.node.kind := ⟨nat_inj, fun h => by rw [h]⟩
  by_cases h : x = y
  · subst h
    simp
  · rw [decide_eq_false h]
    rw [evt_ext, nd_ext, ← hty] at h
    clear hty hf
    repeat' split
    all_goals first | rfl | exact absurd ⟨‹_›, ⟨‹_›, ‹_›, ‹_›, ‹_›, ‹_›, ‹_›, ‹_›, ‹_›⟩, ‹_›⟩ h
theorem eq_evs_free : Try.prog.eqGuardType Try.prog.depth 80 = false := by kernel_rfl
set_option maxRecDepth 100000 in
set_option maxHeartbeats 1000000 in
theorem eq_states (x y : St) (w : World) : (Op.equalIn 10000 32 (sv x) (sv y)).run Try.prog w = .ok (decide (x = y)) w := by
  rw [show (10000 : Nat) = 9999 + 1 from rfl, run_equalIn_struct (P := Try.prog) w 9999 32 _ _ (by kernel_rfl) (by kernel_rfl)]
  have hf : (Try.prog.fieldsOf 32).toList = (Try.prog.fieldsOf 32).toList := rfl
  conv at hf => rhs; whnf
  rw [hf]
  go_simp
  have hty : ((x.node.kind.toNat : Int) = (y.node.kind.toNat : Int)) ↔ x.node.kind = y.node.kind := ⟨nat_inj, fun h => by rw [h]⟩
  by_cases h : x = y
  · subst h
    simp
  · rw [decide_eq_false h]
    rw [st_ext, nd_ext, ← hty] at h
    clear hty hf
    by_cases e0 : x.phase = y.phase
    case neg => rw [if_neg e0]
    rw [if_pos e0]
    by_cases e1 : x.node.path = y.node.path
    case neg => rw [if_neg e1]
    rw [if_pos e1]
    by_cases e2 : x.node.link = y.node.link
    case neg => rw [if_neg e2]
    rw [if_pos e2]
    by_cases e3 : (x.node.kind.toNat : Int) = (y.node.kind.toNat : Int)
    case neg => rw [if_neg e3]
    rw [if_pos e3]
    by_cases e4 : x.node.mode = y.node.mode
    case neg => rw [if_neg e4]
    rw [if_pos e4]
    by_cases e5 : x.node.uid = y.node.uid
    case neg => rw [if_neg e5]
    rw [if_pos e5]
    by_cases e6 : x.node.gid = y.node.gid
    case neg => rw [if_neg e6]
    rw [if_pos e6]
    by_cases e7 : x.node.time = y.node.time
    case neg => rw [if_neg e7]
    rw [if_pos e7]
    by_cases e8 : x.node.data = y.node.data
    case neg => rw [if_neg e8]
    rw [if_pos e8]
    by_cases e9 : x.size = y.size
    case neg => rw [if_neg e9]
    rw [if_pos e9]
    by_cases e10 : x.left = y.left
    case neg => rw [if_neg e10]
    rw [if_pos e10]
    by_cases e11 : x.text = y.text
    case neg => rw [if_neg e11]
    rw [if_pos e11]
    by_cases e12 : x.name = y.name
    case neg => rw [if_neg e12]
    rw [if_pos e12]
    by_cases e13 : x.link = y.link
    case neg => rw [if_neg e13]
    rw [if_pos e13]
    exact absurd ⟨e0, ⟨e1, e2, e3, e4, e5, e6, e7, e8⟩, e9, e10, e11, e12, e13⟩ h
theorem eq_states_free : Try.prog.eqGuardType Try.prog.depth 32 = false := by kernel_rfl
end Go.Proofs.Ytgjdbbhfgfodlaa.Parse
