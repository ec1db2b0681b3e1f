/-
  The document's own answers for package tree: One, Find, has, Same, Under: no statement is proved here.
  The document's own answers for package tree: One: no statement is proved here.
-/
import Derived.Test.YtllnnlmhbmladaaGreatDoorEntryM
import Derived.Test.YtllnnlmhbmladaaGreatDoorNodes
import Derived.Test.YtllnnlmhbmladaaGreatDoorPathRef
import Derived.Deep.QuietTactic
import Derived.BigQuiet
namespace Go.Proofs.YtllnnlmhbmladaaGreatDoor.Tree
open Go.RowKit Go.Proofs.YtllnnlmhbmladaaGreatDoor.Base Go.Proofs.YtllnnlmhbmladaaGreatDoor.Node Go.Proofs.YtllnnlmhbmladaaGreatDoor.Long

theorem Nd.ext_iff' (g k : Nd) : g = k ↔ (g.path = k.path ∧ g.link = k.link ∧ g.kind = k.kind ∧ g.mode = k.mode ∧ g.uid = k.uid ∧ g.gid = k.gid ∧ g.time = k.time ∧ g.data = k.data) := by
  cases g; cases k; simp
set_option maxRecDepth 100000 in
theorem eq_nodes (g k : Nd) (w : World) : (Op.equalIn 10000 23 (nv g) (nv k)).run Tryz.prog w = .ok (decide (g = k)) w := by
  rw [show (10000 : Nat) = 9999 + 1 from rfl, run_equalIn_struct (P := Tryz.prog) w 9999 23 _ _ (by kernel_rfl) (by kernel_rfl)]
  have hf : (Tryz.prog.fieldsOf 23).toList = (Tryz.prog.fieldsOf 23).toList := rfl
  conv at hf => rhs; whnf
  rw [hf]
  go_simp
  have hty : ((g.kind.toNat : Int) = (k.kind.toNat : Int)) ↔ g.kind = k.kind := by
    constructor
    · intro h
      exact UInt8.toNat_inj.1 (by omega)
    · intro h
      rw [h]
  by_cases h : g = k
  · subst h
    simp
  · rw [decide_eq_false h]
    rw [Nd.ext_iff', ← hty] at h
    clear hty hf
    repeat' split
    all_goals first | rfl | exact absurd (by simp only [*, and_self]) h
theorem noGuardN : Tryz.prog.eqGuardType Tryz.prog.depth 23 = false := by kernel_rfl
end Go.Proofs.YtllnnlmhbmladaaGreatDoor.Tree

namespace Go.Proofs.YtllnnlmhbmladaaGreatDoor.Tree
open Go.RowKit Go.Proofs.YtllnnlmhbmladaaGreatDoor.Base Go.Proofs.YtllnnlmhbmladaaGreatDoor.Node Go.Proofs.YtllnnlmhbmladaaGreatDoor.Long

end Go.Proofs.YtllnnlmhbmladaaGreatDoor.Tree

