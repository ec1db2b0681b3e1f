/-
  Headers compared, and the law's own helpers: no statement is proved here.
  What the statements' walks share: no statement is proved here.
-/
import Derived.Test.YthjdejjejlhioaaGreatDoorHeadGet
import Derived.Test.YthjdejjejlhioaaGreatDoorHeadM3
namespace Go.Proofs.YthjdejjejlhioaaGreatDoor.Head
open Go.RowKit Go.Proofs.YthjdejjejlhioaaGreatDoor.Base Go.Proofs.YthjdejjejlhioaaGreatDoor.NumM Go.Proofs.YthjdejjejlhioaaGreatDoor.Num

theorem Hd.ext_iff' (g k : Hd) : g = k ↔ (g.name = k.name ∧ g.pre = k.pre ∧ g.link = k.link ∧ g.mode = k.mode ∧ g.uid = k.uid ∧ g.gid = k.gid ∧ g.size = k.size ∧ g.time = k.time ∧ g.ty = k.ty ∧ g.off = k.off ∧ g.real = k.real) := by
  cases g; cases k; simp
set_option maxRecDepth 100000 in
theorem eq_heads (g k : Hd) (w : World) : (Op.equalIn 10000 113 (hv g) (hv k)).run Tryz.prog w = .ok (decide (g = k)) w := by
  rw [show (10000 : Nat) = 9999 + 1 from rfl, run_equalIn_struct (P := Tryz.prog) w 9999 113 _ _ (by kernel_rfl) (by kernel_rfl)]
  have hf : (Tryz.prog.fieldsOf 113).toList = (Tryz.prog.fieldsOf 113).toList := rfl
  conv at hf => rhs; whnf
  rw [hf]
  go_simp
  have hty : ((g.ty.toNat : Int) = (k.ty.toNat : Int)) ↔ g.ty = k.ty := by
    constructor
    · intro h
      exact UInt8.toNat_inj.1 (by omega)
    · intro h
      rw [h]
  by_cases h : g = k
  · subst h
    simp
  · rw [decide_eq_false h]
    rw [Hd.ext_iff', ← hty] at h
    clear hty hf
    repeat' split
    all_goals first | rfl | exact absurd (by simp only [*, and_self]) h

def oneH (name : L) (size : Int) : Hd := ⟨name, [], [], 420, 0, 0, size, 1000, 48, 0, 0⟩
theorem one_small : SmallH (oneH [97] 0) := by constructor <;> decide
end Go.Proofs.YthjdejjejlhioaaGreatDoor.Head

namespace Go.Proofs.YthjdejjejlhioaaGreatDoor.Head
open Go.RowKit Go.Proofs.YthjdejjejlhioaaGreatDoor.Base Go.Proofs.YthjdejjejlhioaaGreatDoor.NumM Go.Proofs.YthjdejjejlhioaaGreatDoor.Num

theorem putB_yes {h : Hd} (hm : mayH h = true) : putB h = blk h := by unfold putB; rw [if_pos hm]
end Go.Proofs.YthjdejjejlhioaaGreatDoor.Head

