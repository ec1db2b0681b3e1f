/-
  Headers compared, and the law's own helpers: no statement is proved here.
-/
import Derived.Test.YtihigbaaajmjlaaHeadGet
namespace Go.Proofs.Ytihigbaaajmjlaa.Head
open Go.RowKit Go.Proofs.Ytihigbaaajmjlaa.Base Go.Proofs.Ytihigbaaajmjlaa.NumM Go.Proofs.Ytihigbaaajmjlaa.Num

theorem Hd.ext_iff' (g k : Hd) : g = k ↔ (g.name = k.name ∧ g.pre = k.pre ∧ g.link = k.link ∧ g.mode = k.mode ∧ g.uid = k.uid ∧ g.gid = k.gid ∧ g.size = k.size ∧ g.time = k.time ∧ g.ty = k.ty ∧ g.off = k.off ∧ g.real = k.real) := by
  cases g; cases k; simp
set_option maxRecDepth 100000 in
theorem eq_heads (g k : Hd) (w : World) : (Op.equalIn 10000 27 (hv g) (hv k)).run Try.prog w = .ok (decide (g = k)) w := by
  rw [show (10000 : Nat) = 9999 + 1 from rfl, run_equalIn_struct (P := Try.prog) w 9999 27 _ _ (by kernel_rfl) (by kernel_rfl)]
  have hf : (Try.prog.fieldsOf 27).toList = (Try.prog.fieldsOf 27).toList := rfl
  conv at hf => rhs; whnf
  rw [hf]
  go_simp
  have hty : ((g.ty.toNat : Int) = (k.ty.toNat : Int)) ↔ g.ty = k.ty := by
    constructor
    · intro h
      exact UInt8.toNat_inj.1 (by omega)
    · intro h
      rw [h]
  by_cases h : g = k
  · subst h
    simp
  · rw [decide_eq_false h]
    rw [Hd.ext_iff', ← hty] at h
    clear hty hf
    repeat' split
    all_goals first | rfl | exact absurd (by simp only [*, and_self]) h

def oneH (name : L) (size : Int) : Hd := ⟨name, [], [], 420, 0, 0, size, 1000, 48, 0, 0⟩
def fewB (h : Hd) : Bool := decide (h.name.length ≤ 200) && decide (h.pre.length ≤ 200) && decide (h.link.length ≤ 200)
theorem one_small : SmallH (oneH [97] 0) := by constructor <;> decide
theorem one_may : mayH (oneH [97] 0) = true := by decide +kernel
theorem one_code : codeB (blk (oneH [97] 0)) = 0 := by decide +kernel
theorem one_get : getH (blk (oneH [97] 0)) = oneH [97] 0 := by decide +kernel
theorem one_len : (blk (oneH [97] 0)).length = 512 := blk_length one_may one_small
theorem one_257 : (blk (oneH [97] 0))[257]? = some 117 := by decide +kernel
theorem one_148 : (blk (oneH [97] 0))[148]? = some 48 := by decide +kernel
theorem one_sum : decide (0 < sumI (blk (oneH [97] 0))) = true := by decide +kernel
theorem zero_code : codeB (zeros 512) = 4 := by decide +kernel
end Go.Proofs.Ytihigbaaajmjlaa.Head
