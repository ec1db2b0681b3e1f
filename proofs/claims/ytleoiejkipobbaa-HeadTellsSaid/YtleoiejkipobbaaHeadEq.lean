/-
  Headers compared, and the law's own helpers: no statement is proved here.
-/
import Derived.Test.YtleoiejkipobbaaHeadGet
namespace Go.Proofs.Ytleoiejkipobbaa.Head
open Go.RowKit Go.Proofs.Ytleoiejkipobbaa.Base Go.Proofs.Ytleoiejkipobbaa.NumM Go.Proofs.Ytleoiejkipobbaa.Num

theorem Hd.ext_iff' (g k : Hd) : g = k ↔ (g.name = k.name ∧ g.pre = k.pre ∧ g.link = k.link ∧ g.mode = k.mode ∧ g.uid = k.uid ∧ g.gid = k.gid ∧ g.size = k.size ∧ g.time = k.time ∧ g.ty = k.ty ∧ g.off = k.off ∧ g.real = k.real) := by
  cases g; cases k; simp
set_option maxRecDepth 100000 in
theorem eq_heads (g k : Hd) (w : World) : (Op.equalIn 10000 23 (hv g) (hv k)).run Try.prog w = .ok (decide (g = k)) w := by
  rw [show (10000 : Nat) = 9999 + 1 from rfl, run_equalIn_struct (P := Try.prog) w 9999 23 _ _ (by kernel_rfl) (by kernel_rfl)]
  have hf : (Try.prog.fieldsOf 23).toList = (Try.prog.fieldsOf 23).toList := rfl
  conv at hf => rhs; whnf
  rw [hf]
  go_simp
  have hty : ((g.ty.toNat : Int) = (k.ty.toNat : Int)) ↔ g.ty = k.ty := by
    constructor
    · intro h
      exact UInt8.toNat_inj.1 (by omega)
    · intro h
      rw [h]
  by_cases h : g = k
  · subst h
    simp
  · rw [decide_eq_false h]
    rw [Hd.ext_iff', ← hty] at h
    clear hty hf
    repeat' split
    all_goals first | rfl | exact absurd (by simp only [*, and_self]) h

def oneH (name : L) (size : Int) : Hd := ⟨name, [], [], 420, 0, 0, size, 1000, 48, 0, 0⟩
set_option maxRecDepth 100000 in
theorem one_s (name : L) (size : Int) (w : World) : Calls Try.prog 39 #[.string ⟨name.toArray⟩, .int .i64 size] w fun e w' => e = .returned (hv (oneH name size)) ∧ Stp w w' := by
  have h0 := Stp.refl w
  go_enter Try.func39, Try.ntmps39
  go_wp2_with fail
  have hf := Blk.new w 23 (hcells (oneH name size))
  have hst := Stp.alloc h0 (.cells (hcells (oneH name size)) 23)
  obtain ⟨gz, hgz⟩ : ∃ x, w.heap.size = x := ⟨_, rfl⟩
  rw [hgz] at hf
  change bodyPost _ _ _ _ _ (w.alloc (.cells (hcells (oneH name size)) 23))
  generalize w.alloc (.cells (hcells (oneH name size)) 23) = W at hf hst ⊢
  obtain ⟨p0, p1, p2, p3, p4, p5, p6, p7, p8, p9, p10⟩ := hd_cells hf
  refine bodyPost_ret (v := hv (oneH name size)) (by simp [results, Try.results39, go_sem, *]) rfl ⟨rfl, hst⟩

def fewB (h : Hd) : Bool := decide (h.name.length ≤ 200) && decide (h.pre.length ≤ 200) && decide (h.link.length ≤ 200)
set_option maxRecDepth 100000 in
theorem few_s (h : Hd) (w : World) : Calls Try.prog 12 #[hv h] w fun e w' => e = .returned (.bool (fewB h)) ∧ Stp w w' := by
  have h0 := Stp.refl w
  go_enter Try.func12, Try.ntmps12
  go_wp2_with fail
  all_goals go_ret
  all_goals refine ⟨congrArg (fun b => Ending.returned (.bool b)) ?_, Stp.alloc h0 _⟩
  all_goals (unfold fewB; rw [Bool.eq_iff_iff])
  · simp only [Bool.and_eq_true, decide_eq_true_eq]; omega
  · simp only [Bool.false_eq_true, Bool.and_eq_true, decide_eq_true_eq]
    exact ⟨fun h => h.elim, fun h => by omega⟩
  · simp only [Bool.false_eq_true, Bool.and_eq_true, decide_eq_true_eq]
    exact ⟨fun h => h.elim, fun h => by omega⟩

theorem one_small : SmallH (oneH [97] 0) := by constructor <;> decide
theorem one_may : mayH (oneH [97] 0) = true := by decide +kernel
theorem one_code : codeB (blk (oneH [97] 0)) = 0 := by decide +kernel
theorem one_get : getH (blk (oneH [97] 0)) = oneH [97] 0 := by decide +kernel
theorem one_len : (blk (oneH [97] 0)).length = 512 := blk_length one_may one_small
theorem one_257 : (blk (oneH [97] 0))[257]? = some 117 := by decide +kernel
theorem one_148 : (blk (oneH [97] 0))[148]? = some 48 := by decide +kernel
theorem one_sum : decide (0 < sumI (blk (oneH [97] 0))) = true := by decide +kernel
theorem zero_code : codeB (zeros 512) = 4 := by decide +kernel
end Go.Proofs.Ytleoiejkipobbaa.Head
