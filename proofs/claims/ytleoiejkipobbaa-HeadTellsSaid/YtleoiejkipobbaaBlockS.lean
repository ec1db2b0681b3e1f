/-
  The statements' helpers for blocks (long, Few, awake): no statement is proved here.
-/
import Derived.Test.YtleoiejkipobbaaBlockC
namespace Go.Proofs.Ytleoiejkipobbaa.Block
open Go.RowKit Go.Shelf Go.Proofs.Ytleoiejkipobbaa.Base Go.Proofs.Ytleoiejkipobbaa.BlockM Go.Proofs.Ytleoiejkipobbaa.Str

theorem stp_of_grown {w w1 : World} (h : w.grownBy w1 none) : Stp w w1 := ⟨h.os, h.tape, h.output, h.size, fun j hj => h.block j hj (by simp)⟩
/-- A row of bytes 0, as a string. -/
theorem noughts_str {w : World} {g k : Nat} (h : Blk w g 5 (Array.replicate k (.int .u8 0))) (hk : k ≤ 100000) :
    (convert 24 9 (.slice (some ⟨g, 0, none⟩) k k)).run Try.prog w = .ok (.string ⟨(noughts k).toArray⟩) w := by
  have hrd : Rd w w.heap.size (.slice (some ⟨g, 0, none⟩) k k) (bs (noughts k)) := by
    have h' := (Base.Own.of_blk (lo := 0) h (Nat.zero_le _) (n := k) (by simp) (by unfold maxLen; omega)).rd
    simpa [noughts, bs] using h'
  exact run_string_rd (P := Try.prog) w 24 9 5 Try.underlying24 Try.underlying5 Try.underlying9 _ _ _ hrd

/-- k bytes, the first i of them 1, the others 0. -/
def ones (k i : Nat) : L := List.replicate i 1 ++ noughts (k - i)
theorem ones_length {k i : Nat} (h : i ≤ k) : (ones k i).length = k := by simp [ones, noughts]; omega
theorem ones_set {k i : Nat} (h : i < k) : (ones k i).set i 1 = ones k (i + 1) := by
  obtain ⟨j, hj⟩ : ∃ j, k - i = j + 1 := ⟨k - i - 1, by omega⟩
  rw [ones, ones, noughts, hj, List.replicate_succ, List.set_append_right _ _ (by simp), List.length_replicate, Nat.sub_self, List.set_cons_zero, List.replicate_succ', noughts, show k - (i + 1) = j by omega]
  simp

/-- At most 60 blocks, of at most 600 bytes each? -/
def fewV (ls : List L) : Bool := decide (ls.length ≤ 60) && ls.all fun b => decide (b.length ≤ 600)
theorem fewV_iff {ls : List L} : fewV ls = true ↔ ls.length ≤ 60 ∧ ∀ b ∈ ls, b.length ≤ 600 := by simp [fewV]

/-- The chapter's example: 513 bytes 1 take two blocks. -/
theorem example_facts {s : L} (hs : s = List.replicate 513 1) :
    s.length = 513 ∧ (cutV s).length = 2 ∧ (cutV s)[1]? = some (1 :: noughts 511) := by
  have hl : s.length = 513 := by rw [hs, List.length_replicate]
  refine ⟨hl, by rw [cutV_length, hl]; rfl, ?_⟩
  rw [cutV_at (by rw [hl]; decide), hs, List.drop_replicate, blk]
  rfl

end Go.Proofs.Ytleoiejkipobbaa.Block
