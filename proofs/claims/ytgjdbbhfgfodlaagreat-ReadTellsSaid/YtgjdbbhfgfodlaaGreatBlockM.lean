/-
  Blocks of bytes as plain lists: no program, no statement is proved here.
-/
import Std
namespace Go.Proofs.YtgjdbbhfgfodlaaGreat.BlockM

abbrev L := List UInt8

/-- n bytes 0. -/
def noughts (n : Nat) : L := List.replicate n 0
/-- The first block of what is left of a text. -/
def blk (s : L) : L := s.take 512 ++ noughts (512 - s.length)
/-- The first n blocks of a text. -/
def blks : Nat → L → List L
  | 0, _ => []
  | n + 1, s => blk s :: blks n (s.drop 512)
def manyN (n : Nat) : Nat := (n + 511) / 512
def cutV (s : L) : List L := blks (manyN s.length) s
def zeroV (b : L) : Bool := b.all fun x => decide (x = 0)
theorem noughts_length (n : Nat) : (noughts n).length = n := by simp [noughts]
theorem blk_length (s : L) : (blk s).length = 512 := by
  rw [blk, List.length_append, List.length_take, noughts_length]
  omega
theorem blks_length (n : Nat) (s : L) : (blks n s).length = n := by
  induction n generalizing s with
  | zero => rfl
  | succ n ih => rw [blks, List.length_cons, ih]
/-! ### how many -/
theorem manyN_le (n : Nat) : n ≤ 512 * manyN n := by unfold manyN; omega
theorem manyN_small {n k : Nat} (h : n ≤ 512 * k) : manyN n ≤ k := by unfold manyN; omega
/-! ### what is cut is told again -/
theorem cutV_length (s : L) : (cutV s).length = manyN s.length := blks_length _ _
theorem blk_at {s : L} {j : Nat} (h : j < 512) : (blk s)[j]? = some (if j < s.length then s[j]?.getD 0 else 0) := by
  rw [blk]
  by_cases hj : j < s.length
  · rw [List.getElem?_append_left (by rw [List.length_take]; omega), List.getElem?_take, if_pos h, if_pos hj, List.getElem?_eq_getElem hj]
    rfl
  · rw [List.getElem?_append_right (by rw [List.length_take]; omega), if_neg hj, noughts, List.getElem?_replicate, if_pos (by rw [List.length_take]; omega)]
/-! ### texts of blocks -/
/-! ### noughts -/
theorem zeroV_iff {b : L} : zeroV b = true ↔ b = noughts b.length := by
  simp only [zeroV, List.all_eq_true, decide_eq_true_eq]
  exact List.eq_replicate_iff.trans ⟨fun h => h.2, fun h => ⟨rfl, h⟩⟩ |>.symm
/-! ### joined; apart -/
end Go.Proofs.YtgjdbbhfgfodlaaGreat.BlockM
