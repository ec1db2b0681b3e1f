/-
  The contract of the document's Get (package reelkeeperref01): no statement is proved here.
-/
import Derived.Test.YtihigbaaajmjlaaNumRef
namespace Go.Proofs.Ytihigbaaajmjlaa.Num
open Go.RowKit Go.Proofs.Ytihigbaaajmjlaa.Base Go.Proofs.Ytihigbaaajmjlaa.NumM

/-- What Get answers for these bytes. -/
def GetIs (l : List UInt8) (e : Ending) : Prop := (∀ N, IsNum l N → e = .returned (.tuple #[.int .i64 (N : Int), .bool true])) ∧ ((∀ N, ¬ IsNum l N) → e = .returned (.tuple #[.int .i64 0, .bool false]))
theorem getIs_no {l : List UInt8} (h : ∀ N, ¬ IsNum l N) : GetIs l (.returned (.tuple #[.int .i64 0, .bool false])) := ⟨fun N hN => absurd hN (h N), fun _ => rfl⟩

/-- The value that was read, behind k bytes. -/
def Val (l : List UInt8) (k : Nat) (g : Int) : Prop := ∀ N, IsNum l N → (l[0]? = some 128 → g = ((N / 256 ^ (l.length - k) : Nat) : Int)) ∧ (l[0]? ≠ some 128 → g = ((N / 8 ^ (l.length - 1 - k) : Nat) : Int))

theorem val_zero (l : List UInt8) : Val l 0 0 := by
  intro N hN
  refine ⟨fun _ => ?_, fun h => ?_⟩
  · have h1 := hN.fits
    have h2 : (256 : Nat) ^ (l.length - 1) ≤ 256 ^ (l.length - 0) := Nat.pow_le_pow_right (by omega) (by omega)
    rw [Nat.div_eq_of_lt (by omega)]
    rfl
  · have h1 := (hN.few h).1
    rw [Nat.sub_zero, Nat.div_eq_of_lt h1]
    rfl
theorem val_mark_first {l : List UInt8} {g : Int} (h0 : l[0]? = some 128) (h : Val l 0 g) : Val l 1 g := by
  intro N hN
  refine ⟨fun _ => ?_, fun h => absurd h0 h⟩
  have h1 := hN.fits
  have h2 : (256 : Nat) ^ (l.length - 1) ≤ 256 ^ (l.length - 0) := Nat.pow_le_pow_right (by omega) (by omega)
  rw [(h N hN).1 h0, Nat.div_eq_of_lt (by omega), Nat.div_eq_of_lt h1]
theorem val_mark_next {l : List UInt8} {k : Nat} {g y : Int} (h0 : l[0]? = some 128) (hk : k + 1 < l.length) (hy : y = (l[k + 1].toNat : Int)) (h : Val l (k + 1) g) : Val l (k + 1 + 1) (wrap64 (wrap64 (256 * g) + y)) := by
  intro N hN
  refine ⟨fun _ => ?_, fun h => absurd h0 h⟩
  have e := (step_fold 256 N (l.length - (k + 1 + 1)) g y hN.small (by rw [(h N hN).1 h0, show l.length - (k + 1 + 1) + 1 = l.length - (k + 1) by omega]) (by
    rw [hy, hN.mark_at h0 (k := k) hk hk, show l.length - 2 - k = l.length - (k + 1 + 1) by omega])).1
  rw [Int.mul_comm]
  exact e
theorem val_few_next {l : List UInt8} {k : Nat} {g y : Int} (h0 : l[0]? ≠ some 128) (hk : k + 1 < l.length) (hy : y = (l[k].toNat : Int)) (h : Val l k g) : Val l (k + 1) (wrap64 (wrap64 (8 * g) + (y - 48))) := by
  intro N hN
  refine ⟨fun h => absurd h h0, fun _ => ?_⟩
  have hg := (h N hN).2 h0
  have hy2 : y - 48 = ((N / 8 ^ (l.length - 2 - k) % 8 : Nat) : Int) := by
    rw [hy, hN.few_at h0 (k := k) (by omega) (by omega)]; omega
  have e := (step_fold 8 N (l.length - 2 - k) g (y - 48) hN.small (by rw [hg, show l.length - 2 - k + 1 = l.length - 1 - k by omega]) hy2).1
  rw [Int.mul_comm, show l.length - 1 - (k + 1) = l.length - 2 - k by omega]
  exact e
theorem val_few_last {l : List UInt8} {k : Nat} {g : Int} (h0 : l[0]? ≠ some 128) (hk : l.length ≤ k + 1) (h : Val l k g) : Val l (k + 1) g := by
  intro N hN
  refine ⟨fun h => absurd h h0, fun _ => ?_⟩
  rw [(h N hN).2 h0, show l.length - 1 - (k + 1) = l.length - 1 - k by omega]
theorem val_few_none {l : List UInt8} {k : Nat} {g' y : Int} (h0 : l[0]? ≠ some 128) (hk : k + 1 < l.length) (hy : y = (l[k].toNat : Int)) (hb : y < 48 ∨ 55 < y) : Val l (k + 1) g' := by
  intro N hN
  exfalso
  have := hN.few_at h0 (k := k) (by omega) (by omega)
  have h8 := Nat.mod_lt (N / 8 ^ (l.length - 2 - k)) (show 0 < 8 by omega)
  omega
theorem val_big {l : List UInt8} {k : Nat} {g : Int} (h0 : l[0]? = some 128) (hk : k < l.length) (hg : 36028797018963967 < g) (h : Val l k g) : ∀ N, ¬ IsNum l N := by
  intro N hN
  have h1 := (h N hN).1 h0
  obtain ⟨m, hm⟩ : ∃ m, l.length - k = m + 1 := ⟨l.length - k - 1, by omega⟩
  rw [hm, Nat.pow_succ, ← Nat.div_div_eq_div_mul] at h1
  have h2 := Nat.div_le_self N (256 ^ m)
  have h3 := hN.small
  generalize N / 256 ^ m = q at h1 h2
  omega

end Go.Proofs.Ytihigbaaajmjlaa.Num
