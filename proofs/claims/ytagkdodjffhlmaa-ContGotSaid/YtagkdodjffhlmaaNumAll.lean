/-
  Contracts of the document's answers for numbers (package reelkeeperref01): Octal and Put: no statement is proved here.
  The contract of the document's Get (package reelkeeperref01): no statement is proved here.
  num's answers, and the document's, as one function each: no statement is proved here.
-/
import Derived.Test.YtagkdodjffhlmaaNum
namespace Go.Proofs.Ytagkdodjffhlmaa.Num
open Go.RowKit Go.Proofs.Ytagkdodjffhlmaa.Base Go.Proofs.Ytagkdodjffhlmaa.NumM

/-- The digit that is cut out. -/
theorem digit_cut (y : Int) (h0 : 0 ≤ y) (h7 : y ≤ 7) (w : World) :
    (Instr.slice 9 (.string ⟨#[48, 49, 50, 51, 52, 53, 54, 55]⟩) (some (.int .i64 y)) (some (.int .i64 (y + 1))) none).run Try.prog w = .ok (.string ⟨#[oc y.toNat]⟩) w := by
  rw [run_slice_string (P := Try.prog) w 9 _ .i64 .i64 y (y + 1) Try.underlying9 h0 (by omega) (by show y + 1 ≤ 8; omega)]
  have h : y = 0 ∨ y = 1 ∨ y = 2 ∨ y = 3 ∨ y = 4 ∨ y = 5 ∨ y = 6 ∨ y = 7 := by omega
  rcases h with rfl | rfl | rfl | rfl | rfl | rfl | rfl | rfl <;> rfl

end Go.Proofs.Ytagkdodjffhlmaa.Num

namespace Go.Proofs.Ytagkdodjffhlmaa.Num
open Go.RowKit Go.Proofs.Ytagkdodjffhlmaa.Base Go.Proofs.Ytagkdodjffhlmaa.NumM

/-- What Get answers for these bytes. -/
def GetIs (l : List UInt8) (e : Ending) : Prop := (∀ N, IsNum l N → e = .returned (.tuple #[.int .i64 (N : Int), .bool true])) ∧ ((∀ N, ¬ IsNum l N) → e = .returned (.tuple #[.int .i64 0, .bool false]))
theorem getIs_no {l : List UInt8} (h : ∀ N, ¬ IsNum l N) : GetIs l (.returned (.tuple #[.int .i64 0, .bool false])) := ⟨fun N hN => absurd hN (h N), fun _ => rfl⟩

/-- The value that was read, behind k bytes. -/
def Val (l : List UInt8) (k : Nat) (g : Int) : Prop := ∀ N, IsNum l N → (l[0]? = some 128 → g = ((N / 256 ^ (l.length - k) : Nat) : Int)) ∧ (l[0]? ≠ some 128 → g = ((N / 8 ^ (l.length - 1 - k) : Nat) : Int))

theorem val_zero (l : List UInt8) : Val l 0 0 := by
  intro N hN
  refine ⟨fun _ => ?_, fun h => ?_⟩
  · have h1 := hN.fits
    have h2 : (256 : Nat) ^ (l.length - 1) ≤ 256 ^ (l.length - 0) := Nat.pow_le_pow_right (by omega) (by omega)
    rw [Nat.div_eq_of_lt (by omega)]
    rfl
  · have h1 := (hN.few h).1
    rw [Nat.sub_zero, Nat.div_eq_of_lt h1]
    rfl
theorem val_mark_first {l : List UInt8} {g : Int} (h0 : l[0]? = some 128) (h : Val l 0 g) : Val l 1 g := by
  intro N hN
  refine ⟨fun _ => ?_, fun h => absurd h0 h⟩
  have h1 := hN.fits
  have h2 : (256 : Nat) ^ (l.length - 1) ≤ 256 ^ (l.length - 0) := Nat.pow_le_pow_right (by omega) (by omega)
  rw [(h N hN).1 h0, Nat.div_eq_of_lt (by omega), Nat.div_eq_of_lt h1]
theorem val_mark_next {l : List UInt8} {k : Nat} {g y : Int} (h0 : l[0]? = some 128) (hk : k + 1 < l.length) (hy : y = (l[k + 1].toNat : Int)) (h : Val l (k + 1) g) : Val l (k + 1 + 1) (wrap64 (wrap64 (256 * g) + y)) := by
  intro N hN
  refine ⟨fun _ => ?_, fun h => absurd h0 h⟩
  have e := (step_fold 256 N (l.length - (k + 1 + 1)) g y hN.small (by rw [(h N hN).1 h0, show l.length - (k + 1 + 1) + 1 = l.length - (k + 1) by omega]) (by
    rw [hy, hN.mark_at h0 (k := k) hk hk, show l.length - 2 - k = l.length - (k + 1 + 1) by omega])).1
  rw [Int.mul_comm]
  exact e
theorem val_few_next {l : List UInt8} {k : Nat} {g y : Int} (h0 : l[0]? ≠ some 128) (hk : k + 1 < l.length) (hy : y = (l[k].toNat : Int)) (h : Val l k g) : Val l (k + 1) (wrap64 (wrap64 (8 * g) + (y - 48))) := by
  intro N hN
  refine ⟨fun h => absurd h h0, fun _ => ?_⟩
  have hg := (h N hN).2 h0
  have hy2 : y - 48 = ((N / 8 ^ (l.length - 2 - k) % 8 : Nat) : Int) := by
    rw [hy, hN.few_at h0 (k := k) (by omega) (by omega)]; omega
  have e := (step_fold 8 N (l.length - 2 - k) g (y - 48) hN.small (by rw [hg, show l.length - 2 - k + 1 = l.length - 1 - k by omega]) hy2).1
  rw [Int.mul_comm, show l.length - 1 - (k + 1) = l.length - 2 - k by omega]
  exact e
theorem val_few_last {l : List UInt8} {k : Nat} {g : Int} (h0 : l[0]? ≠ some 128) (hk : l.length ≤ k + 1) (h : Val l k g) : Val l (k + 1) g := by
  intro N hN
  refine ⟨fun h => absurd h h0, fun _ => ?_⟩
  rw [(h N hN).2 h0, show l.length - 1 - (k + 1) = l.length - 1 - k by omega]
theorem val_few_none {l : List UInt8} {k : Nat} {g' y : Int} (h0 : l[0]? ≠ some 128) (hk : k + 1 < l.length) (hy : y = (l[k].toNat : Int)) (hb : y < 48 ∨ 55 < y) : Val l (k + 1) g' := by
  intro N hN
  exfalso
  have := hN.few_at h0 (k := k) (by omega) (by omega)
  have h8 := Nat.mod_lt (N / 8 ^ (l.length - 2 - k)) (show 0 < 8 by omega)
  omega
theorem val_big {l : List UInt8} {k : Nat} {g : Int} (h0 : l[0]? = some 128) (hk : k < l.length) (hg : 36028797018963967 < g) (h : Val l k g) : ∀ N, ¬ IsNum l N := by
  intro N hN
  have h1 := (h N hN).1 h0
  obtain ⟨m, hm⟩ : ∃ m, l.length - k = m + 1 := ⟨l.length - k - 1, by omega⟩
  rw [hm, Nat.pow_succ, ← Nat.div_div_eq_div_mul] at h1
  have h2 := Nat.div_le_self N (256 ^ m)
  have h3 := hN.small
  generalize N / 256 ^ m = q at h1 h2
  omega

end Go.Proofs.Ytagkdodjffhlmaa.Num

namespace Go.Proofs.Ytagkdodjffhlmaa.Num
open Go.RowKit Go.Proofs.Ytagkdodjffhlmaa.Base Go.Proofs.Ytagkdodjffhlmaa.NumM

/-- What Octal answers. -/
def octV (n d : Int) : ByteArray := if octOk n d = true then ⟨(octs d.toNat n.toNat).toArray⟩ else ⟨#[]⟩
def putV (n wide : Int) : List UInt8 := if putOk n wide = true then putL wide.toNat n.toNat else []

theorem oct_all (n d : Int) (w : World) (hn : n < 9223372036854775808) :
    Calls Try.prog 46 #[.int .i64 n, .int .i64 d] w fun e w' => e = .returned (.tuple #[.string (octV n d), .bool (octOk n d)]) ∧ Below w.heap.size w w' := by
  cases h : octOk n d
  · rw [octV, if_neg (by simp [h])]; exact oct_no n d w hn h
  · rw [octV, if_pos h]; exact oct_yes n d w hn h
theorem put_all (n wide : Int) (w : World) (hn : n < 9223372036854775808) :
    Calls Try.prog 52 #[.int .i64 n, .int .i64 wide] w fun e w' => ∃ v, e = .returned (.tuple #[v, .bool (putOk n wide)]) ∧ Own w' w.heap.size 5 v (bs (putV n wide)) ∧ Below w.heap.size w w' := by
  cases h : putOk n wide
  · rw [putV, if_neg (by simp [h])]; exact (put_no n wide w hn h).mono fun _ _ hh => ⟨_, hh.1, Own.nil _ _ _, hh.2⟩
  · rw [putV, if_pos h]; exact put_yes n wide w hn h
theorem get_all (l : List UInt8) (v : Value) (B : Nat) (w : World) (hv : Rd w B v (bs l)) (hB : B ≤ w.heap.size) (hbig : l.length < 9223372036854775808) :
    Calls Try.prog 48 #[v] w fun e w' => GetIs l e ∧ Below w.heap.size w w' := by
  by_cases hex : ∃ N, IsNum l N
  · obtain ⟨N, hN⟩ := hex
    refine (get_yes l N v B w hv hB hN).mono fun e w' h => ⟨⟨fun M hM => ?_, fun hno => absurd hN (hno N)⟩, h.2⟩
    rw [hM.same hN]
    exact h.1
  · exact (get_no l v B w hv hB hbig (fun N hN => hex ⟨N, hN⟩)).mono fun e w' h => ⟨⟨fun M hM => absurd ⟨M, hM⟩ hex, fun _ => h.1⟩, h.2⟩
/-- There is just one answer of Get. -/
theorem getIs_form (l : List UInt8) : ∃ (x : Int) (b : Bool), ∀ e, GetIs l e → e = .returned (.tuple #[.int .i64 x, .bool b]) := by
  by_cases hex : ∃ N, IsNum l N
  · obtain ⟨N, hN⟩ := hex
    exact ⟨N, true, fun e he => he.1 N hN⟩
  · exact ⟨0, false, fun e he => he.2 fun N hN => hex ⟨N, hN⟩⟩

end Go.Proofs.Ytagkdodjffhlmaa.Num

