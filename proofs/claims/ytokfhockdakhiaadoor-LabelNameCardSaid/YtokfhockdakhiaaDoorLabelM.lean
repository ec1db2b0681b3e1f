/-
  Labels: plain functions over bytes, and what follows of them: no Go, and no statement, is proved here.
-/
import Std
import Derived.Test.YtokfhockdakhiaaDoorHeadPut
namespace Go.Proofs.YtokfhockdakhiaaDoor.LabelM
set_option linter.unusedVariables false
open Go.Proofs.YtokfhockdakhiaaDoor.Head

/-- A number's decimal digits; none of 0. -/
def dig (n : Nat) : L := if h : n = 0 then [] else dig (n / 10) ++ [UInt8.ofNat (48 + n % 10)]
termination_by n
decreasing_by omega
def volS : L := [32, 86, 111, 108, 117, 109, 101, 32]
def mayLb (s : L) (n : Int) : Bool := s.all (fun x => x != 0) && decide (1 ≤ s.length) && decide (s.length ≤ 88) && decide (1 ≤ n) && decide (n ≤ 999)
def nameV (s : L) (n : Nat) : L := s ++ volS ++ dig n
def nameB (s : L) (n : Int) : L × Bool := if mayLb s n = true then (nameV s n.toNat, true) else ([], false)

theorem mayLb_iff {s : L} {n : Int} : mayLb s n = true ↔ (∀ x ∈ s, x ≠ 0) ∧ 1 ≤ s.length ∧ s.length ≤ 88 ∧ 1 ≤ n ∧ n ≤ 999 := by
  simp only [mayLb, Bool.and_eq_true, decide_eq_true_eq, List.all_eq_true, bne_iff_ne, and_assoc]
theorem dig_zero : dig 0 = [] := by
  unfold dig
  exact dif_pos rfl
theorem dig_more {n : Nat} (h : n ≠ 0) : dig n = dig (n / 10) ++ [UInt8.ofNat (48 + n % 10)] := by
  conv => lhs; unfold dig
  exact dif_neg h
/-- A digit's byte. -/
theorem digit_toNat (k : Nat) : (UInt8.ofNat (48 + k % 10)).toNat = 48 + k % 10 := by
  rw [UInt8.toNat_ofNat']
  omega
theorem dig_len {n : Nat} (h1 : 1 ≤ n) (h2 : n ≤ 999) : (dig n).length = if n < 10 then 1 else if n < 100 then 2 else 3 := by
  rw [dig_more (by omega)]
  by_cases h3 : n < 10
  · rw [if_pos h3, show n / 10 = 0 by omega, dig_zero]
    rfl
  · rw [if_neg h3, dig_more (n := n / 10) (by omega)]
    by_cases h4 : n < 100
    · rw [if_pos h4, show n / 10 / 10 = 0 by omega, dig_zero]
      rfl
    · rw [if_neg h4, dig_more (n := n / 10 / 10) (by omega), show n / 10 / 10 / 10 = 0 by omega, dig_zero]
      rfl
/-- The number that digits tell. -/
def numG (l : L) (a : Int) : Int := l.foldl (fun a x => 10 * a + ((x.toNat : Int) - 48)) a
def numV (l : L) : Int := numG l 0
theorem numG_append (a b : L) (x : Int) : numG (a ++ b) x = numG b (numG a x) := by simp [numG, List.foldl_append]
theorem num_dig (n : Nat) : numV (dig n) = (n : Int) := by
  induction n using Nat.strongRecOn with
  | _ n ih =>
    by_cases h : n = 0
    · subst h
      rw [dig_zero]
      rfl
    · rw [dig_more h, numV, numG_append]
      have h1 := ih (n / 10) (by omega)
      rw [numV] at h1
      rw [h1]
      show 10 * ((n / 10 : Nat) : Int) + (((UInt8.ofNat (48 + n % 10)).toNat : Int) - 48) = (n : Int)
      rw [digit_toNat]
      omega
theorem dig_bytes (n : Nat) : ∀ x ∈ dig n, 48 ≤ x.toNat ∧ x.toNat ≤ 57 := by
  induction n using Nat.strongRecOn with
  | _ n ih =>
    by_cases h : n = 0
    · subst h
      rw [dig_zero]
      simp
    · rw [dig_more h]
      intro x hx
      rcases List.mem_append.1 hx with hx | hx
      · exact ih (n / 10) (by omega) x hx
      · rw [List.mem_singleton.1 hx, digit_toNat]
        omega
theorem dig_head {n : Nat} (h : 1 ≤ n) : ∃ x l, dig n = x :: l ∧ x ≠ 48 := by
  induction n using Nat.strongRecOn with
  | _ n ih =>
    rw [dig_more (by omega)]
    by_cases h2 : n < 10
    · rw [show n / 10 = 0 by omega, dig_zero]
      refine ⟨_, [], rfl, fun e => ?_⟩
      have := congrArg UInt8.toNat e
      rw [digit_toNat] at this
      have e48 : (48 : UInt8).toNat = 48 := rfl
      omega
    · obtain ⟨x, l, e, hx⟩ := ih (n / 10) (by omega) (by omega)
      exact ⟨x, l ++ [UInt8.ofNat (48 + n % 10)], by rw [e]; rfl, hx⟩
theorem dig_inj {n m : Nat} (h : dig n = dig m) : n = m := by
  have h1 := num_dig n
  rw [h, num_dig] at h1
  omega
theorem volS_len : volS.length = 8 := rfl
theorem nameV_len (s : L) (n : Nat) : (nameV s n).length = s.length + 8 + (dig n).length := by
  simp only [nameV, List.length_append, volS_len]
/-- What the name's bytes tell: the label, and the number. -/
theorem nameV_inj {s t : L} {n m : Nat} (h : nameV s n = nameV t m) : s = t ∧ n = m := by
  have key : ∀ {s t : L} {n m : Nat}, nameV s n = nameV t m → (dig n).length < (dig m).length → False := by
    intro s t n m h hl
    have hlen := congrArg List.length h
    rw [nameV_len, nameV_len] at hlen
    have e1 : (nameV s n)[s.length + 7]? = some 32 := by
      rw [nameV, List.append_assoc, List.getElem?_append_right (by omega), List.getElem?_append_left (by rw [volS_len]; omega)]
      have : s.length + 7 - s.length = 7 := by omega
      rw [this]
      rfl
    rw [h, nameV, List.getElem?_append_right (by simp [volS_len]; omega)] at e1
    have := dig_bytes m _ (List.mem_of_getElem? e1)
    have e32 : (32 : UInt8).toNat = 32 := rfl
    omega
  have hl : (dig n).length = (dig m).length := by
    rcases Nat.lt_trichotomy (dig n).length (dig m).length with hh | hh | hh
    · exact absurd (key h hh) id
    · exact hh
    · exact absurd (key h.symm hh) id
  rw [nameV, nameV, List.append_assoc, List.append_assoc] at h
  have hlen := congrArg List.length h
  simp only [List.length_append, hl] at hlen
  obtain ⟨e1, e2⟩ := List.append_inj h (by omega)
  exact ⟨e1, dig_inj (List.append_cancel_left e2)⟩
/-- The header of a label. -/
def headV (x : L) : Hd := ⟨x, [], [], 0, 0, 0, 0, 0, 86, 0, 0⟩
theorem nameV_ok {s : L} {n : Int} (h : mayLb s n = true) : (nameV s n.toNat).length ≤ 99 ∧ 10 ≤ (nameV s n.toNat).length ∧ ∀ x ∈ nameV s n.toNat, x ≠ 0 := by
  obtain ⟨h1, h2, h3, h4, h5⟩ := mayLb_iff.1 h
  have hl := dig_len (n := n.toNat) (by omega) (by omega)
  refine ⟨?_, ?_, fun x hx => ?_⟩
  · rw [nameV_len, hl]
    split
    · omega
    · split <;> omega
  · rw [nameV_len, hl]
    split
    · omega
    · split <;> omega
  · rw [nameV] at hx
    rcases List.mem_append.1 hx with hx | hx
    · rcases List.mem_append.1 hx with hx | hx
      · exact h1 x hx
      · rintro rfl
        revert hx
        decide
    · rintro rfl
      have := dig_bytes _ _ hx
      have e0 : (0 : UInt8).toNat = 0 := rfl
      omega
def putL (s : L) (n : Int) : L × Bool := if mayLb s n = true then (Head.blk (headV (nameV s n.toNat)), true) else ([], false)
end Go.Proofs.YtokfhockdakhiaaDoor.LabelM
