/-
  Labels: plain functions over bytes, and what follows of them: no Go, and no statement, is proved here.
  Labels and headers: plain functions over bytes, and what follows of them: no Go, and no statement, is proved here.
-/
import Std
import Derived.Test.YtopihahjjcpnpaaGreatDoorHeadPut
import Derived.Test.YtopihahjjcpnpaaGreatDoorHeadM3
namespace Go.Proofs.YtopihahjjcpnpaaGreatDoor.LabelM
set_option linter.unusedVariables false
open Go.Proofs.YtopihahjjcpnpaaGreatDoor.Head

/-- A number's decimal digits; none of 0. -/
def dig (n : Nat) : L := if h : n = 0 then [] else dig (n / 10) ++ [UInt8.ofNat (48 + n % 10)]
termination_by n
decreasing_by omega
def volS : L := [32, 86, 111, 108, 117, 109, 101, 32]
def mayLb (s : L) (n : Int) : Bool := s.all (fun x => x != 0) && decide (1 ≤ s.length) && decide (s.length ≤ 88) && decide (1 ≤ n) && decide (n ≤ 999)
def nameV (s : L) (n : Nat) : L := s ++ volS ++ dig n
def nameB (s : L) (n : Int) : L × Bool := if mayLb s n = true then (nameV s n.toNat, true) else ([], false)

theorem mayLb_iff {s : L} {n : Int} : mayLb s n = true ↔ (∀ x ∈ s, x ≠ 0) ∧ 1 ≤ s.length ∧ s.length ≤ 88 ∧ 1 ≤ n ∧ n ≤ 999 := by
  simp only [mayLb, Bool.and_eq_true, decide_eq_true_eq, List.all_eq_true, bne_iff_ne, and_assoc]
theorem dig_zero : dig 0 = [] := by
  unfold dig
  exact dif_pos rfl
theorem dig_more {n : Nat} (h : n ≠ 0) : dig n = dig (n / 10) ++ [UInt8.ofNat (48 + n % 10)] := by
  conv => lhs; unfold dig
  exact dif_neg h
/-- A digit's byte. -/
theorem digit_toNat (k : Nat) : (UInt8.ofNat (48 + k % 10)).toNat = 48 + k % 10 := by
  rw [UInt8.toNat_ofNat']
  omega
theorem dig_len {n : Nat} (h1 : 1 ≤ n) (h2 : n ≤ 999) : (dig n).length = if n < 10 then 1 else if n < 100 then 2 else 3 := by
  rw [dig_more (by omega)]
  by_cases h3 : n < 10
  · rw [if_pos h3, show n / 10 = 0 by omega, dig_zero]
    rfl
  · rw [if_neg h3, dig_more (n := n / 10) (by omega)]
    by_cases h4 : n < 100
    · rw [if_pos h4, show n / 10 / 10 = 0 by omega, dig_zero]
      rfl
    · rw [if_neg h4, dig_more (n := n / 10 / 10) (by omega), show n / 10 / 10 / 10 = 0 by omega, dig_zero]
      rfl
/-- The number that digits tell. -/
def numG (l : L) (a : Int) : Int := l.foldl (fun a x => 10 * a + ((x.toNat : Int) - 48)) a
def numV (l : L) : Int := numG l 0
theorem numG_append (a b : L) (x : Int) : numG (a ++ b) x = numG b (numG a x) := by simp [numG, List.foldl_append]
theorem num_dig (n : Nat) : numV (dig n) = (n : Int) := by
  induction n using Nat.strongRecOn with
  | _ n ih =>
    by_cases h : n = 0
    · subst h
      rw [dig_zero]
      rfl
    · rw [dig_more h, numV, numG_append]
      have h1 := ih (n / 10) (by omega)
      rw [numV] at h1
      rw [h1]
      show 10 * ((n / 10 : Nat) : Int) + (((UInt8.ofNat (48 + n % 10)).toNat : Int) - 48) = (n : Int)
      rw [digit_toNat]
      omega
theorem dig_bytes (n : Nat) : ∀ x ∈ dig n, 48 ≤ x.toNat ∧ x.toNat ≤ 57 := by
  induction n using Nat.strongRecOn with
  | _ n ih =>
    by_cases h : n = 0
    · subst h
      rw [dig_zero]
      simp
    · rw [dig_more h]
      intro x hx
      rcases List.mem_append.1 hx with hx | hx
      · exact ih (n / 10) (by omega) x hx
      · rw [List.mem_singleton.1 hx, digit_toNat]
        omega
theorem dig_head {n : Nat} (h : 1 ≤ n) : ∃ x l, dig n = x :: l ∧ x ≠ 48 := by
  induction n using Nat.strongRecOn with
  | _ n ih =>
    rw [dig_more (by omega)]
    by_cases h2 : n < 10
    · rw [show n / 10 = 0 by omega, dig_zero]
      refine ⟨_, [], rfl, fun e => ?_⟩
      have := congrArg UInt8.toNat e
      rw [digit_toNat] at this
      have e48 : (48 : UInt8).toNat = 48 := rfl
      omega
    · obtain ⟨x, l, e, hx⟩ := ih (n / 10) (by omega) (by omega)
      exact ⟨x, l ++ [UInt8.ofNat (48 + n % 10)], by rw [e]; rfl, hx⟩
theorem dig_inj {n m : Nat} (h : dig n = dig m) : n = m := by
  have h1 := num_dig n
  rw [h, num_dig] at h1
  omega
theorem volS_len : volS.length = 8 := rfl
theorem nameV_len (s : L) (n : Nat) : (nameV s n).length = s.length + 8 + (dig n).length := by
  simp only [nameV, List.length_append, volS_len]
/-- What the name's bytes tell: the label, and the number. -/
theorem nameV_inj {s t : L} {n m : Nat} (h : nameV s n = nameV t m) : s = t ∧ n = m := by
  have key : ∀ {s t : L} {n m : Nat}, nameV s n = nameV t m → (dig n).length < (dig m).length → False := by
    intro s t n m h hl
    have hlen := congrArg List.length h
    rw [nameV_len, nameV_len] at hlen
    have e1 : (nameV s n)[s.length + 7]? = some 32 := by
      rw [nameV, List.append_assoc, List.getElem?_append_right (by omega), List.getElem?_append_left (by rw [volS_len]; omega)]
      have : s.length + 7 - s.length = 7 := by omega
      rw [this]
      rfl
    rw [h, nameV, List.getElem?_append_right (by simp [volS_len]; omega)] at e1
    have := dig_bytes m _ (List.mem_of_getElem? e1)
    have e32 : (32 : UInt8).toNat = 32 := rfl
    omega
  have hl : (dig n).length = (dig m).length := by
    rcases Nat.lt_trichotomy (dig n).length (dig m).length with hh | hh | hh
    · exact absurd (key h hh) id
    · exact hh
    · exact absurd (key h.symm hh) id
  rw [nameV, nameV, List.append_assoc, List.append_assoc] at h
  have hlen := congrArg List.length h
  simp only [List.length_append, hl] at hlen
  obtain ⟨e1, e2⟩ := List.append_inj h (by omega)
  exact ⟨e1, dig_inj (List.append_cancel_left e2)⟩
/-- The header of a label. -/
def headV (x : L) : Hd := ⟨x, [], [], 0, 0, 0, 0, 0, 86, 0, 0⟩
theorem nameV_ok {s : L} {n : Int} (h : mayLb s n = true) : (nameV s n.toNat).length ≤ 99 ∧ 10 ≤ (nameV s n.toNat).length ∧ ∀ x ∈ nameV s n.toNat, x ≠ 0 := by
  obtain ⟨h1, h2, h3, h4, h5⟩ := mayLb_iff.1 h
  have hl := dig_len (n := n.toNat) (by omega) (by omega)
  refine ⟨?_, ?_, fun x hx => ?_⟩
  · rw [nameV_len, hl]
    split
    · omega
    · split <;> omega
  · rw [nameV_len, hl]
    split
    · omega
    · split <;> omega
  · rw [nameV] at hx
    rcases List.mem_append.1 hx with hx | hx
    · rcases List.mem_append.1 hx with hx | hx
      · exact h1 x hx
      · rintro rfl
        revert hx
        decide
    · rintro rfl
      have := dig_bytes _ _ hx
      have e0 : (0 : UInt8).toNat = 0 := rfl
      omega
def putL (s : L) (n : Int) : L × Bool := if mayLb s n = true then (Head.blk (headV (nameV s n.toNat)), true) else ([], false)
end Go.Proofs.YtopihahjjcpnpaaGreatDoor.LabelM

namespace Go.Proofs.YtopihahjjcpnpaaGreatDoor.LabelM
open Go.Proofs.YtopihahjjcpnpaaGreatDoor.Head
set_option linter.unusedVariables false

theorem headV_small {x : L} (h : x.length ≤ 100) : SmallH (headV x) := ⟨by simp only [headV]; omega, by simp [headV], by simp [headV], by simp [headV], by simp [headV], by simp [headV], by simp [headV], by simp [headV], by simp [headV], by simp [headV]⟩
theorem okT_iff {s : L} {n : Nat} : okT s n = true ↔ s.length ≤ n ∧ ∀ x ∈ s, x ≠ 0 := by
  rw [okT, Bool.and_eq_true, decide_eq_true_eq, Bool.not_eq_true', List.contains_eq_mem, decide_eq_false_iff_not]
  exact ⟨fun ⟨a, b⟩ => ⟨a, fun x hx e => b (e ▸ hx)⟩, fun ⟨a, b⟩ => ⟨a, fun h => b 0 h rfl⟩⟩
theorem headV_may {x : L} (h1 : x ≠ []) (h2 : x.length ≤ 100) (h3 : ∀ c ∈ x, c ≠ 0) : mayH (headV x) = true := by
  have e1 : okT x 100 = true := okT_iff.2 ⟨h2, h3⟩
  have e2 : x.isEmpty = false := by cases x with
    | nil => exact absurd rfl h1
    | cons a l => rfl
  have e3 : mayH (headV x) = (!x.isEmpty && typs.contains 86 && (decide ((0 : Int) = 0) && decide ((0 : Int) = 0)) && (okT x 100 && okT [] 100 && (decide ((86 : UInt8) = 77) || okT [] 155)) && numsOk (headV x)) := rfl
  have e4 : numsOk (headV x) = true := rfl
  rw [e3, e1, e2, e4]
  rfl
theorem name_may {s : L} {n : Int} (h : mayLb s n = true) : mayH (headV (nameV s n.toNat)) = true ∧ SmallH (headV (nameV s n.toNat)) := by
  obtain ⟨h1, h2, h3⟩ := nameV_ok h
  exact ⟨headV_may (by rintro e; rw [e] at h2; simp at h2) (by omega) h3, headV_small (by omega)⟩
theorem ok_blk {l : L} (h : codeB l = 0) : mayH (getH l) = true ∧ Head.blk (getH l) = l ∧ l.length = 512 := by
  unfold getH
  rw [if_pos h]
  unfold codeB at h
  split at h
  · rename_i h1
    split at h
    · cases h
    · split at h
      · split at h
        · rename_i h4
          exact ⟨h4.1, h4.2, h1⟩
        · cases h
      · cases h
  · cases h
/-- What is put, is got. -/
theorem put_code {s : L} {n : Int} (h : mayLb s n = true) : codeB (Head.blk (headV (nameV s n.toNat))) = 0 ∧ getH (Head.blk (headV (nameV s n.toNat))) = headV (nameV s n.toNat) :=
  ⟨code_blk (name_may h).1 (name_may h).2, get_blk (name_may h).1 (name_may h).2⟩
theorem putL_inj {s t : L} {n m : Int} (h : mayLb s n = true) (k : mayLb t m = true) (e : Head.blk (headV (nameV s n.toNat)) = Head.blk (headV (nameV t m.toNat))) : s = t ∧ n = m := by
  have h1 := congrArg getH e
  rw [(put_code h).2, (put_code k).2] at h1
  have h2 : nameV s n.toNat = nameV t m.toNat := congrArg Hd.name h1
  obtain ⟨h3, h4⟩ := nameV_inj h2
  have := mayLb_iff.1 h
  have := mayLb_iff.1 k
  exact ⟨h3, by omega⟩
/-- One try: so many bytes behind the label. -/
def tryD (b x : L) (d : Nat) : Option (L × Int) := if d < x.length ∧ putL (x.take (x.length - d)) (numV (x.drop (x.length - d + 8))) = (b, true) then some (x.take (x.length - d), numV (x.drop (x.length - d + 8))) else none
def getL (b : L) : L × Int × Int :=
  if codeB b ≠ 0 then ([], 0, codeB b)
  else match ((tryD b (getH b).name 9).or (tryD b (getH b).name 10)).or (tryD b (getH b).name 11) with
    | some (s, n) => (s, n, 0)
    | none => ([], 0, 11)
theorem putL_yes {s : L} {n : Int} {b : L} : putL s n = (b, true) ↔ mayLb s n = true ∧ Head.blk (headV (nameV s n.toNat)) = b := by
  rw [putL]
  split
  · rename_i h
    simp [h]
  · rename_i h
    simp [h]
theorem tryD_some {b x : L} {d : Nat} {s : L} {n : Int} (h : tryD b x d = some (s, n)) : mayLb s n = true ∧ Head.blk (headV (nameV s n.toNat)) = b := by
  rw [tryD] at h
  split at h
  · rename_i h1
    cases h
    exact putL_yes.1 h1.2
  · cases h
theorem tryD_may {s : L} {n : Int} (h : mayLb s n = true) : tryD (Head.blk (headV (nameV s n.toNat))) (nameV s n.toNat) (8 + (dig n.toNat).length) = some (s, n) := by
  obtain ⟨h1, h2, h3, h4, h5⟩ := mayLb_iff.1 h
  have hl := nameV_len s n.toNat
  have e1 : (nameV s n.toNat).length - (8 + (dig n.toNat).length) = s.length := by omega
  have e2 : (nameV s n.toNat).take s.length = s := by rw [nameV, List.append_assoc, List.take_left]
  have e3 : (nameV s n.toNat).drop (s.length + 8) = dig n.toNat := by
    rw [nameV]
    exact List.drop_left' (by rw [List.length_append, volS_len])
  have e4 : numV (dig n.toNat) = n := by rw [num_dig]; omega
  rw [tryD, e1, e2, e3, e4, if_pos ⟨by omega, putL_yes.2 ⟨h, rfl⟩⟩]
/-- What a block tells. -/
theorem getL_put {s : L} {n : Int} (h : mayLb s n = true) : getL (Head.blk (headV (nameV s n.toNat))) = (s, n, 0) := by
  obtain ⟨h1, h2⟩ := put_code h
  have hn : (getH (Head.blk (headV (nameV s n.toNat)))).name = nameV s n.toNat := by rw [h2]; rfl
  have ht := tryD_may h
  obtain ⟨-, -, -, h4, h5⟩ := mayLb_iff.1 h
  have hl := dig_len (n := n.toNat) (by omega) (by omega)
  have any : ∀ d r, tryD (Head.blk (headV (nameV s n.toNat))) (nameV s n.toNat) d = some r → r = (s, n) := by
    rintro d ⟨t, m⟩ hh
    obtain ⟨k1, k2⟩ := tryD_some hh
    obtain ⟨e1, e2⟩ := putL_inj k1 h k2
    rw [e1, e2]
  rw [getL, if_neg (by simpa using h1), hn]
  have hd : 8 + (dig n.toNat).length = 9 ∨ 8 + (dig n.toNat).length = 10 ∨ 8 + (dig n.toNat).length = 11 := by
    rw [hl]
    split
    · exact .inl rfl
    · split
      · exact .inr (.inl rfl)
      · exact .inr (.inr rfl)
  have hs : ((tryD (Head.blk (headV (nameV s n.toNat))) (nameV s n.toNat) 9).or (tryD (Head.blk (headV (nameV s n.toNat))) (nameV s n.toNat) 10)).or (tryD (Head.blk (headV (nameV s n.toNat))) (nameV s n.toNat) 11) = some (s, n) := by
    cases h9 : tryD (Head.blk (headV (nameV s n.toNat))) (nameV s n.toNat) 9 with
    | some r => rw [any 9 r h9]; rfl
    | none =>
      cases h10 : tryD (Head.blk (headV (nameV s n.toNat))) (nameV s n.toNat) 10 with
      | some r => rw [any 10 r h10]; rfl
      | none =>
        rcases hd with e | e | e
        · rw [e, h9] at ht; cases ht
        · rw [e, h10] at ht; cases ht
        · rw [e] at ht
          rw [ht]
          rfl
  rw [hs]
theorem getL_ok {b : L} {s : L} {n e : Int} (h : getL b = (s, n, e)) : (e = 0 ∧ mayLb s n = true ∧ Head.blk (headV (nameV s n.toNat)) = b ∧ codeB b = 0) ∨ (s = [] ∧ n = 0 ∧ ((codeB b ≠ 0 ∧ e = codeB b) ∨ (codeB b = 0 ∧ e = 11))) := by
  rw [getL] at h
  by_cases hc : codeB b = 0
  · rw [if_neg (by simpa using hc)] at h
    split at h
    · rename_i s' n' hs
      cases h
      refine .inl ⟨rfl, ?_⟩
      have key : ∃ d, tryD b (getH b).name d = some (s, n) := by
        cases h9 : tryD b (getH b).name 9 with
        | some r => rw [h9] at hs; exact ⟨9, by rw [h9]; exact hs⟩
        | none =>
          cases h10 : tryD b (getH b).name 10 with
          | some r => rw [h9, h10] at hs; exact ⟨10, by rw [h10]; exact hs⟩
          | none => rw [h9, h10] at hs; exact ⟨11, hs⟩
      obtain ⟨d, hd⟩ := key
      exact ⟨(tryD_some hd).1, (tryD_some hd).2, hc⟩
    · cases h
      exact .inr ⟨rfl, rfl, .inr ⟨hc, rfl⟩⟩
  · rw [if_pos hc] at h
    cases h
    exact .inr ⟨rfl, rfl, .inl ⟨hc, rfl⟩⟩
/-- What is no label's, is none's. -/
theorem getL_none {b : L} (hc : codeB b = 0) (h : ∀ s n, mayLb s n = true → Head.blk (headV (nameV s n.toNat)) ≠ b) : getL b = ([], 0, 11) := by
  obtain ⟨s, n, e, hg⟩ : ∃ s n e, getL b = (s, n, e) := ⟨_, _, _, rfl⟩
  rcases getL_ok hg with ⟨-, h1, h2, -⟩ | ⟨rfl, rfl, ⟨h1, -⟩ | ⟨-, rfl⟩⟩
  · exact absurd h2 (h s n h1)
  · exact absurd hc h1
  · exact hg
end Go.Proofs.YtopihahjjcpnpaaGreatDoor.LabelM

