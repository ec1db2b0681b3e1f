/-
  Labels: plain functions over bytes, and what follows of them: no Go, and no statement, is proved here. Labels and headers: plain functions over bytes, and what follows of them: no Go, and no statement, is proved here.
  Headers of what goes on in another volume: plain functions over nodes and blocks, and what follows of them: no Go, and no statement, is proved here.
  A tree's stream as volumes: plain functions over trees and blocks, and what follows of them: no Go, and no statement, is proved here. Sets of media: rows of numbers, and a set that came in, opened: no statement is proved here. Rows of rows of blocks: no statement is proved here.
-/
import Std
import Derived.Test.YtllnnlmhbmladaaGreatDoorHeadPut
import Derived.Test.YtllnnlmhbmladaaGreatDoorHeadM3
import Derived.Test.YtllnnlmhbmladaaGreatDoorEntryM
import Derived.Test.YtllnnlmhbmladaaGreatDoorStreamM
import Derived.Test.YtllnnlmhbmladaaGreatDoorBase
import Derived.Deep.Matrix
namespace Go.Proofs.YtllnnlmhbmladaaGreatDoor.LabelM
set_option linter.unusedVariables false
open Go.Proofs.YtllnnlmhbmladaaGreatDoor.Head

/-- A number's decimal digits; none of 0. -/
def dig (n : Nat) : L := if h : n = 0 then [] else dig (n / 10) ++ [UInt8.ofNat (48 + n % 10)]
termination_by n
decreasing_by omega
def volS : L := [32, 86, 111, 108, 117, 109, 101, 32]
def mayLb (s : L) (n : Int) : Bool := s.all (fun x => x != 0) && decide (1 ≤ s.length) && decide (s.length ≤ 88) && decide (1 ≤ n) && decide (n ≤ 999)
def nameV (s : L) (n : Nat) : L := s ++ volS ++ dig n
def nameB (s : L) (n : Int) : L × Bool := if mayLb s n = true then (nameV s n.toNat, true) else ([], false)

theorem mayLb_iff {s : L} {n : Int} : mayLb s n = true ↔ (∀ x ∈ s, x ≠ 0) ∧ 1 ≤ s.length ∧ s.length ≤ 88 ∧ 1 ≤ n ∧ n ≤ 999 := by
  simp only [mayLb, Bool.and_eq_true, decide_eq_true_eq, List.all_eq_true, bne_iff_ne, and_assoc]
theorem dig_zero : dig 0 = [] := by
  unfold dig
  exact dif_pos rfl
theorem dig_more {n : Nat} (h : n ≠ 0) : dig n = dig (n / 10) ++ [UInt8.ofNat (48 + n % 10)] := by
  conv => lhs; unfold dig
  exact dif_neg h
/-- A digit's byte. -/
theorem digit_toNat (k : Nat) : (UInt8.ofNat (48 + k % 10)).toNat = 48 + k % 10 := by
  rw [UInt8.toNat_ofNat']
  omega
theorem dig_len {n : Nat} (h1 : 1 ≤ n) (h2 : n ≤ 999) : (dig n).length = if n < 10 then 1 else if n < 100 then 2 else 3 := by
  rw [dig_more (by omega)]
  by_cases h3 : n < 10
  · rw [if_pos h3, show n / 10 = 0 by omega, dig_zero]
    rfl
  · rw [if_neg h3, dig_more (n := n / 10) (by omega)]
    by_cases h4 : n < 100
    · rw [if_pos h4, show n / 10 / 10 = 0 by omega, dig_zero]
      rfl
    · rw [if_neg h4, dig_more (n := n / 10 / 10) (by omega), show n / 10 / 10 / 10 = 0 by omega, dig_zero]
      rfl
/-- The number that digits tell. -/
def numG (l : L) (a : Int) : Int := l.foldl (fun a x => 10 * a + ((x.toNat : Int) - 48)) a
def numV (l : L) : Int := numG l 0
theorem numG_append (a b : L) (x : Int) : numG (a ++ b) x = numG b (numG a x) := by simp [numG, List.foldl_append]
theorem num_dig (n : Nat) : numV (dig n) = (n : Int) := by
  induction n using Nat.strongRecOn with
  | _ n ih =>
    by_cases h : n = 0
    · subst h
      rw [dig_zero]
      rfl
    · rw [dig_more h, numV, numG_append]
      have h1 := ih (n / 10) (by omega)
      rw [numV] at h1
      rw [h1]
      show 10 * ((n / 10 : Nat) : Int) + (((UInt8.ofNat (48 + n % 10)).toNat : Int) - 48) = (n : Int)
      rw [digit_toNat]
      omega
theorem dig_bytes (n : Nat) : ∀ x ∈ dig n, 48 ≤ x.toNat ∧ x.toNat ≤ 57 := by
  induction n using Nat.strongRecOn with
  | _ n ih =>
    by_cases h : n = 0
    · subst h
      rw [dig_zero]
      simp
    · rw [dig_more h]
      intro x hx
      rcases List.mem_append.1 hx with hx | hx
      · exact ih (n / 10) (by omega) x hx
      · rw [List.mem_singleton.1 hx, digit_toNat]
        omega
theorem dig_inj {n m : Nat} (h : dig n = dig m) : n = m := by
  have h1 := num_dig n
  rw [h, num_dig] at h1
  omega
theorem volS_len : volS.length = 8 := rfl
theorem nameV_len (s : L) (n : Nat) : (nameV s n).length = s.length + 8 + (dig n).length := by
  simp only [nameV, List.length_append, volS_len]
/-- What the name's bytes tell: the label, and the number. -/
theorem nameV_inj {s t : L} {n m : Nat} (h : nameV s n = nameV t m) : s = t ∧ n = m := by
  have key : ∀ {s t : L} {n m : Nat}, nameV s n = nameV t m → (dig n).length < (dig m).length → False := by
    intro s t n m h hl
    have hlen := congrArg List.length h
    rw [nameV_len, nameV_len] at hlen
    have e1 : (nameV s n)[s.length + 7]? = some 32 := by
      rw [nameV, List.append_assoc, List.getElem?_append_right (by omega), List.getElem?_append_left (by rw [volS_len]; omega)]
      have : s.length + 7 - s.length = 7 := by omega
      rw [this]
      rfl
    rw [h, nameV, List.getElem?_append_right (by simp [volS_len]; omega)] at e1
    have := dig_bytes m _ (List.mem_of_getElem? e1)
    have e32 : (32 : UInt8).toNat = 32 := rfl
    omega
  have hl : (dig n).length = (dig m).length := by
    rcases Nat.lt_trichotomy (dig n).length (dig m).length with hh | hh | hh
    · exact absurd (key h hh) id
    · exact hh
    · exact absurd (key h.symm hh) id
  rw [nameV, nameV, List.append_assoc, List.append_assoc] at h
  have hlen := congrArg List.length h
  simp only [List.length_append, hl] at hlen
  obtain ⟨e1, e2⟩ := List.append_inj h (by omega)
  exact ⟨e1, dig_inj (List.append_cancel_left e2)⟩
/-- The header of a label. -/
def headV (x : L) : Hd := ⟨x, [], [], 0, 0, 0, 0, 0, 86, 0, 0⟩
theorem nameV_ok {s : L} {n : Int} (h : mayLb s n = true) : (nameV s n.toNat).length ≤ 99 ∧ 10 ≤ (nameV s n.toNat).length ∧ ∀ x ∈ nameV s n.toNat, x ≠ 0 := by
  obtain ⟨h1, h2, h3, h4, h5⟩ := mayLb_iff.1 h
  have hl := dig_len (n := n.toNat) (by omega) (by omega)
  refine ⟨?_, ?_, fun x hx => ?_⟩
  · rw [nameV_len, hl]
    split
    · omega
    · split <;> omega
  · rw [nameV_len, hl]
    split
    · omega
    · split <;> omega
  · rw [nameV] at hx
    rcases List.mem_append.1 hx with hx | hx
    · rcases List.mem_append.1 hx with hx | hx
      · exact h1 x hx
      · rintro rfl
        revert hx
        decide
    · rintro rfl
      have := dig_bytes _ _ hx
      have e0 : (0 : UInt8).toNat = 0 := rfl
      omega
def putL (s : L) (n : Int) : L × Bool := if mayLb s n = true then (Head.blk (headV (nameV s n.toNat)), true) else ([], false)
end Go.Proofs.YtllnnlmhbmladaaGreatDoor.LabelM

namespace Go.Proofs.YtllnnlmhbmladaaGreatDoor.LabelM
open Go.Proofs.YtllnnlmhbmladaaGreatDoor.Head
set_option linter.unusedVariables false

theorem headV_small {x : L} (h : x.length ≤ 100) : SmallH (headV x) := ⟨by simp only [headV]; omega, by simp [headV], by simp [headV], by simp [headV], by simp [headV], by simp [headV], by simp [headV], by simp [headV], by simp [headV], by simp [headV]⟩
theorem okT_iff {s : L} {n : Nat} : okT s n = true ↔ s.length ≤ n ∧ ∀ x ∈ s, x ≠ 0 := by
  rw [okT, Bool.and_eq_true, decide_eq_true_eq, Bool.not_eq_true', List.contains_eq_mem, decide_eq_false_iff_not]
  exact ⟨fun ⟨a, b⟩ => ⟨a, fun x hx e => b (e ▸ hx)⟩, fun ⟨a, b⟩ => ⟨a, fun h => b 0 h rfl⟩⟩
theorem headV_may {x : L} (h1 : x ≠ []) (h2 : x.length ≤ 100) (h3 : ∀ c ∈ x, c ≠ 0) : mayH (headV x) = true := by
  have e1 : okT x 100 = true := okT_iff.2 ⟨h2, h3⟩
  have e2 : x.isEmpty = false := by cases x with
    | nil => exact absurd rfl h1
    | cons a l => rfl
  have e3 : mayH (headV x) = (!x.isEmpty && typs.contains 86 && (decide ((0 : Int) = 0) && decide ((0 : Int) = 0)) && (okT x 100 && okT [] 100 && (decide ((86 : UInt8) = 77) || okT [] 155)) && numsOk (headV x)) := rfl
  have e4 : numsOk (headV x) = true := rfl
  rw [e3, e1, e2, e4]
  rfl
theorem name_may {s : L} {n : Int} (h : mayLb s n = true) : mayH (headV (nameV s n.toNat)) = true ∧ SmallH (headV (nameV s n.toNat)) := by
  obtain ⟨h1, h2, h3⟩ := nameV_ok h
  exact ⟨headV_may (by rintro e; rw [e] at h2; simp at h2) (by omega) h3, headV_small (by omega)⟩
theorem ok_blk {l : L} (h : codeB l = 0) : mayH (getH l) = true ∧ Head.blk (getH l) = l ∧ l.length = 512 := by
  unfold getH
  rw [if_pos h]
  unfold codeB at h
  split at h
  · rename_i h1
    split at h
    · cases h
    · split at h
      · split at h
        · rename_i h4
          exact ⟨h4.1, h4.2, h1⟩
        · cases h
      · cases h
  · cases h
/-- What is put, is got. -/
theorem put_code {s : L} {n : Int} (h : mayLb s n = true) : codeB (Head.blk (headV (nameV s n.toNat))) = 0 ∧ getH (Head.blk (headV (nameV s n.toNat))) = headV (nameV s n.toNat) :=
  ⟨code_blk (name_may h).1 (name_may h).2, get_blk (name_may h).1 (name_may h).2⟩
theorem putL_inj {s t : L} {n m : Int} (h : mayLb s n = true) (k : mayLb t m = true) (e : Head.blk (headV (nameV s n.toNat)) = Head.blk (headV (nameV t m.toNat))) : s = t ∧ n = m := by
  have h1 := congrArg getH e
  rw [(put_code h).2, (put_code k).2] at h1
  have h2 : nameV s n.toNat = nameV t m.toNat := congrArg Hd.name h1
  obtain ⟨h3, h4⟩ := nameV_inj h2
  have := mayLb_iff.1 h
  have := mayLb_iff.1 k
  exact ⟨h3, by omega⟩
/-- One try: so many bytes behind the label. -/
def tryD (b x : L) (d : Nat) : Option (L × Int) := if d < x.length ∧ putL (x.take (x.length - d)) (numV (x.drop (x.length - d + 8))) = (b, true) then some (x.take (x.length - d), numV (x.drop (x.length - d + 8))) else none
def getL (b : L) : L × Int × Int :=
  if codeB b ≠ 0 then ([], 0, codeB b)
  else match ((tryD b (getH b).name 9).or (tryD b (getH b).name 10)).or (tryD b (getH b).name 11) with
    | some (s, n) => (s, n, 0)
    | none => ([], 0, 11)
theorem putL_yes {s : L} {n : Int} {b : L} : putL s n = (b, true) ↔ mayLb s n = true ∧ Head.blk (headV (nameV s n.toNat)) = b := by
  rw [putL]
  split
  · rename_i h
    simp [h]
  · rename_i h
    simp [h]
theorem tryD_some {b x : L} {d : Nat} {s : L} {n : Int} (h : tryD b x d = some (s, n)) : mayLb s n = true ∧ Head.blk (headV (nameV s n.toNat)) = b := by
  rw [tryD] at h
  split at h
  · rename_i h1
    cases h
    exact putL_yes.1 h1.2
  · cases h
theorem tryD_may {s : L} {n : Int} (h : mayLb s n = true) : tryD (Head.blk (headV (nameV s n.toNat))) (nameV s n.toNat) (8 + (dig n.toNat).length) = some (s, n) := by
  obtain ⟨h1, h2, h3, h4, h5⟩ := mayLb_iff.1 h
  have hl := nameV_len s n.toNat
  have e1 : (nameV s n.toNat).length - (8 + (dig n.toNat).length) = s.length := by omega
  have e2 : (nameV s n.toNat).take s.length = s := by rw [nameV, List.append_assoc, List.take_left]
  have e3 : (nameV s n.toNat).drop (s.length + 8) = dig n.toNat := by
    rw [nameV]
    exact List.drop_left' (by rw [List.length_append, volS_len])
  have e4 : numV (dig n.toNat) = n := by rw [num_dig]; omega
  rw [tryD, e1, e2, e3, e4, if_pos ⟨by omega, putL_yes.2 ⟨h, rfl⟩⟩]
/-- What a block tells. -/
theorem getL_put {s : L} {n : Int} (h : mayLb s n = true) : getL (Head.blk (headV (nameV s n.toNat))) = (s, n, 0) := by
  obtain ⟨h1, h2⟩ := put_code h
  have hn : (getH (Head.blk (headV (nameV s n.toNat)))).name = nameV s n.toNat := by rw [h2]; rfl
  have ht := tryD_may h
  obtain ⟨-, -, -, h4, h5⟩ := mayLb_iff.1 h
  have hl := dig_len (n := n.toNat) (by omega) (by omega)
  have any : ∀ d r, tryD (Head.blk (headV (nameV s n.toNat))) (nameV s n.toNat) d = some r → r = (s, n) := by
    rintro d ⟨t, m⟩ hh
    obtain ⟨k1, k2⟩ := tryD_some hh
    obtain ⟨e1, e2⟩ := putL_inj k1 h k2
    rw [e1, e2]
  rw [getL, if_neg (by simpa using h1), hn]
  have hd : 8 + (dig n.toNat).length = 9 ∨ 8 + (dig n.toNat).length = 10 ∨ 8 + (dig n.toNat).length = 11 := by
    rw [hl]
    split
    · exact .inl rfl
    · split
      · exact .inr (.inl rfl)
      · exact .inr (.inr rfl)
  have hs : ((tryD (Head.blk (headV (nameV s n.toNat))) (nameV s n.toNat) 9).or (tryD (Head.blk (headV (nameV s n.toNat))) (nameV s n.toNat) 10)).or (tryD (Head.blk (headV (nameV s n.toNat))) (nameV s n.toNat) 11) = some (s, n) := by
    cases h9 : tryD (Head.blk (headV (nameV s n.toNat))) (nameV s n.toNat) 9 with
    | some r => rw [any 9 r h9]; rfl
    | none =>
      cases h10 : tryD (Head.blk (headV (nameV s n.toNat))) (nameV s n.toNat) 10 with
      | some r => rw [any 10 r h10]; rfl
      | none =>
        rcases hd with e | e | e
        · rw [e, h9] at ht; cases ht
        · rw [e, h10] at ht; cases ht
        · rw [e] at ht
          rw [ht]
          rfl
  rw [hs]
theorem getL_ok {b : L} {s : L} {n e : Int} (h : getL b = (s, n, e)) : (e = 0 ∧ mayLb s n = true ∧ Head.blk (headV (nameV s n.toNat)) = b ∧ codeB b = 0) ∨ (s = [] ∧ n = 0 ∧ ((codeB b ≠ 0 ∧ e = codeB b) ∨ (codeB b = 0 ∧ e = 11))) := by
  rw [getL] at h
  by_cases hc : codeB b = 0
  · rw [if_neg (by simpa using hc)] at h
    split at h
    · rename_i s' n' hs
      cases h
      refine .inl ⟨rfl, ?_⟩
      have key : ∃ d, tryD b (getH b).name d = some (s, n) := by
        cases h9 : tryD b (getH b).name 9 with
        | some r => rw [h9] at hs; exact ⟨9, by rw [h9]; exact hs⟩
        | none =>
          cases h10 : tryD b (getH b).name 10 with
          | some r => rw [h9, h10] at hs; exact ⟨10, by rw [h10]; exact hs⟩
          | none => rw [h9, h10] at hs; exact ⟨11, hs⟩
      obtain ⟨d, hd⟩ := key
      exact ⟨(tryD_some hd).1, (tryD_some hd).2, hc⟩
    · cases h
      exact .inr ⟨rfl, rfl, .inr ⟨hc, rfl⟩⟩
  · rw [if_pos hc] at h
    cases h
    exact .inr ⟨rfl, rfl, .inl ⟨hc, rfl⟩⟩
/-- What is no label's, is none's. -/
theorem getL_none {b : L} (hc : codeB b = 0) (h : ∀ s n, mayLb s n = true → Head.blk (headV (nameV s n.toNat)) ≠ b) : getL b = ([], 0, 11) := by
  obtain ⟨s, n, e, hg⟩ : ∃ s n e, getL b = (s, n, e) := ⟨_, _, _, rfl⟩
  rcases getL_ok hg with ⟨-, h1, h2, -⟩ | ⟨rfl, rfl, ⟨h1, -⟩ | ⟨-, rfl⟩⟩
  · exact absurd h2 (h s n h1)
  · exact absurd hc h1
  · exact hg
end Go.Proofs.YtllnnlmhbmladaaGreatDoor.LabelM

namespace Go.Proofs.YtllnnlmhbmladaaGreatDoor.ContM
open Go.Proofs.YtllnnlmhbmladaaGreatDoor.Base Go.Proofs.YtllnnlmhbmladaaGreatDoor.Node Go.Proofs.YtllnnlmhbmladaaGreatDoor.Head Go.Proofs.YtllnnlmhbmladaaGreatDoor.Long Go.Proofs.YtllnnlmhbmladaaGreatDoor.Tree Go.Proofs.YtllnnlmhbmladaaGreatDoor.Entry
set_option linter.unusedVariables false

abbrev L := List UInt8
def isFile (n : Nd) : Bool := oneB n && decide (n.kind = 48)
def mayC (n : Nd) (off : Int) : Bool := isFile n && (decide (0 ≤ off) && (decide (off < (n.data.length : Int)) && decide (off % 512 = 0)))
def headC (n : Nd) (off : Int) : Hd := ⟨n.path.take 100, [], [], n.mode, n.uid, n.gid, (n.data.length : Int) - off, n.time, 77, off, (n.data.length : Int)⟩
/-- What stands ahead of the header. -/
def aheadC (p : L) : List L := if 100 < p.length then [blk (llH 76 p), BlockM.blk (p ++ [0])] else []
def putC (n : Nd) (off : Int) : List L := if mayC n off = true then aheadC n.path ++ [blk (headC n off)] else []
/-- A file without its bytes. -/
def bare (n : Nd) : Nd := { n with data := [] }
abbrev Five := Nd × Int × Int × Int × Bool
def none5 : Five := (zeroN, 0, 0, 0, false)
def withN (n : Nd) (k : Nat) : Nd := { n with data := List.replicate k 0 }
def nodeC (h : Hd) (p : L) : Nd := ⟨p, [], 48, h.mode, h.uid, h.gid, h.time, []⟩
def nameC (h : Hd) (p : L) : L := if p = [] then h.name else p
/-- One try: are the first k blocks those of a header at their end, with a name? -/
def tryC (l : List L) (k : Nat) (p : L) : Five :=
  if codeB (l.getD (k - 1) []) ≠ 0 ∨ (getH (l.getD (k - 1) [])).ty ≠ 77 ∨ 4000 < (getH (l.getD (k - 1) [])).real then none5
  else if mayC (withN (nodeC (getH (l.getD (k - 1) [])) (nameC (getH (l.getD (k - 1) [])) p)) (getH (l.getD (k - 1) [])).real.toNat) (getH (l.getD (k - 1) [])).off = true ∧
      putC (withN (nodeC (getH (l.getD (k - 1) [])) (nameC (getH (l.getD (k - 1) [])) p)) (getH (l.getD (k - 1) [])).real.toNat) (getH (l.getD (k - 1) [])).off = l.take k
  then (nodeC (getH (l.getD (k - 1) [])) (nameC (getH (l.getD (k - 1) [])) p), (getH (l.getD (k - 1) [])).off, (getH (l.getD (k - 1) [])).real, (k : Int), true)
  else none5
def getC (l : List L) : Five :=
  if l = [] then none5
  else if (tryC l 1 []).2.2.2.2 = true ∨ l.length < 3 ∨ (l.getD 1 []).length ≠ 512 then tryC l 1 []
  else tryC l 3 (upto (l.getD 1 []))

theorem isFile_iff {n : Nd} : isFile n = true ↔ oneB n = true ∧ n.kind = 48 := by simp [isFile]
theorem mayC_iff {n : Nd} {off : Int} : mayC n off = true ↔ isFile n = true ∧ 0 ≤ off ∧ off < (n.data.length : Int) ∧ off % 512 = 0 := by simp [mayC]
theorem putC_yes {n : Nd} {off : Int} (h : mayC n off = true) : putC n off = aheadC n.path ++ [blk (headC n off)] := by rw [putC, if_pos h]
theorem putC_no {n : Nd} {off : Int} (h : mayC n off = false) : putC n off = [] := by rw [putC, if_neg (by simp [h])]
theorem aheadC_length (p : L) : (aheadC p).length = if 100 < p.length then 2 else 0 := by unfold aheadC; split <;> rfl
theorem path_text {n : Nd} (h : isFile n = true) : textL n.path = true := may_text (oneF (isFile_iff.1 h).1).path
theorem ahead_ok {n : Nd} (h : isFile n = true) : putOkL 76 n.path = true := putOkL_iff.2 ⟨.inr rfl, path_text h⟩
theorem ahead_putLs {n : Nd} (h : isFile n = true) (hl : 100 < n.path.length) : aheadC n.path = putLs 76 n.path := by rw [aheadC, if_pos hl, putLs_yes (ahead_ok h)]
/-- The header may be. -/
theorem headC_may {n : Nd} {off : Int} (h : mayC n off = true) : mayH (headC n off) = true ∧ SmallH (headC n off) := by
  obtain ⟨hf, h0, h1, h2⟩ := mayC_iff.1 h
  obtain ⟨ho, hk⟩ := isFile_iff.1 hf
  have f := oneF ho
  have hd := f.data
  have hp := (textL_iff.1 (path_text hf))
  have hn : (n.path.take 100) ≠ [] := by
    intro e
    have := congrArg List.length e
    rw [List.length_take, List.length_nil] at this
    omega
  have b1 : okT (n.path.take 100) 100 = true := okT_iff.2 ⟨by rw [List.length_take]; omega, fun hm => hp.2.2 (List.mem_of_mem_take hm)⟩
  have b2 : okT [] 100 = true := rfl
  have c1 := put_ok (w := 8) f.mode.1 (by have := f.mode.2; omega) (by omega) (by omega)
  have c2 := put_ok (w := 8) f.uid.1 f.uid.2 (by omega) (by omega)
  have c3 := put_ok (w := 8) f.gid.1 f.gid.2 (by omega) (by omega)
  have c4 := put_ok (x := (n.data.length : Int) - off) (w := 12) (by omega) (by omega) (by omega) (by omega)
  have c5 := put_ok (w := 12) f.time.1 f.time.2 (by omega) (by omega)
  have c6 := put_ok (x := off) (w := 12) (by omega) (by omega) (by omega) (by omega)
  have c7 := put_ok (x := (n.data.length : Int)) (w := 12) (by omega) (by omega) (by omega) (by omega)
  have d1 : (n.path.take 100).isEmpty = false := by
    cases hq : n.path.take 100
    · exact absurd hq hn
    · rfl
  constructor
  · unfold mayH elseZ txtsOk numsOk headC
    simp only [b1, b2, d1]
    simp only [Bool.and_eq_true]
    exact ⟨⟨⟨⟨rfl, by decide⟩, rfl⟩, ⟨trivial, trivial⟩, rfl⟩, ⟨⟨⟨⟨c1, c2⟩, c3⟩, c4⟩, c5⟩, by simpa using ⟨c6, c7⟩⟩
  · have hm := f.mode.2
    have hu := f.uid.2
    have hg := f.gid.2
    have ht := f.time.2
    refine ⟨?_, ?_, ?_, ?_, ?_, ?_, ?_, ?_, ?_, ?_⟩ <;> (simp only [headC, List.length_nil, List.length_take]; omega)
theorem getH_put {n : Nd} {off : Int} (h : mayC n off = true) : codeB (blk (headC n off)) = 0 ∧ getH (blk (headC n off)) = headC n off :=
  ⟨code_blk (headC_may h).1 (headC_may h).2, get_blk (headC_may h).1 (headC_may h).2⟩

/-! ### only how many bytes there are counts -/
theorem mayC_with (n : Nd) (off : Int) : mayC (withN n n.data.length) off = mayC n off := by
  have e : (withN n n.data.length).data.length = n.data.length := by simp [withN]
  have f : isFile (withN n n.data.length) = isFile n := by
    by_cases hk : n.kind = 48
    · unfold isFile Tree.oneB Tree.numsB Tree.kindB withN
      simp [hk]
    · simp [isFile, withN, hk]
  rw [mayC, mayC, e, f]
theorem putC_with (n : Nd) (off : Int) : putC (withN n n.data.length) off = putC n off := by
  have e : headC (withN n n.data.length) off = headC n off := by simp [headC, withN]
  rw [putC, putC, mayC_with, e]
  rfl
theorem with_bare (n : Nd) (k : Nat) : withN (bare n) k = withN n k := rfl
theorem bare_is {n : Nd} {off : Int} (h : mayC n off = true) : nodeC (headC n off) n.path = bare n := by
  obtain ⟨ho, hk⟩ := isFile_iff.1 (mayC_iff.1 h).1
  have f := oneF ho
  cases n
  simp only [nodeC, headC, bare, Nd.mk.injEq, true_and, and_true]
  exact ⟨(f.none hk).symm, hk.symm⟩
theorem try_one {l : List L} {k : Nat} {p : L} {n : Nd} {off : Int} (h : mayC n off = true) (hb : l.getD (k - 1) [] = blk (headC n off)) (hp : nameC (headC n off) p = n.path) (ht : l.take k = putC n off) :
    tryC l k p = (bare n, off, (n.data.length : Int), (k : Int), true) := by
  obtain ⟨h1, h2⟩ := getH_put h
  have f := oneF (isFile_iff.1 (mayC_iff.1 h).1).1
  have hd := f.data
  rw [tryC, hb, h2, hp, bare_is h, if_neg]
  · have e1 : (headC n off).real.toNat = n.data.length := by show ((n.data.length : Int)).toNat = _; omega
    have e2 : (headC n off).off = off := rfl
    rw [e1, e2, with_bare, mayC_with, putC_with, if_pos ⟨h, ht.symm⟩]
    rfl
  · rintro (e | e | e)
    · exact e h1
    · exact e rfl
    · have : (headC n off).real = (n.data.length : Int) := rfl
      omega
theorem upto_text {p : L} (h : (0 : UInt8) ∉ p) (hl : p.length ≤ 300) : upto (BlockM.blk (p ++ [0])) = p := by
  unfold upto BlockM.blk
  rw [List.take_of_length_le (by simp; omega), List.append_assoc, List.takeWhile_append_of_pos (by intro b hb; simp; rintro rfl; exact h hb)]
  simp
theorem get_of {l : List L} {n : Nd} {off : Int} (h : mayC n off = true) (ht : l.take (putC n off).length = putC n off) :
    getC l = (bare n, off, (n.data.length : Int), ((putC n off).length : Int), true) := by
  have hf := (mayC_iff.1 h).1
  have hx := textL_iff.1 (path_text hf)
  by_cases hl : 100 < n.path.length
  · have e : putC n off = [blk (llH 76 n.path), BlockM.blk (n.path ++ [0]), blk (headC n off)] := by rw [putC_yes h, aheadC, if_pos hl]; rfl
    have e3 : (putC n off).length = 3 := by rw [e]; rfl
    rw [e3] at ht ⊢
    obtain ⟨a, b, c, r, rfl⟩ : ∃ a b c r, l = a :: b :: c :: r := by
      have hlen := congrArg List.length ht
      rw [e3, List.length_take] at hlen
      match l, hlen with
      | [], hlen => simp at hlen
      | [a], hlen => simp at hlen
      | [a, b], hlen => simp at hlen
      | a :: b :: c :: r, _ => exact ⟨a, b, c, r, rfl⟩
    have hh : a = blk (llH 76 n.path) ∧ b = BlockM.blk (n.path ++ [0]) ∧ c = blk (headC n off) := by
      rw [e] at ht
      have h1 : [a, b, c] = [blk (llH 76 n.path), BlockM.blk (n.path ++ [0]), blk (headC n off)] := ht
      rw [List.cons.injEq, List.cons.injEq, List.cons.injEq] at h1
      exact ⟨h1.1, h1.2.1, h1.2.2.1⟩
    obtain ⟨e11, e12, e13⟩ := hh
    obtain ⟨k1, k2, k3⟩ := llH_ok (ahead_ok hf)
    have t1 : tryC (a :: b :: c :: r) 1 [] = none5 := by
      rw [tryC, if_pos]
      refine .inr (.inl ?_)
      show (getH a).ty ≠ 77
      rw [e11, get_blk k1 k2, k3]
      decide
    have t3 := try_one (l := a :: b :: c :: r) (k := 3) (p := n.path) h (by show c = _; exact e13) (by rw [nameC, if_neg (by rintro e; rw [e] at hl; simp at hl)]) (by rw [e]; exact ht.trans e)
    have hu : (a :: b :: c :: r).getD 1 [] = BlockM.blk (n.path ++ [0]) := e12
    rw [getC, if_neg (by simp), t1, hu, if_neg]
    · rw [upto_text hx.2.2 hx.2.1, t3]
    · rintro (e | e | e)
      · cases e
      · simp only [List.length_cons] at e
        omega
      · exact e (BlockM.blk_length _)
  · have e : putC n off = [blk (headC n off)] := by rw [putC_yes h, aheadC, if_neg hl]; rfl
    have e1 : (putC n off).length = 1 := by rw [e]; rfl
    rw [e1] at ht ⊢
    obtain ⟨a, r, rfl⟩ : ∃ a r, l = a :: r := by
      have hlen := congrArg List.length ht
      rw [e1, List.length_take] at hlen
      match l, hlen with
      | [], hlen => simp at hlen
      | a :: r, _ => exact ⟨a, r, rfl⟩
    have hh : a = blk (headC n off) := by
      rw [e] at ht
      have h1 : [a] = [blk (headC n off)] := ht
      rw [List.cons.injEq] at h1
      exact h1.1
    have t1 := try_one (l := a :: r) (k := 1) (p := []) h (by show a = _; exact hh) (by rw [nameC, if_pos rfl]; exact List.take_of_length_le (by omega)) (by rw [e]; exact ht.trans e)
    rw [getC, if_neg (by simp), t1, if_pos (.inl rfl)]
theorem try_yes {l : List L} {k : Nat} {p : L} (hk : k ≤ l.length) : tryC l k p = none5 ∨
    ∃ n off, mayC n off = true ∧ n.data = List.replicate n.data.length 0 ∧ putC n off = l.take k ∧ (putC n off).length = k ∧ tryC l k p = (bare n, off, (n.data.length : Int), (k : Int), true) := by
  rw [tryC]
  split
  · exact .inl rfl
  · split
    · rename_i h1 h2
      obtain ⟨h3, h4⟩ := h2
      refine .inr ⟨_, _, h3, ?_, h4, ?_, ?_⟩
      · simp [withN]
      · rw [h4, List.length_take]
        omega
      · obtain ⟨-, a, b, -⟩ := mayC_iff.1 h3
        have e : (withN (nodeC (getH (l.getD (k - 1) [])) (nameC (getH (l.getD (k - 1) [])) p)) (getH (l.getD (k - 1) [])).real.toNat).data.length = (getH (l.getD (k - 1) [])).real.toNat := by simp [withN]
        rw [e] at b ⊢
        rw [show (((getH (l.getD (k - 1) [])).real.toNat : Nat) : Int) = (getH (l.getD (k - 1) [])).real by omega]
        rfl
    · exact .inl rfl
/-- What is got is put. -/
theorem get_yes (l : List L) : getC l = none5 ∨
    ∃ n off, mayC n off = true ∧ n.data = List.replicate n.data.length 0 ∧ (putC n off).length ≤ l.length ∧ l.take (putC n off).length = putC n off ∧ getC l = (bare n, off, (n.data.length : Int), ((putC n off).length : Int), true) := by
  rw [getC]
  split
  · exact .inl rfl
  · rename_i hn
    have h1 : 1 ≤ l.length := by
      cases l
      · exact absurd rfl hn
      · simp
    split
    · rcases try_yes (p := []) h1 with e | ⟨n, off, a, b, c, d, e⟩
      · exact .inl e
      · exact .inr ⟨n, off, a, b, by omega, by rw [d]; exact c.symm, by rw [e, d]⟩
    · rename_i h3
      have h33 : 3 ≤ l.length := by
        have := fun e => h3 (.inr (.inl e))
        omega
      rcases try_yes (p := upto (l.getD 1 [])) h33 with e | ⟨n, off, a, b, c, d, e⟩
      · exact .inl e
      · exact .inr ⟨n, off, a, b, by omega, by rw [d]; exact c.symm, by rw [e, d]⟩
theorem get_no {l : List L} (h : getC l = none5) {n : Nd} {off : Int} (hm : mayC n off = true) : l.take (putC n off).length ≠ putC n off := by
  intro e
  have := get_of hm e
  rw [h, none5, Prod.mk.injEq, Prod.mk.injEq, Prod.mk.injEq, Prod.mk.injEq] at this
  cases this.2.2.2.2
theorem putC_may (n : Nd) (off : Int) : BlockM.mayV (putC n off) = true := by
  cases h : mayC n off
  · rw [putC_no h]
    rfl
  · rw [putC_yes h]
    refine BlockM.mayV_iff.2 fun b hb => ?_
    rcases List.mem_append.1 hb with hb | hb
    · by_cases hl : 100 < n.path.length
      · rw [ahead_putLs (mayC_iff.1 h).1 hl] at hb
        exact BlockM.mayV_iff.1 (putLs_may _ _) b hb
      · rw [aheadC, if_neg hl] at hb
        cases hb
    · rw [List.mem_singleton.1 hb]
      exact blk_length (headC_may h).1 (headC_may h).2
end Go.Proofs.YtllnnlmhbmladaaGreatDoor.ContM

namespace Go.Proofs.YtllnnlmhbmladaaGreatDoor.VolM
open Go.Proofs.YtllnnlmhbmladaaGreatDoor.Base Go.Proofs.YtllnnlmhbmladaaGreatDoor.Node Go.Proofs.YtllnnlmhbmladaaGreatDoor.Head Go.Proofs.YtllnnlmhbmladaaGreatDoor.Long Go.Proofs.YtllnnlmhbmladaaGreatDoor.Entry Go.Proofs.YtllnnlmhbmladaaGreatDoor.ContM Go.Proofs.YtllnnlmhbmladaaGreatDoor.LabelM Go.Proofs.YtllnnlmhbmladaaGreatDoor.Stream
open Go.Proofs.YtllnnlmhbmladaaGreatDoor.Tree (oneB mayT)
set_option linter.unusedVariables false
abbrev L := List UInt8
/-- A set: label, blocks a record, capacities. -/
structure Sett where
  label : L
  b : Int
  caps : List Int
def mayS (s : Sett) : Bool := mayLb s.label 1 && (decide (1 ≤ s.b) && (decide (s.b ≤ 20) && (decide (s.caps.length ≤ 12) && s.caps.all fun x => decide (0 ≤ x) && decide (x ≤ 200))))
theorem mayS_iff {s : Sett} : mayS s = true ↔ mayLb s.label 1 = true ∧ 1 ≤ s.b ∧ s.b ≤ 20 ∧ s.caps.length ≤ 12 ∧ ∀ x ∈ s.caps, 0 ≤ x ∧ x ≤ 200 := by simp [mayS]
/-- A label's block. -/
def lblK (s : L) (n : Int) : L := Head.blk (headV (nameV s n.toNat))
/-- Who goes on, if the stream's block at a place comes first. -/
def goesOn (t : List Nd) (pos : Nat) : List L := if 0 ≤ (whereL t 0 pos).2 then putC (t.getD (whereL t 0 pos).1.toNat zeroN) (512 * (whereL t 0 pos).2) else []
def beginL (t : List Nd) (s : Sett) (pos : Nat) (n : Int) : List L := lblK s.label n :: goesOn t pos
def beginB (t : List Nd) (s : Sett) (pos n : Int) : Bool := mayT t && (mayS s && (mayLb s.label n && (decide (0 ≤ pos) && decide (pos < ((allS t).length : Int)))))
def beginV (t : List Nd) (s : Sett) (pos n : Int) : List L := if beginB t s pos n = true then beginL t s pos.toNat n else []
def nought : L := zeros 512
/-- A volume: what it begins with, and so many blocks from a place on; noughts behind the stream's last one. -/
def volV (t : List Nd) (s : Sett) (pos : Nat) (n : Nat) (room : Nat) : List L :=
  let v := beginL t s pos ((n : Int) + 1) ++ ((allS t).drop pos).take (room - (beginL t s pos ((n : Int) + 1)).length)
  if pos + (room - (beginL t s pos ((n : Int) + 1)).length) < (allS t).length then v else v ++ List.replicate ((s.b.toNat - v.length % s.b.toNat) % s.b.toNat) nought
def volsG (t : List Nd) (s : Sett) : Nat → Nat → Nat → List (List L) × Int
  | 0, _, _ => ([], 0)
  | f + 1, pos, n =>
    if (allS t).length ≤ pos then ([], 0)
    else match s.caps[n]? with
      | none => ([], 14)
      | some c =>
        if (s.b * c).toNat ≤ (beginL t s pos ((n : Int) + 1)).length then ([], 13)
        else (volV t s pos n (s.b * c).toNat :: (volsG t s f (pos + ((s.b * c).toNat - (beginL t s pos ((n : Int) + 1)).length)) (n + 1)).1, (volsG t s f (pos + ((s.b * c).toNat - (beginL t s pos ((n : Int) + 1)).length)) (n + 1)).2)
def splitV (t : List Nd) (s : Sett) : List (List L) × Int := if (mayT t && mayS s) = true then volsG t s ((allS t).length) 0 0 else ([], 1)
def needsV (t : List Nd) (s : Sett) : Int := if (splitV t s).2 = 0 then ((splitV t s).1.length : Int) else -1
theorem beginL_pos (t : List Nd) (s : Sett) (pos : Nat) (n : Int) : 1 ≤ (beginL t s pos n).length := by simp [beginL]
/-- More fuel changes nothing. -/
theorem vols_fuel (t : List Nd) (s : Sett) : ∀ (f g pos n : Nat), (allS t).length ≤ pos + f → f ≤ g → volsG t s g pos n = volsG t s f pos n
  | 0, 0, pos, n, _, _ => rfl
  | 0, g + 1, pos, n, h, _ => by
    rw [show volsG t s 0 pos n = ([], 0) from rfl, volsG, if_pos (by omega)]
  | f + 1, 0, pos, n, _, h => by omega
  | f + 1, g + 1, pos, n, h, hg => by
    rw [volsG, volsG]
    by_cases h1 : (allS t).length ≤ pos
    · rw [if_pos h1, if_pos h1]
    · rw [if_neg h1, if_neg h1]
      cases hc : s.caps[n]? with
      | none => rfl
      | some c =>
        simp only
        by_cases h2 : (s.b * c).toNat ≤ (beginL t s pos ((n : Int) + 1)).length
        · rw [if_pos h2, if_pos h2]
        · rw [if_neg h2, if_neg h2, vols_fuel t s f g _ _ (by omega) (by omega)]
/-- How the volumes come, one behind the other, from a place and a number on. -/
inductive Chain (t : List Nd) (s : Sett) : Nat → Nat → List (List L) → Int → Prop where
  | done {pos n : Nat} : (allS t).length ≤ pos → Chain t s pos n [] 0
  | media {pos n : Nat} : pos < (allS t).length → s.caps[n]? = none → Chain t s pos n [] 14
  | small {pos n : Nat} {c : Int} : pos < (allS t).length → s.caps[n]? = some c → (s.b * c).toNat ≤ (beginL t s pos ((n : Int) + 1)).length → Chain t s pos n [] 13
  | more {pos n : Nat} {c : Int} {vs : List (List L)} {e : Int} : pos < (allS t).length → s.caps[n]? = some c → (beginL t s pos ((n : Int) + 1)).length < (s.b * c).toNat →
      Chain t s (pos + ((s.b * c).toNat - (beginL t s pos ((n : Int) + 1)).length)) (n + 1) vs e → Chain t s pos n (volV t s pos n (s.b * c).toNat :: vs) e
theorem chain_vols (t : List Nd) (s : Sett) : ∀ (f pos n : Nat), (allS t).length ≤ pos + f → Chain t s pos n (volsG t s f pos n).1 (volsG t s f pos n).2
  | 0, pos, n, h => .done (by omega)
  | f + 1, pos, n, h => by
    rw [volsG]
    by_cases h1 : (allS t).length ≤ pos
    · rw [if_pos h1]
      exact .done h1
    · rw [if_neg h1]
      cases hc : s.caps[n]? with
      | none => exact .media (by omega) hc
      | some c =>
        simp only
        by_cases h2 : (s.b * c).toNat ≤ (beginL t s pos ((n : Int) + 1)).length
        · rw [if_pos h2]
          exact .small (by omega) hc h2
        · rw [if_neg h2]
          exact .more (by omega) hc (by omega) (chain_vols t s f _ _ (by omega))
theorem chain_split {t : List Nd} {s : Sett} (h1 : mayT t = true) (h2 : mayS s = true) : Chain t s 0 0 (splitV t s).1 (splitV t s).2 := by
  rw [splitV, if_pos (by rw [h1, h2]; rfl)]
  exact chain_vols t s _ 0 0 (by omega)
/-- Up to a multiple. -/
theorem round_up {b k l : Nat} (hb : 1 ≤ b) (hl : l ≤ b * k) : l + (b - l % b) % b ≤ b * k ∧ (l + (b - l % b) % b) % b = 0 ∧ (b - l % b) % b < b := by
  have h1 := Nat.div_add_mod l b
  have h2 := Nat.mod_lt l hb
  obtain ⟨q, hq⟩ : ∃ q, l / b = q := ⟨_, rfl⟩
  obtain ⟨r, hr⟩ : ∃ r, l % b = r := ⟨_, rfl⟩
  rw [hq, hr] at h1
  rw [hr] at h2 ⊢
  by_cases h0 : r = 0
  · subst h0
    rw [Nat.sub_zero, Nat.mod_self, Nat.add_zero]
    exact ⟨hl, hr, hb⟩
  · rw [Nat.mod_eq_of_lt (by omega)]
    have h3 : l + (b - r) = b * (q + 1) := by rw [Nat.mul_add, Nat.mul_one]; omega
    rw [h3]
    refine ⟨Nat.mul_le_mul_left b ?_, Nat.mul_mod_right b (q + 1), by omega⟩
    by_cases h4 : q + 1 ≤ k
    · exact h4
    · exfalso
      have h5 : b * k ≤ b * q := Nat.mul_le_mul_left b (by omega)
      omega
theorem room_is {s : Sett} {c : Int} (h : mayS s = true) (hc : 0 ≤ c) : (s.b * c).toNat = s.b.toNat * c.toNat ∧ 1 ≤ s.b.toNat := by
  obtain ⟨-, h1, -, -, -⟩ := mayS_iff.1 h
  exact ⟨Int.toNat_mul (by omega) hc, by omega⟩
theorem cap_ok {s : Sett} {c : Int} {n : Nat} (h : mayS s = true) (hc : s.caps[n]? = some c) : 0 ≤ c ∧ c ≤ 200 := (mayS_iff.1 h).2.2.2.2 c (List.mem_of_getElem? hc)
/-- A volume that isn't the last one is full. -/
theorem vol_full {t : List Nd} {s : Sett} {pos n room : Nat} (hr : (beginL t s pos ((n : Int) + 1)).length < room) (h : pos + (room - (beginL t s pos ((n : Int) + 1)).length) < (allS t).length) :
    volV t s pos n room = beginL t s pos ((n : Int) + 1) ++ ((allS t).drop pos).take (room - (beginL t s pos ((n : Int) + 1)).length) ∧ (volV t s pos n room).length = room := by
  rw [volV]
  rw [if_pos h]
  refine ⟨rfl, ?_⟩
  rw [List.length_append, List.length_take, List.length_drop]
  omega
/-- The last one. -/
theorem vol_last {t : List Nd} {s : Sett} {pos n room : Nat} (hp : pos < (allS t).length) (hr : (beginL t s pos ((n : Int) + 1)).length < room) (h : ¬ pos + (room - (beginL t s pos ((n : Int) + 1)).length) < (allS t).length) :
    volV t s pos n room = beginL t s pos ((n : Int) + 1) ++ (allS t).drop pos ++ List.replicate ((s.b.toNat - ((beginL t s pos ((n : Int) + 1)).length + ((allS t).length - pos)) % s.b.toNat) % s.b.toNat) nought := by
  rw [volV]
  rw [if_neg h, List.take_of_length_le (by rw [List.length_drop]; omega), List.length_append, List.length_drop]
theorem label_may {s : Sett} (h : mayS s = true) {n : Nat} (hn : n < 12) : mayLb s.label ((n : Int) + 1) = true := by
  obtain ⟨a, b, c, -, -⟩ := mayLb_iff.1 (mayS_iff.1 h).1
  exact mayLb_iff.2 ⟨a, b, c, by omega, by omega⟩
theorem goes_may (t : List Nd) (pos : Nat) : BlockM.mayV (goesOn t pos) = true := by
  rw [goesOn]
  split
  · exact putC_may _ _
  · rfl
theorem putC_le (n : Nd) (off : Int) : (putC n off).length ≤ 3 := by
  rw [putC]
  split
  · rw [List.length_append, aheadC_length]
    split <;> simp
  · simp
theorem goes_le (t : List Nd) (pos : Nat) : (goesOn t pos).length ≤ 3 := by
  rw [goesOn]
  split
  · exact putC_le _ _
  · simp
theorem begin_le (t : List Nd) (s : Sett) (pos : Nat) (n : Int) : (beginL t s pos n).length ≤ 4 := by
  have := goes_le t pos
  rw [beginL, List.length_cons]
  omega
theorem begin_may {t : List Nd} {s : Sett} {pos : Nat} {n : Int} (h : mayLb s.label n = true) : BlockM.mayV (beginL t s pos n) = true := by
  refine BlockM.mayV_iff.2 fun b hb => ?_
  rw [beginL] at hb
  rcases List.mem_cons.1 hb with e | hb
  · rw [e, lblK]
    exact blk_length (name_may h).1 (name_may h).2
  · exact BlockM.mayV_iff.1 (goes_may t pos) b hb
theorem nought_len : nought.length = 512 := zeros_len
theorem all_may (t : List Nd) : ∀ b ∈ allS t, b.length = 512 := by
  intro b hb
  rw [allS] at hb
  split at hb
  · rcases List.mem_append.1 hb with hb | hb
    · rw [blocksT, List.mem_flatMap] at hb
      obtain ⟨n, -, hb⟩ := hb
      exact BlockM.mayV_iff.1 (putE_may n) b hb
    · rw [endsV_is] at hb
      simp only [List.mem_cons, List.not_mem_nil, or_false] at hb
      rcases hb with rfl | rfl <;> exact zeros_len
  · cases hb
theorem vol_may {t : List Nd} {s : Sett} {pos n room : Nat} (h : mayLb s.label ((n : Int) + 1) = true) : BlockM.mayV (volV t s pos n room) = true := by
  have hb : ∀ b ∈ beginL t s pos ((n : Int) + 1) ++ ((allS t).drop pos).take (room - (beginL t s pos ((n : Int) + 1)).length), b.length = 512 := by
    intro b hb
    rcases List.mem_append.1 hb with hb | hb
    · exact BlockM.mayV_iff.1 (begin_may h) b hb
    · exact all_may t b (List.mem_of_mem_drop (List.mem_of_mem_take hb))
  refine BlockM.mayV_iff.2 fun b hb2 => ?_
  rw [volV] at hb2
  split at hb2
  · exact hb b hb2
  · rcases List.mem_append.1 hb2 with hb2 | hb2
    · exact hb b hb2
    · rw [List.eq_of_mem_replicate hb2]
      exact nought_len
/-- How long a volume is. -/
theorem vol_length {t : List Nd} {s : Sett} (hs : mayS s = true) {pos n : Nat} {c : Int} (hp : pos < (allS t).length) (hc : s.caps[n]? = some c) (hr : (beginL t s pos ((n : Int) + 1)).length < (s.b * c).toNat) :
    2 ≤ (volV t s pos n (s.b * c).toNat).length ∧ (volV t s pos n (s.b * c).toNat).length ≤ (s.b * c).toNat ∧ (volV t s pos n (s.b * c).toNat).length % s.b.toNat = 0 ∧
    (pos + ((s.b * c).toNat - (beginL t s pos ((n : Int) + 1)).length) < (allS t).length → (volV t s pos n (s.b * c).toNat).length = (s.b * c).toNat) := by
  obtain ⟨hroom, hb1⟩ := room_is hs (cap_ok hs hc).1
  have h1 := beginL_pos t s pos ((n : Int) + 1)
  by_cases h : pos + ((s.b * c).toNat - (beginL t s pos ((n : Int) + 1)).length) < (allS t).length
  · obtain ⟨-, e⟩ := vol_full hr h
    rw [e]
    exact ⟨by omega, Nat.le_refl _, by rw [hroom]; exact Nat.mul_mod_right _ _, fun _ => rfl⟩
  · have e := vol_last hp hr h
    rw [e, List.length_append, List.length_append, List.length_drop, List.length_replicate]
    obtain ⟨a1, a2, -⟩ := round_up (b := s.b.toNat) (k := c.toNat) (l := (beginL t s pos ((n : Int) + 1)).length + ((allS t).length - pos)) hb1 (by rw [← hroom]; omega)
    rw [hroom] at hr h ⊢
    exact ⟨by omega, a1, a2, fun hh => absurd hh h⟩
theorem chain_over {t : List Nd} {s : Sett} {pos n : Nat} {vs : List (List L)} {e : Int} (h : Chain t s pos n vs e) (hp : (allS t).length ≤ pos) : vs = [] ∧ e = 0 := by
  cases h with
  | done _ => exact ⟨rfl, rfl⟩
  | media h1 _ => omega
  | small h1 _ _ => omega
  | more h1 _ _ _ => omega
theorem chain_count {t : List Nd} {s : Sett} {pos n : Nat} {vs : List (List L)} {e : Int} (h : Chain t s pos n vs e) (hn : n ≤ s.caps.length) : n + vs.length ≤ s.caps.length ∧ (e = 14 → n + vs.length = s.caps.length) ∧ (e = 0 ∨ e = 13 ∨ e = 14) := by
  induction h with
  | done _ => exact ⟨hn, fun h => by omega, .inl rfl⟩
  | media _ hc =>
    have := List.getElem?_eq_none_iff.1 hc
    exact ⟨hn, fun _ => by rw [List.length_nil]; omega, .inr (.inr rfl)⟩
  | small _ _ _ => exact ⟨hn, fun h => by omega, .inr (.inl rfl)⟩
  | more _ hc _ _ ih =>
    have := (List.getElem?_eq_some_iff.1 hc).1
    obtain ⟨a, b, c⟩ := ih (by omega)
    rw [List.length_cons]
    exact ⟨by omega, fun h => by have := b h; omega, c⟩
theorem chain_room {t : List Nd} {s : Sett} (hs : mayS s = true) {pos n : Nat} {vs : List (List L)} {e : Int} (h : Chain t s pos n vs e) : ∀ (i : Nat) (v : List L), vs[i]? = some v → ∃ c, s.caps[n + i]? = some c ∧ 2 ≤ v.length ∧ v.length ≤ (s.b * c).toNat ∧ v.length % s.b.toNat = 0 ∧ (v.length = (s.b * c).toNat ∨ (e = 0 ∧ i + 1 = vs.length)) ∧ BlockM.mayV v = true := by
  induction h with
  | done _ => intro i v h; simp at h
  | media _ _ => intro i v h; simp at h
  | small _ _ _ => intro i v h; simp at h
  | @more pos n c vs e hp hc hr hch ih =>
    intro i v hv
    cases i with
    | zero =>
      obtain rfl : volV t s pos n (s.b * c).toNat = v := by simpa using hv
      obtain ⟨a1, a2, a3, a4⟩ := vol_length hs hp hc hr
      have hn := (List.getElem?_eq_some_iff.1 hc).1
      have h12 := (mayS_iff.1 hs).2.2.2.1
      refine ⟨c, hc, a1, a2, a3, ?_, vol_may (label_may hs (by omega))⟩
      by_cases h : pos + ((s.b * c).toNat - (beginL t s pos ((n : Int) + 1)).length) < (allS t).length
      · exact .inl (a4 h)
      · obtain ⟨rfl, rfl⟩ := chain_over hch (by omega)
        exact .inr ⟨rfl, rfl⟩
    | succ i =>
      obtain ⟨c', b1, b2, b3, b4, b5, b6⟩ := ih i v (by simpa using hv)
      refine ⟨c', by rw [← b1]; congr 1; omega, b2, b3, b4, ?_, b6⟩
      rcases b5 with b5 | ⟨b5, b7⟩
      · exact .inl b5
      · exact .inr ⟨b5, by rw [List.length_cons]; omega⟩
/-- One volume, and how it goes on. -/
theorem chain_next {t : List Nd} {s : Sett} (hs : mayS s = true) {pos n : Nat} {v : List L} {vs : List (List L)} {e : Int} (h : Chain t s pos n (v :: vs) e) :
    pos < (allS t).length ∧ n < s.caps.length ∧ ∃ rest, v = beginL t s pos ((n : Int) + 1) ++ rest ∧ 1 ≤ rest.length ∧ (∀ (k : Nat) (x : L), rest[k]? = some x → (pos + k < (allS t).length ∧ (allS t)[pos + k]? = some x) ∨ ((allS t).length ≤ pos + k ∧ x = nought)) ∧
      ∃ pos', Chain t s pos' (n + 1) vs e ∧ (pos' = pos + rest.length ∨ ((allS t).length ≤ pos + rest.length ∧ (allS t).length ≤ pos')) := by
  cases h with
  | @more _ _ c _ _ hp hc hr hch =>
    refine ⟨hp, (List.getElem?_eq_some_iff.1 hc).1, ?_⟩
    by_cases hf : pos + ((s.b * c).toNat - (beginL t s pos ((n : Int) + 1)).length) < (allS t).length
    · obtain ⟨e1, -⟩ := vol_full hr hf
      have hl : (((allS t).drop pos).take ((s.b * c).toNat - (beginL t s pos ((n : Int) + 1)).length)).length = (s.b * c).toNat - (beginL t s pos ((n : Int) + 1)).length := by
        rw [List.length_take, List.length_drop]
        omega
      refine ⟨_, e1, by omega, fun k x hx => ?_, _, hch, .inl (by omega)⟩
      have hk := (List.getElem?_eq_some_iff.1 hx).1
      rw [List.getElem?_take, if_pos (by omega), List.getElem?_drop] at hx
      exact .inl ⟨(List.getElem?_eq_some_iff.1 hx).1, hx⟩
    · have e1 := vol_last hp hr hf
      rw [List.append_assoc] at e1
      have hl : ((allS t).drop pos).length = (allS t).length - pos := by rw [List.length_drop]
      refine ⟨_, e1, by rw [List.length_append]; omega, fun k x hx => ?_, _, hch, .inr ⟨by rw [List.length_append]; omega, by omega⟩⟩
      by_cases hk : k < (allS t).length - pos
      · rw [List.getElem?_append_left (by omega), List.getElem?_drop] at hx
        exact .inl ⟨by omega, hx⟩
      · rw [List.getElem?_append_right (by omega)] at hx
        exact .inr ⟨by omega, List.eq_of_mem_replicate (List.mem_of_getElem? hx)⟩
theorem chain_nil {t : List Nd} {s : Sett} {pos n : Nat} {e : Int} (h : Chain t s pos n [] e) : (e = 0 ∧ (allS t).length ≤ pos) ∨ (e ≠ 0 ∧ pos < (allS t).length) := by
  cases h with
  | done h => exact .inl ⟨rfl, h⟩
  | media h _ => exact .inr ⟨by decide, h⟩
  | small h _ _ => exact .inr ⟨by decide, h⟩
/-- With more capacities behind. -/
theorem chain_more {t : List Nd} {s x : Sett} {more : List Int} (hl : x.label = s.label) (hb : x.b = s.b) (hc : x.caps = s.caps ++ more) {pos n : Nat} {vs : List (List L)} {e : Int} (h : Chain t s pos n vs e) :
    ∀ {ws : List (List L)} {f : Int}, Chain t x pos n ws f → n ≤ s.caps.length → ∃ us, ws = vs ++ us ∧ (e ≠ 14 → us = [] ∧ f = e) := by
  have hB : ∀ pos m, beginL t x pos m = beginL t s pos m := fun pos m => by rw [beginL, beginL, hl]
  have hV : ∀ pos n room, volV t x pos n room = volV t s pos n room := fun pos n room => by rw [volV, volV, hB, hb]
  induction h with
  | done h1 =>
    intro ws f hx _
    obtain ⟨rfl, rfl⟩ := chain_over hx h1
    exact ⟨[], rfl, fun _ => ⟨rfl, rfl⟩⟩
  | media h1 h2 =>
    intro ws f hx _
    exact ⟨ws, rfl, fun h => absurd rfl h⟩
  | @small pos n c h1 h2 h3 =>
    intro ws f hx _
    have hlt := (List.getElem?_eq_some_iff.1 h2).1
    have h2x : x.caps[n]? = some c := by rw [hc, List.getElem?_append_left hlt]; exact h2
    cases hx with
    | done h => omega
    | media _ h => rw [h2x] at h; cases h
    | small _ _ _ => exact ⟨[], rfl, fun _ => ⟨rfl, rfl⟩⟩
    | more _ h hr _ =>
      rw [h2x] at h
      cases h
      rw [hB, hb] at hr
      omega
  | @more pos n c vs e h1 h2 h3 h4 ih =>
    intro ws f hx hn
    have hlt := (List.getElem?_eq_some_iff.1 h2).1
    have h2x : x.caps[n]? = some c := by rw [hc, List.getElem?_append_left hlt]; exact h2
    cases hx with
    | done h => omega
    | media _ h => rw [h2x] at h; cases h
    | small _ h hr =>
      rw [h2x] at h
      cases h
      rw [hB, hb] at hr
      omega
    | more _ h hr hch =>
      rw [h2x] at h
      cases h
      rw [hB, hb] at hch
      obtain ⟨us, e1, e2⟩ := ih hch (by omega)
      refine ⟨us, ?_, e2⟩
      rw [hV, hb, e1]
      rfl
/-- With a capacity of 0 behind. -/
theorem chain_zero {t : List Nd} {s x : Sett} (hl : x.label = s.label) (hb : x.b = s.b) (hc : x.caps = s.caps ++ [0]) {pos n : Nat} {vs : List (List L)} {e : Int} (h : Chain t s pos n vs e) :
    ∀ {ws : List (List L)} {f : Int}, Chain t x pos n ws f → n ≤ s.caps.length → e = 14 → ws = vs ∧ f = 13 := by
  have hB : ∀ pos m, beginL t x pos m = beginL t s pos m := fun pos m => by rw [beginL, beginL, hl]
  have hV : ∀ pos n room, volV t x pos n room = volV t s pos n room := fun pos n room => by rw [volV, volV, hB, hb]
  induction h with
  | done h1 => intro ws f hx _ he; omega
  | @media pos n h1 h2 =>
    intro ws f hx hn _
    have := List.getElem?_eq_none_iff.1 h2
    obtain rfl : n = s.caps.length := by omega
    have h2x : x.caps[s.caps.length]? = some 0 := by rw [hc, List.getElem?_append_right (Nat.le_refl _), Nat.sub_self]; rfl
    cases hx with
    | done h => omega
    | media _ h => rw [h2x] at h; cases h
    | small _ _ _ => exact ⟨rfl, rfl⟩
    | more _ h hr _ =>
      rw [h2x] at h
      cases h
      rw [Int.mul_zero] at hr
      exact absurd hr (by simp)
  | small h1 h2 h3 => intro ws f hx _ he; omega
  | @more pos n c vs e h1 h2 h3 h4 ih =>
    intro ws f hx hn he
    have hlt := (List.getElem?_eq_some_iff.1 h2).1
    have h2x : x.caps[n]? = some c := by rw [hc, List.getElem?_append_left hlt]; exact h2
    cases hx with
    | done h => omega
    | media _ h => rw [h2x] at h; cases h
    | small _ h hr =>
      rw [h2x] at h
      cases h
      rw [hB, hb] at hr
      omega
    | more _ h hr hch =>
      rw [h2x] at h
      cases h
      rw [hB, hb] at hch
      obtain ⟨e1, e2⟩ := ih hch (by omega) he
      refine ⟨?_, e2⟩
      rw [hV, hb, e1]
/-- How few there are. -/
theorem chain_few {t : List Nd} {s : Sett} {pos n : Nat} {vs : List (List L)} {e : Int} (h : Chain t s pos n vs e) : vs = [] ∨ pos + vs.length ≤ (allS t).length := by
  induction h with
  | done _ => exact .inl rfl
  | media _ _ => exact .inl rfl
  | small _ _ _ => exact .inl rfl
  | more h1 h2 h3 h4 ih =>
    refine .inr ?_
    rw [List.length_cons]
    rcases ih with ih | ih
    · rw [ih, List.length_nil]
      omega
    · omega
theorem chain_bound {t : List Nd} {s : Sett} (hs : mayS s = true) {pos n : Nat} {vs : List (List L)} {e : Int} (h : Chain t s pos n vs e) (m : Nat) :
    (∀ i c, i < vs.length → s.caps[n + i]? = some c → m + 4 ≤ (s.b * c).toNat) → vs = [] ∨ pos + (vs.length - 1) * m < (allS t).length := by
  induction h with
  | done _ => exact fun _ => .inl rfl
  | media _ _ => exact fun _ => .inl rfl
  | small _ _ _ => exact fun _ => .inl rfl
  | @more pos n c vs e h1 h2 h3 h4 ih =>
    intro hm
    refine .inr ?_
    have h5 := hm 0 c (by simp) h2
    have h6 := begin_le t s pos ((n : Int) + 1)
    rw [List.length_cons, Nat.add_sub_cancel]
    rcases ih (fun i c' hi hc' => hm (i + 1) c' (by rw [List.length_cons]; omega) (by rw [← hc']; congr 1; omega)) with ih | ih
    · rw [ih, List.length_nil, Nat.zero_mul]
      omega
    · cases vs with
      | nil => rw [List.length_nil, Nat.zero_mul]; omega
      | cons v vs =>
        rw [List.length_cons, Nat.add_sub_cancel] at ih
        rw [List.length_cons, Nat.add_mul, Nat.one_mul]
        omega
theorem all_last {t : List Nd} (h : mayT t = true) : (allS t).getLast? = some nought := by
  rw [allS_yes h, endsV_is, List.getLast?_append]
  rfl
theorem vol_nought {t : List Nd} {s : Sett} (ht : mayT t = true) {pos n room : Nat} (hp : pos < (allS t).length) (hr : (beginL t s pos ((n : Int) + 1)).length < room) (h : ¬ pos + (room - (beginL t s pos ((n : Int) + 1)).length) < (allS t).length) : (volV t s pos n room).getLast? = some nought := by
  rw [vol_last hp hr h, List.getLast?_append, List.getLast?_replicate]
  split
  · rw [List.getLast?_append, List.getLast?_drop, if_neg (by omega), all_last ht]
    rfl
  · rfl
/-- If all is there: what stands last, and how many blocks there are. -/
theorem chain_last {t : List Nd} {s : Sett} (ht : mayT t = true) (hs : mayS s = true) {pos n : Nat} {vs : List (List L)} {e : Int} (h : Chain t s pos n vs e) : e = 0 → pos < (allS t).length →
    (∃ v, vs.getLast? = some v ∧ v.getLast? = some nought) ∧ (allS t).length + vs.length ≤ pos + (vs.map List.length).sum ∧ pos + (vs.map List.length).sum + 1 ≤ (allS t).length + 4 * vs.length + s.b.toNat := by
  induction h with
  | done h1 => intro _ h2; omega
  | media h1 h2 => intro he; omega
  | small h1 h2 h3 => intro he; omega
  | @more pos n c vs e h1 h2 h3 h4 ih =>
    intro he _
    have h5 := beginL_pos t s pos ((n : Int) + 1)
    have h6 := begin_le t s pos ((n : Int) + 1)
    obtain ⟨-, hb1⟩ := room_is hs (cap_ok hs h2).1
    rw [List.map_cons, List.sum_cons, List.length_cons]
    by_cases hf : pos + ((s.b * c).toNat - (beginL t s pos ((n : Int) + 1)).length) < (allS t).length
    · obtain ⟨-, e1⟩ := vol_full h3 hf
      obtain ⟨⟨v, a1, a2⟩, a3, a4⟩ := ih he hf
      rw [e1]
      refine ⟨⟨v, ?_, a2⟩, by omega, by omega⟩
      rw [List.getLast?_cons, a1]
      rfl
    · obtain ⟨rfl, -⟩ := chain_over h4 (by omega)
      refine ⟨⟨_, rfl, vol_nought ht h1 h3 hf⟩, ?_⟩
      have e1 : (volV t s pos n (s.b * c).toNat).length = (beginL t s pos ((n : Int) + 1)).length + ((allS t).length - pos) + (s.b.toNat - ((beginL t s pos ((n : Int) + 1)).length + ((allS t).length - pos)) % s.b.toNat) % s.b.toNat := by
        rw [vol_last h1 h3 hf, List.length_append, List.length_append, List.length_replicate, List.length_drop]
      have e2 := Nat.mod_lt (s.b.toNat - ((beginL t s pos ((n : Int) + 1)).length + ((allS t).length - pos)) % s.b.toNat) hb1
      rw [e1, List.map_nil, List.sum_nil, List.length_nil]
      exact ⟨by omega, by omega⟩
theorem beginB_iff {t : List Nd} {s : Sett} {pos n : Int} : beginB t s pos n = true ↔ mayT t = true ∧ mayS s = true ∧ mayLb s.label n = true ∧ 0 ≤ pos ∧ pos < ((allS t).length : Int) := by simp [beginB]
theorem beginV_yes {t : List Nd} {s : Sett} {pos n : Int} (h : beginB t s pos n = true) : beginV t s pos n = beginL t s pos.toNat n := by rw [beginV, if_pos h]
/-- Which block of a file's own stands at a place. -/
theorem where_may {t : List Nd} (ht : mayT t = true) (i : Nat) :
    (∃ k : Nat, (whereL t 0 i).1 = (k : Int) ∧ k ≤ t.length) ∧ (0 ≤ (whereL t 0 i).2 → ∃ (k : Nat) (n : Nd), t[k]? = some n ∧ (whereL t 0 i).1 = (k : Int) ∧ mayC n (512 * (whereL t 0 i).2) = true) := by
  by_cases h : i < startN t t.length
  · obtain ⟨k, n, hk, h1, h2⟩ := place t i h
    have hw := whereL_in hk h1 h2
    have hlt := (List.getElem?_eq_some_iff.1 hk).1
    rw [hw]
    refine ⟨⟨k, rfl, by omega⟩, fun h0 => ⟨k, n, hk, rfl, ?_⟩⟩
    have ho := Tree.may_one ht hk
    have f := oneF ho
    have hst := start_step hk
    simp only [ownV] at h0 ⊢
    have hd : dataE n = BlockM.manyN n.data.length := by rw [dataE, if_pos ho]
    have hm := BlockM.manyN_lt n.data.length
    by_cases h3 : i - startN t k + dataE n < (putE n).length
    · rw [if_pos h3] at h0
      omega
    · rw [if_neg h3] at h0 ⊢
      have h48 : n.kind = 48 := by
        by_cases hk : n.kind = 48
        · exact hk
        · have := f.only hk
          rw [this, List.length_nil] at hd hm
          omega
      refine mayC_iff.2 ⟨isFile_iff.2 ⟨ho, h48⟩, by omega, by omega, by omega⟩
  · rw [whereL_out (by omega)]
    exact ⟨⟨t.length, rfl, Nat.le_refl _⟩, fun (h0 : (0 : Int) ≤ -1) => by omega⟩
/-- Who goes on at a place, as cont tells it. -/
theorem goes_get {t : List Nd} {i : Nat} (ht : mayT t = true) (h0 : 0 ≤ (whereL t 0 i).2) : ∃ (k : Nat) (n : Nd), t[k]? = some n ∧ (whereL t 0 i).1 = (k : Int) ∧ goesOn t i = putC n (512 * (whereL t 0 i).2) ∧ mayC n (512 * (whereL t 0 i).2) = true ∧
    getC (goesOn t i) = (bare n, 512 * (whereL t 0 i).2, (n.data.length : Int), ((goesOn t i).length : Int), true) := by
  obtain ⟨k, n, hk, h1, h2⟩ := (where_may ht i).2 h0
  have e : goesOn t i = putC n (512 * (whereL t 0 i).2) := by
    rw [goesOn, if_pos h0, h1, Int.toNat_natCast, List.getD_eq_getElem?_getD, hk]
    rfl
  refine ⟨k, n, hk, h1, e, h2, ?_⟩
  rw [e, get_of h2 (List.take_length ..)]
theorem goes_none {t : List Nd} {i : Nat} (h0 : (whereL t 0 i).2 < 0) : goesOn t i = [] := by rw [goesOn, if_neg (by omega)]
/-- The volumes, one step. -/
theorem vols_over {t : List Nd} {s : Sett} {f pos n : Nat} (h : (allS t).length ≤ pos) : volsG t s f pos n = ([], 0) := by
  cases f with
  | zero => rfl
  | succ f => rw [volsG, if_pos h]
theorem vols_none {t : List Nd} {s : Sett} {z pos n : Nat} (hz : (allS t).length = z) (hp : pos < z) (hc : s.caps[n]? = none) : volsG t s z pos n = ([], 14) := by
  obtain ⟨f, rfl⟩ : ∃ f, z = f + 1 := ⟨z - 1, by omega⟩
  rw [volsG, if_neg (by omega), hc]
theorem vols_small {t : List Nd} {s : Sett} {z pos n : Nat} {c : Int} (hz : (allS t).length = z) (hp : pos < z) (hc : s.caps[n]? = some c) (hr : (s.b * c).toNat ≤ (beginL t s pos ((n : Int) + 1)).length) : volsG t s z pos n = ([], 13) := by
  obtain ⟨f, rfl⟩ : ∃ f, z = f + 1 := ⟨z - 1, by omega⟩
  rw [volsG, if_neg (by omega), hc]
  simp only
  rw [if_pos hr]
theorem vols_step {t : List Nd} {s : Sett} {z pos n pos2 : Nat} {c : Int} (hz : (allS t).length = z) (hp : pos < z) (hc : s.caps[n]? = some c) (hr : (beginL t s pos ((n : Int) + 1)).length < (s.b * c).toNat)
    (h2 : pos2 = pos + ((s.b * c).toNat - (beginL t s pos ((n : Int) + 1)).length) ∨ (z ≤ pos + ((s.b * c).toNat - (beginL t s pos ((n : Int) + 1)).length) ∧ pos2 = z)) :
    volsG t s z pos n = (volV t s pos n (s.b * c).toNat :: (volsG t s z pos2 (n + 1)).1, (volsG t s z pos2 (n + 1)).2) := by
  obtain ⟨f, hf⟩ : ∃ f, z = f + 1 := ⟨z - 1, by omega⟩
  have e : volsG t s z pos n = (volV t s pos n (s.b * c).toNat :: (volsG t s f (pos + ((s.b * c).toNat - (beginL t s pos ((n : Int) + 1)).length)) (n + 1)).1, (volsG t s f (pos + ((s.b * c).toNat - (beginL t s pos ((n : Int) + 1)).length)) (n + 1)).2) := by
    rw [hf, volsG, if_neg (by omega), hc]
    simp only
    rw [if_neg (by omega)]
  have e2 : volsG t s f (pos + ((s.b * c).toNat - (beginL t s pos ((n : Int) + 1)).length)) (n + 1) = volsG t s z pos2 (n + 1) := by
    rcases h2 with rfl | ⟨h3, h4⟩
    · exact (vols_fuel t s f z _ _ (by omega) (by omega)).symm
    · rw [vols_over (by omega), vols_over (by omega)]
  rw [e, e2]
end Go.Proofs.YtllnnlmhbmladaaGreatDoor.VolM

namespace Go.Proofs.YtllnnlmhbmladaaGreatDoor.Base
open Go.RowKit
/-- Numbers as cells. -/
def zcs (xs : List Int) : List Value := xs.map fun n : Int => Value.int .i64 n
theorem zcs_length (xs : List Int) : (zcs xs).length = xs.length := by simp [zcs]
theorem zcs_append (xs ys : List Int) : zcs (xs ++ ys) = zcs xs ++ zcs ys := by simp [zcs]
theorem zcs_one (xs : List Int) : ∀ u ∈ zcs xs, u.oneCell' = true := by
  intro u hu
  obtain ⟨_, _, rfl⟩ := List.mem_map.1 hu
  rfl
theorem zcs_at {xs : List Int} {j : Nat} {x : Int} (h : xs[j]? = some x) : (zcs xs)[j]? = some (.int .i64 x) := by simp [zcs, h]
/-- The slice at A reads as these numbers. -/
abbrev RdZ (w : World) (A : Option Addr) (c : Nat) (xs : List Int) : Prop := RdA w A c (zcs xs)
theorem RdZ.cell {w : World} {A : Option Addr} {c : Nat} {xs : List Int} (h : RdZ w A c xs) {j : Nat} {x : Int} (hj : xs[j]? = some x) : ∃ b o, A = some ⟨b, o, none⟩ ∧ w.cell? ⟨b, o + j, none⟩ = some (.int .i64 x) := by
  obtain ⟨b, o, rfl, hu⟩ := RdA.at_ h (j := j) (by rw [zcs_length]; exact (List.getElem?_eq_some_iff.1 hj).1)
  exact ⟨b, o, rfl, hu j _ (zcs_at hj)⟩
end Go.Proofs.YtllnnlmhbmladaaGreatDoor.Base
namespace Go.Proofs.YtllnnlmhbmladaaGreatDoor.Vol
open Go.ChangeShapes Go.WideShapes Go.ChangeAt Go.RowKit Go.Proofs.YtllnnlmhbmladaaGreatDoor.Base Go.Proofs.YtllnnlmhbmladaaGreatDoor.Frame Go.Proofs.YtllnnlmhbmladaaGreatDoor.VolM

theorem array3 {α : Type} {cs : Array α} (h : cs.size = 3) : ∃ c0 c1 c2, cs = #[c0, c1, c2] := by
  obtain ⟨l⟩ := cs
  match l, h with
  | [c0, c1, c2], _ => exact ⟨c0, c1, c2, rfl⟩
theorem list3 {α : Type} {cs : List α} (h : cs.length = 3) : ∃ c0 c1 c2, cs = [c0, c1, c2] := by
  match cs, h with
  | [c0, c1, c2], _ => exact ⟨c0, c1, c2, rfl⟩
theorem cells_int : Tryz.prog.cellsOf 3 = 1 := by kernel_rfl
/-- A set whose capacities stand at A, with room for k. -/
abbrev scells (s : Sett) (A : Option Addr) (k : Nat) : Array Value := #[.string ⟨s.label.toArray⟩, .int .i64 s.b, .slice A s.caps.length k]
abbrev sv (s : Sett) (A : Option Addr) (k : Nat) : Value := .agg (scells s A k)
structure SmallS (s : Sett) : Prop where
  label : s.label.length ≤ 9223372036854775807
  low : -9223372036854775808 ≤ s.b
  high : s.b < 9223372036854775808
  few : s.caps.length < 9223372036854775808
  each : ∀ x ∈ s.caps, -9223372036854775808 ≤ x ∧ x < 9223372036854775808

end Go.Proofs.YtllnnlmhbmladaaGreatDoor.Vol

namespace Go.Proofs.YtllnnlmhbmladaaGreatDoor.Base
open Go.RowKit
set_option linter.unusedVariables false

/-- A slice of slices whose row lies in a block of such a type. -/
def RdT (w : World) (e : TypeId) (u : Value) (vs : List (List UInt8)) : Prop :=
  ∃ A c, u = .slice A vs.length c ∧ RdL w A c vs ∧ ∀ g, u.ownBlock = some g → ∃ cur fz, w.heap[g]? = some (.cells cur e fz)
/-- The slice at A reads as these rows of rows. -/
def RdV (w : World) (A : Option Addr) (cap : Nat) (vss : List (List (List UInt8))) : Prop :=
  ∃ us : List Value, us.length = vss.length ∧ RdA w A cap us ∧ ∀ (j : Nat) (vs : List (List UInt8)), vss[j]? = some vs → ∃ B d, us[j]? = some (.slice B vs.length d) ∧ RdL w B d vs
/-- A row of the call's own that holds such slices. -/
def Rows3 (w : World) (lo : Nat) (e3 e2 : TypeId) (v : Value) (vss : List (List (List UInt8))) : Prop :=
  ∃ us : List Value, Own w lo e3 v us ∧ AllSl w v ∧ us.length = vss.length ∧ ∀ (j : Nat) (vs : List (List UInt8)), vss[j]? = some vs → ∃ u, us[j]? = some u ∧ RdT w e2 u vs
section
variable {P : Program} {w w' : World} {lo : Nat} {e e2 e3 : TypeId} {u v x : Value} {A : Option Addr} {cap : Nat} {vs : List (List UInt8)} {vss : List (List (List UInt8))} {us : List Value}
theorem own_type (h : Own w lo e v us) {g : Nat} (hg : v.ownBlock = some g) : ∃ cur fz, w.heap[g]? = some (.cells cur e fz) := by
  rcases h with ⟨rfl, _⟩ | ⟨g', cap, cur, fz, rfl, _, hgg, _⟩
  · simp [Value.ownBlock] at hg
  · simp [Value.ownBlock] at hg
    subst hg
    exact ⟨cur, fz, hgg⟩
theorem Rows.less {lo' : Nat} (h : Rows w lo e v vs) (hl : lo' ≤ lo) : Rows w lo' e v vs := by
  obtain ⟨us, h1, h2⟩ := h
  exact ⟨us, h1.less hl, h2⟩
theorem Rows.rdT (h : Rows w lo e v vs) : RdT w e v vs := by
  obtain ⟨us, h1, -⟩ := id h
  obtain ⟨A, cap, rfl, hL⟩ := h.rdL
  exact ⟨A, cap, rfl, hL, fun g hg => own_type h1 hg⟩
theorem RdT.keep (h : RdT w e u vs) (hs : Stp w w') : RdT w' e u vs := by
  obtain ⟨A, c, rfl, hL, ht⟩ := h
  refine ⟨A, c, rfl, hL.keep hs, fun g hg => ?_⟩
  obtain ⟨cur, fz, q⟩ := ht g hg
  exact ⟨cur, fz, (hs.block g (lt_of_block q)).trans q⟩
theorem RdT.past (h : RdT w e2 u vs) (ho : Own w lo e3 v us) (hs : AllSl w v) (hne : e2 ≠ e3) (hb : w.grownBy w' v.ownBlock) : RdT w' e2 u vs := by
  obtain ⟨A, c, rfl, ⟨us', k1, k2, k3⟩, ht⟩ := h
  have far : ∀ g, (Value.slice A vs.length c).ownBlock = some g → w'.heap[g]? = w.heap[g]? := fun g hg => by
    obtain ⟨cur, fz, q⟩ := ht g hg
    refine hb.block g (lt_of_block q) fun hv => ?_
    obtain ⟨cur3, fz3, q3⟩ := own_type ho hv.symm
    rw [q] at q3
    cases q3
    exact hne rfl
  refine ⟨A, c, rfl, ⟨us', k1, ?_, fun j l hj => ?_⟩, fun g hg => ?_⟩
  · obtain ⟨A', c', heq, hc, hr⟩ := k2
    cases heq
    refine ⟨A, c, rfl, hc, fun hn => ?_⟩
    obtain ⟨b, o, rfl, hB, hu⟩ := hr hn
    refine ⟨b, o, rfl, Nat.lt_of_lt_of_le hB hb.size, fun j y hj => ?_⟩
    rw [← hu j y hj]
    simp only [World.cell?, far b rfl]
  · obtain ⟨y, hy, hr⟩ := k3 j l hj
    exact ⟨y, hy, (hr.past hs hb (Nat.le_refl _)).more hb.size⟩
  · obtain ⟨cur, fz, q⟩ := ht g hg
    exact ⟨cur, fz, (far g hg).trans q⟩
theorem Rows3.nil (w : World) (lo : Nat) (e3 e2 : TypeId) : Rows3 w lo e3 e2 (.slice none 0 0) [] := ⟨[], Own.nil _ _ _, AllSl.nil w, rfl, by simp⟩
theorem Rows3.keep (h : Rows3 w lo e3 e2 v vss) (hs : Stp w w') : Rows3 w' lo e3 e2 v vss := by
  obtain ⟨us, h1, h2, h3, h4⟩ := h
  refine ⟨us, h1.keep hs, h2.keep h1 hs, h3, fun j l hj => ?_⟩
  obtain ⟨u, hu, hr⟩ := h4 j l hj
  exact ⟨u, hu, hr.keep hs⟩
theorem Rows3.rdV (h : Rows3 w lo e3 e2 v vss) : ∃ A cap, v = .slice A vss.length cap ∧ RdV w A cap vss := by
  obtain ⟨us, h1, h2, h3, h4⟩ := h
  obtain ⟨A, cap, rfl, hA⟩ := RdA.of h1.rd
  refine ⟨A, cap, by rw [h3], us, h3, hA, fun j vs hj => ?_⟩
  obtain ⟨u, hu, B, d, rfl, hL, -⟩ := h4 j vs hj
  exact ⟨B, d, hu, hL⟩
theorem Rows3.stp {w0 : World} (h : Rows3 w lo e3 e2 v vss) (h0 : Stp w0 w) (hlo : w0.heap.size ≤ lo) (hg : w.grownBy w' v.ownBlock) : Stp w0 w' := by
  obtain ⟨us, h1, _, _, _⟩ := h
  exact Below.grown h0 hg h0.size (fun j hj => Nat.le_trans hlo (h1.lt j hj).1)
theorem RdT.isSl (h : RdT w e u vs) : IsSl u := by
  obtain ⟨A, c, rfl, -⟩ := h
  exact ⟨_, _, _, rfl⟩
/-- append of one. -/
theorem Rows3.push (h : Rows3 w lo e3 e2 v vss) (t ty : TypeId) (ht : P.underlying t = some (.slice e3)) (hi : (P.info? e3).map (fun i => (i.zero, i.size, i.bytes)) = some (some (.slice none 0 0), 1, 24)) (hne : e2 ≠ e3)
    (hx : RdT w e2 x vs) {B : Nat} {y : Value} (hr : Rd w B y [x]) (hl : vss.length + 1 ≤ 1000000000) (hlo : lo ≤ w.heap.size) :
    ∃ v' w', (Builtin.append_ #[t, t] ty #[v, y]).run P w = .ok v' w' ∧ Rows3 w' lo e3 e2 v' (vss ++ [vs]) ∧ w.grownBy w' v.ownBlock := by
  obtain ⟨us, h1, h2, h3, h4⟩ := h
  obtain ⟨i, hi', hz, hsz, hby⟩ := info_parts hi
  obtain ⟨v', w', q1, q2, q3, q4⟩ := run_append_sl (P := P) (w := w) lo t ty e3 i _ 24 ht hi' hz hsz hby rfl ⟨_, _, _, rfl⟩ v us h1 h2 B y [x] hr (fun z hz => by rw [List.mem_singleton.1 hz]; exact hx.isSl)
    (by rw [h3, List.length_singleton]; unfold maxLen; omega) (by rw [h3, List.length_singleton]; omega) hlo
  refine ⟨v', w', q1, ⟨us ++ [x], q2, q3, by simp [h3], fun j l hj => ?_⟩, q4⟩
  by_cases hlt : j < vss.length
  · rw [List.getElem?_append_left hlt] at hj
    rw [List.getElem?_append_left (by omega)]
    obtain ⟨u, hu, hr⟩ := h4 j l hj
    exact ⟨u, hu, hr.past h1 h2 hne q4⟩
  · rw [List.getElem?_append_right (by omega)] at hj
    rw [List.getElem?_append_right (by omega), h3]
    obtain ⟨hj0, rfl⟩ : j - vss.length = 0 ∧ vs = l := by
      cases hjj : j - vss.length with
      | zero => rw [hjj] at hj; exact ⟨rfl, by simpa using hj⟩
      | succ n => rw [hjj] at hj; simp at hj
    rw [hj0]
    exact ⟨x, rfl, hx.past h1 h2 hne q4⟩
theorem wpList_append_rows3 {ops : Array Oper} {rest : List Oper} {o : Oper} {a : Act} {Q : Exit → Act → World → Prop} (hgd : o.guard = none) (s y : Operand) (t : TypeId)
    (ho : o.op = .call { callee := .builtin .append, args := #[s, y], argTypes := #[t, t] })
    (ht : P.underlying t = some (.slice e3)) (hi : (P.info? e3).map (fun i => (i.zero, i.size, i.bytes)) = some (some (.slice none 0 0), 1, 24)) (hne : e2 ≠ e3)
    (hs : a.eval s = v) (h : Rows3 w lo e3 e2 v vss) {yv : Value} (hy : a.eval y = yv) (hx : RdT w e2 x vs) {B : Nat} (hr : Rd w B yv [x]) (hl : vss.length + 1 ≤ 1000000000) (hlo : lo ≤ w.heap.size)
    (hK : ∀ v' w', Rows3 w' lo e3 e2 v' (vss ++ [vs]) → w.grownBy w' v.ownBlock → wpList P ops Q rest (a.put o.dst v') w') : wpList P ops Q (o :: rest) a w := by
  refine wpList_plain hgd fun K hK2 => ?_
  obtain ⟨v', w', hr', h2, h3⟩ := h.push (P := P) t o.type ht hi hne hx hr hl hlo
  unfold Oper.wp execOp
  simp only [ho, resolve, invoke, builtin, Sem.run_bind, Sem.run_pure, Result.andThen_ok, List.map_toArray, List.map_cons, List.map_nil, hs, hy, hr']
  exact hK2 _ _ (hK v' w' h2 h3)
end
end Go.Proofs.YtllnnlmhbmladaaGreatDoor.Base

