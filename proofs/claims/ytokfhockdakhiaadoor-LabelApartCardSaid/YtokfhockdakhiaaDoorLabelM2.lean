/-
  Labels and headers: plain functions over bytes, and what follows of them: no Go, and no statement, is proved here.
-/
import Derived.Test.YtokfhockdakhiaaDoorLabelM
import Derived.Test.YtokfhockdakhiaaDoorHeadM3
namespace Go.Proofs.YtokfhockdakhiaaDoor.LabelM
open Go.Proofs.YtokfhockdakhiaaDoor.Head
set_option linter.unusedVariables false

theorem headV_small {x : L} (h : x.length ≤ 100) : SmallH (headV x) := ⟨by simp only [headV]; omega, by simp [headV], by simp [headV], by simp [headV], by simp [headV], by simp [headV], by simp [headV], by simp [headV], by simp [headV], by simp [headV]⟩
theorem okT_iff {s : L} {n : Nat} : okT s n = true ↔ s.length ≤ n ∧ ∀ x ∈ s, x ≠ 0 := by
  rw [okT, Bool.and_eq_true, decide_eq_true_eq, Bool.not_eq_true', List.contains_eq_mem, decide_eq_false_iff_not]
  exact ⟨fun ⟨a, b⟩ => ⟨a, fun x hx e => b (e ▸ hx)⟩, fun ⟨a, b⟩ => ⟨a, fun h => b 0 h rfl⟩⟩
theorem headV_may {x : L} (h1 : x ≠ []) (h2 : x.length ≤ 100) (h3 : ∀ c ∈ x, c ≠ 0) : mayH (headV x) = true := by
  have e1 : okT x 100 = true := okT_iff.2 ⟨h2, h3⟩
  have e2 : x.isEmpty = false := by cases x with
    | nil => exact absurd rfl h1
    | cons a l => rfl
  have e3 : mayH (headV x) = (!x.isEmpty && typs.contains 86 && (decide ((0 : Int) = 0) && decide ((0 : Int) = 0)) && (okT x 100 && okT [] 100 && (decide ((86 : UInt8) = 77) || okT [] 155)) && numsOk (headV x)) := rfl
  have e4 : numsOk (headV x) = true := rfl
  rw [e3, e1, e2, e4]
  rfl
theorem name_may {s : L} {n : Int} (h : mayLb s n = true) : mayH (headV (nameV s n.toNat)) = true ∧ SmallH (headV (nameV s n.toNat)) := by
  obtain ⟨h1, h2, h3⟩ := nameV_ok h
  exact ⟨headV_may (by rintro e; rw [e] at h2; simp at h2) (by omega) h3, headV_small (by omega)⟩
theorem ok_blk {l : L} (h : codeB l = 0) : mayH (getH l) = true ∧ Head.blk (getH l) = l ∧ l.length = 512 := by
  unfold getH
  rw [if_pos h]
  unfold codeB at h
  split at h
  · rename_i h1
    split at h
    · cases h
    · split at h
      · split at h
        · rename_i h4
          exact ⟨h4.1, h4.2, h1⟩
        · cases h
      · cases h
  · cases h
/-- What is put, is got. -/
theorem put_code {s : L} {n : Int} (h : mayLb s n = true) : codeB (Head.blk (headV (nameV s n.toNat))) = 0 ∧ getH (Head.blk (headV (nameV s n.toNat))) = headV (nameV s n.toNat) :=
  ⟨code_blk (name_may h).1 (name_may h).2, get_blk (name_may h).1 (name_may h).2⟩
theorem putL_inj {s t : L} {n m : Int} (h : mayLb s n = true) (k : mayLb t m = true) (e : Head.blk (headV (nameV s n.toNat)) = Head.blk (headV (nameV t m.toNat))) : s = t ∧ n = m := by
  have h1 := congrArg getH e
  rw [(put_code h).2, (put_code k).2] at h1
  have h2 : nameV s n.toNat = nameV t m.toNat := congrArg Hd.name h1
  obtain ⟨h3, h4⟩ := nameV_inj h2
  have := mayLb_iff.1 h
  have := mayLb_iff.1 k
  exact ⟨h3, by omega⟩
/-- One try: so many bytes behind the label. -/
def tryD (b x : L) (d : Nat) : Option (L × Int) := if d < x.length ∧ putL (x.take (x.length - d)) (numV (x.drop (x.length - d + 8))) = (b, true) then some (x.take (x.length - d), numV (x.drop (x.length - d + 8))) else none
def getL (b : L) : L × Int × Int :=
  if codeB b ≠ 0 then ([], 0, codeB b)
  else match ((tryD b (getH b).name 9).or (tryD b (getH b).name 10)).or (tryD b (getH b).name 11) with
    | some (s, n) => (s, n, 0)
    | none => ([], 0, 11)
theorem putL_yes {s : L} {n : Int} {b : L} : putL s n = (b, true) ↔ mayLb s n = true ∧ Head.blk (headV (nameV s n.toNat)) = b := by
  rw [putL]
  split
  · rename_i h
    simp [h]
  · rename_i h
    simp [h]
theorem tryD_some {b x : L} {d : Nat} {s : L} {n : Int} (h : tryD b x d = some (s, n)) : mayLb s n = true ∧ Head.blk (headV (nameV s n.toNat)) = b := by
  rw [tryD] at h
  split at h
  · rename_i h1
    cases h
    exact putL_yes.1 h1.2
  · cases h
theorem tryD_may {s : L} {n : Int} (h : mayLb s n = true) : tryD (Head.blk (headV (nameV s n.toNat))) (nameV s n.toNat) (8 + (dig n.toNat).length) = some (s, n) := by
  obtain ⟨h1, h2, h3, h4, h5⟩ := mayLb_iff.1 h
  have hl := nameV_len s n.toNat
  have e1 : (nameV s n.toNat).length - (8 + (dig n.toNat).length) = s.length := by omega
  have e2 : (nameV s n.toNat).take s.length = s := by rw [nameV, List.append_assoc, List.take_left]
  have e3 : (nameV s n.toNat).drop (s.length + 8) = dig n.toNat := by
    rw [nameV]
    exact List.drop_left' (by rw [List.length_append, volS_len])
  have e4 : numV (dig n.toNat) = n := by rw [num_dig]; omega
  rw [tryD, e1, e2, e3, e4, if_pos ⟨by omega, putL_yes.2 ⟨h, rfl⟩⟩]
/-- What a block tells. -/
theorem getL_put {s : L} {n : Int} (h : mayLb s n = true) : getL (Head.blk (headV (nameV s n.toNat))) = (s, n, 0) := by
  obtain ⟨h1, h2⟩ := put_code h
  have hn : (getH (Head.blk (headV (nameV s n.toNat)))).name = nameV s n.toNat := by rw [h2]; rfl
  have ht := tryD_may h
  obtain ⟨-, -, -, h4, h5⟩ := mayLb_iff.1 h
  have hl := dig_len (n := n.toNat) (by omega) (by omega)
  have any : ∀ d r, tryD (Head.blk (headV (nameV s n.toNat))) (nameV s n.toNat) d = some r → r = (s, n) := by
    rintro d ⟨t, m⟩ hh
    obtain ⟨k1, k2⟩ := tryD_some hh
    obtain ⟨e1, e2⟩ := putL_inj k1 h k2
    rw [e1, e2]
  rw [getL, if_neg (by simpa using h1), hn]
  have hd : 8 + (dig n.toNat).length = 9 ∨ 8 + (dig n.toNat).length = 10 ∨ 8 + (dig n.toNat).length = 11 := by
    rw [hl]
    split
    · exact .inl rfl
    · split
      · exact .inr (.inl rfl)
      · exact .inr (.inr rfl)
  have hs : ((tryD (Head.blk (headV (nameV s n.toNat))) (nameV s n.toNat) 9).or (tryD (Head.blk (headV (nameV s n.toNat))) (nameV s n.toNat) 10)).or (tryD (Head.blk (headV (nameV s n.toNat))) (nameV s n.toNat) 11) = some (s, n) := by
    cases h9 : tryD (Head.blk (headV (nameV s n.toNat))) (nameV s n.toNat) 9 with
    | some r => rw [any 9 r h9]; rfl
    | none =>
      cases h10 : tryD (Head.blk (headV (nameV s n.toNat))) (nameV s n.toNat) 10 with
      | some r => rw [any 10 r h10]; rfl
      | none =>
        rcases hd with e | e | e
        · rw [e, h9] at ht; cases ht
        · rw [e, h10] at ht; cases ht
        · rw [e] at ht
          rw [ht]
          rfl
  rw [hs]
theorem getL_ok {b : L} {s : L} {n e : Int} (h : getL b = (s, n, e)) : (e = 0 ∧ mayLb s n = true ∧ Head.blk (headV (nameV s n.toNat)) = b ∧ codeB b = 0) ∨ (s = [] ∧ n = 0 ∧ ((codeB b ≠ 0 ∧ e = codeB b) ∨ (codeB b = 0 ∧ e = 11))) := by
  rw [getL] at h
  by_cases hc : codeB b = 0
  · rw [if_neg (by simpa using hc)] at h
    split at h
    · rename_i s' n' hs
      cases h
      refine .inl ⟨rfl, ?_⟩
      have key : ∃ d, tryD b (getH b).name d = some (s, n) := by
        cases h9 : tryD b (getH b).name 9 with
        | some r => rw [h9] at hs; exact ⟨9, by rw [h9]; exact hs⟩
        | none =>
          cases h10 : tryD b (getH b).name 10 with
          | some r => rw [h9, h10] at hs; exact ⟨10, by rw [h10]; exact hs⟩
          | none => rw [h9, h10] at hs; exact ⟨11, hs⟩
      obtain ⟨d, hd⟩ := key
      exact ⟨(tryD_some hd).1, (tryD_some hd).2, hc⟩
    · cases h
      exact .inr ⟨rfl, rfl, .inr ⟨hc, rfl⟩⟩
  · rw [if_pos hc] at h
    cases h
    exact .inr ⟨rfl, rfl, .inl ⟨hc, rfl⟩⟩
/-- What is no label's, is none's. -/
theorem getL_none {b : L} (hc : codeB b = 0) (h : ∀ s n, mayLb s n = true → Head.blk (headV (nameV s n.toNat)) ≠ b) : getL b = ([], 0, 11) := by
  obtain ⟨s, n, e, hg⟩ : ∃ s n e, getL b = (s, n, e) := ⟨_, _, _, rfl⟩
  rcases getL_ok hg with ⟨-, h1, h2, -⟩ | ⟨rfl, rfl, ⟨h1, -⟩ | ⟨-, rfl⟩⟩
  · exact absurd h2 (h s n h1)
  · exact absurd hc h1
  · exact hg
end Go.Proofs.YtokfhockdakhiaaDoor.LabelM
