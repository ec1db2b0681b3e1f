/-
  Drives: plain functions over tapes, and what follows of them: no Go, and no statement, is proved here.
-/
import Std
import Derived.Test.YtaknnkcfoafkdaaTapeM
namespace Go.Proofs.Ytaknnkcfoafkdaa.DriveM
open Go.Proofs.Ytaknnkcfoafkdaa.BlockM Go.Proofs.Ytaknnkcfoafkdaa.RecM Go.Proofs.Ytaknnkcfoafkdaa.TapeM

@[ext] structure Dr where
  shelf : List Tp
  inn : Int
  pos : Int
deriving DecidableEq

/-- The tape that is mounted (or one without anything). -/
def tapeD (d : Dr) : Tp := d.shelf.getD d.inn.toNat ⟨0, [], false⟩
def posB (d : Dr) : Bool := if d.inn < 0 then decide (d.pos = 0) else decide (d.pos ≤ ((tapeD d).rows.length : Int))
def mayD (d : Dr) : Bool := decide (d.shelf.length ≤ 12) && decide (-1 ≤ d.inn) && decide (d.inn < (d.shelf.length : Int)) && decide (0 ≤ d.pos) && d.shelf.all mayT && posB d
def newD (l : List Tp) : Dr × Bool := if mayD ⟨l, -1, 0⟩ = true then (⟨l, -1, 0⟩, true) else (⟨[], 0, 0⟩, false)
def mountD (d : Dr) (i : Int) : Dr × Nat := if mayD d = false then (d, 1) else if i < 0 ∨ (d.shelf.length : Int) ≤ i then (d, 9) else (⟨d.shelf, i, 0⟩, 0)
/-- Why nothing can be done. -/
def whyD (d : Dr) : Nat := if mayD d = false then 1 else if d.inn < 0 then 9 else 0
def unmountD (d : Dr) : Dr × Nat := if whyD d ≠ 0 then (d, whyD d) else (⟨d.shelf, -1, 0⟩, 0)
def rewindD (d : Dr) : Dr × Nat := if whyD d ≠ 0 then (d, whyD d) else (⟨d.shelf, d.inn, 0⟩, 0)
def withD (d : Dr) (t : Tp) (p : Int) : Dr := ⟨d.shelf.set d.inn.toNat t, d.inn, p⟩
def writeD (d : Dr) (r : L) : Dr × Nat :=
  if whyD d ≠ 0 then (d, whyD d)
  else if (writeV (cutT (tapeD d) d.pos).1 r).2 ≠ 0 then (d, (writeV (cutT (tapeD d) d.pos).1 r).2)
  else (withD d (writeV (cutT (tapeD d) d.pos).1 r).1 (d.pos + 1), 0)
def markD (d : Dr) : Dr × Nat := if whyD d ≠ 0 then (d, whyD d) else (withD d (closeV (cutT (tapeD d) d.pos).1).1 d.pos, 0)
def readD (d : Dr) : Dr × L × Nat :=
  if whyD d ≠ 0 then (d, [], whyD d)
  else if (readV (tapeD d) d.pos).2 ≠ 0 then (d, [], (readV (tapeD d) d.pos).2)
  else (⟨d.shelf, d.inn, d.pos + 1⟩, (readV (tapeD d) d.pos).1, 0)

theorem tapeD_at {d : Dr} {j : Nat} {t : Tp} (hi : d.inn = (j : Int)) (hj : d.shelf[j]? = some t) : tapeD d = t := by
  rw [tapeD, hi, Int.toNat_natCast, List.getD_eq_getElem?_getD, hj]
  rfl
theorem mayD_iff {d : Dr} : mayD d = true ↔ d.shelf.length ≤ 12 ∧ -1 ≤ d.inn ∧ d.inn < (d.shelf.length : Int) ∧ 0 ≤ d.pos ∧ (∀ t ∈ d.shelf, mayT t = true) ∧ posB d = true := by
  simp only [mayD, Bool.and_eq_true, decide_eq_true_eq, List.all_eq_true, and_assoc]
theorem whyD_ok {d : Dr} (h : whyD d = 0) : mayD d = true ∧ 0 ≤ d.inn := by
  unfold whyD at h
  split at h
  · cases h
  · rename_i h1
    split at h
    · cases h
    · exact ⟨by simpa using h1, by omega⟩
theorem whyD_may {d : Dr} (h : mayD d = true) (h0 : 0 ≤ d.inn) : whyD d = 0 := by
  rw [whyD, h, if_neg (by simp), if_neg (by omega)]
/-- The tape that is mounted, and what holds of it. -/
theorem mounted {d : Dr} (h : mayD d = true) (h0 : 0 ≤ d.inn) : ∃ (j p : Nat) (t : Tp), d.inn = (j : Int) ∧ d.pos = (p : Int) ∧ d.shelf[j]? = some t ∧ tapeD d = t ∧ mayT t = true ∧ p ≤ t.rows.length ∧ j < d.shelf.length ∧ d.shelf.length ≤ 12 ∧ t.rows.length ≤ 200 := by
  obtain ⟨a1, a2, a3, a4, a5, a6⟩ := mayD_iff.1 h
  have hj : d.inn.toNat < d.shelf.length := by omega
  obtain ⟨t, ht⟩ : ∃ t, d.shelf[d.inn.toNat]? = some t := ⟨_, List.getElem?_eq_getElem hj⟩
  have e1 : d.inn = (d.inn.toNat : Int) := by omega
  have e2 := tapeD_at e1 ht
  have e3 := a5 t (List.mem_of_getElem? ht)
  rw [posB, if_neg (by omega), e2, decide_eq_true_eq] at a6
  obtain ⟨b1, b2, b3, -⟩ := mayT_iff.1 e3
  exact ⟨d.inn.toNat, d.pos.toNat, t, e1, by omega, ht, e2, e3, by omega, hj, a1, by omega⟩
/-- What is written, marked, stays a drive. -/
theorem with_may {d : Dr} {j : Nat} {t : Tp} {p : Nat} (h : mayD d = true) (hj : d.inn = (j : Int)) (hl : j < d.shelf.length) (ht : mayT t = true) (hp : p ≤ t.rows.length) : mayD (withD d t (p : Int)) = true := by
  obtain ⟨a1, a2, a3, a4, a5, a6⟩ := mayD_iff.1 h
  refine mayD_iff.2 ⟨by simpa [withD] using a1, a2, by simpa [withD] using a3, by simp [withD], ?_, ?_⟩
  · intro x hx
    rcases List.mem_or_eq_of_mem_set hx with h | h
    · exact a5 x h
    · rw [h]
      exact ht
  · have e : tapeD (withD d t (p : Int)) = t := by
      refine tapeD_at (j := j) hj ?_
      simp [withD, hj, hl]
    rw [posB, e, if_neg (by simp only [withD]; omega)]
    exact decide_eq_true (show ((p : Nat) : Int) ≤ _ by omega)
theorem writeD_err {d : Dr} {r : L} (h : (writeD d r).2 ≠ 0) : (writeD d r).1 = d := by
  unfold writeD at h ⊢
  split
  · rfl
  · rename_i h1
    rw [if_neg h1] at h
    split
    · rfl
    · rename_i h2
      rw [if_neg h2] at h
      exact absurd rfl h
/-- What is written. -/
theorem writeD_ok {d : Dr} {r : L} (h : (writeD d r).2 = 0) : ∃ (j p : Nat) (t : Tp), mayD d = true ∧ d.inn = (j : Int) ∧ d.pos = (p : Int) ∧ d.shelf[j]? = some t ∧ mayT t = true ∧ p ≤ t.rows.length ∧ j < d.shelf.length ∧ mayR r = true ∧ (p : Int) < t.cap ∧
    writeD d r = (⟨d.shelf.set j ⟨t.cap, t.rows.take p ++ [r], false⟩, (j : Int), (p : Int) + 1⟩, 0) ∧ mayD (writeD d r).1 = true := by
  have hw : whyD d = 0 := by
    unfold writeD at h
    split at h
    · exact h
    · rename_i h1
      simpa using h1
  obtain ⟨hm, h0⟩ := whyD_ok hw
  obtain ⟨j, p, t, e1, e2, e3, e4, e5, e6, e7, e8, e9⟩ := mounted hm h0
  have hc : cutT t (p : Int) = (⟨t.cap, t.rows.take p, false⟩, 0) := by
    rw [cutT_yes e5 (by omega) (by omega), Int.toNat_natCast]
  have hd : writeD d r = if (writeV ⟨t.cap, t.rows.take p, false⟩ r).2 ≠ 0 then (d, (writeV ⟨t.cap, t.rows.take p, false⟩ r).2) else (withD d (writeV ⟨t.cap, t.rows.take p, false⟩ r).1 (d.pos + 1), 0) := by
    rw [writeD, if_neg (by simpa using hw), e4, e2, hc]
  have hwr : (writeV ⟨t.cap, t.rows.take p, false⟩ r).2 = 0 := by
    rw [hd] at h
    split at h
    · exact h
    · rename_i h1
      simpa using h1
  obtain ⟨x1, x2, x3, x4⟩ := writeV_ok.1 hwr
  have hd2 : writeD d r = (⟨d.shelf.set j ⟨t.cap, t.rows.take p ++ [r], false⟩, (j : Int), (p : Int) + 1⟩, 0) := by
    rw [hd, if_neg (by simpa using hwr), writeV_yes x1 x2 x3 x4, withD, e1, Int.toNat_natCast, e2]
  refine ⟨j, p, t, hm, e1, e2, e3, e5, e6, e7, x2, by simpa [List.length_take, Nat.min_eq_left e6] using x4, hd2, ?_⟩
  have hm2 := writeV_may (r := r) x1
  rw [writeV_yes x1 x2 x3 x4] at hm2
  have h3 := with_may (p := p + 1) hm e1 e7 hm2 (by simp [List.length_take]; omega)
  rw [hd2]
  have e : withD d ⟨t.cap, t.rows.take p ++ [r], false⟩ ((p + 1 : Nat) : Int) = ⟨d.shelf.set j ⟨t.cap, t.rows.take p ++ [r], false⟩, (j : Int), (p : Int) + 1⟩ := by
    rw [withD, e1, Int.toNat_natCast]
    simp
  rw [← e]
  exact h3
/-- When it is written. -/
theorem writeD_when {d : Dr} {r : L} {j p : Nat} {t : Tp} (hm : mayD d = true) (e1 : d.inn = (j : Int)) (e2 : d.pos = (p : Int)) (e3 : d.shelf[j]? = some t) (hp : p ≤ t.rows.length) (hr : mayR r = true) : ((writeD d r).2 = 0 ↔ (p : Int) < t.cap) ∧ ((writeD d r).2 = 0 ∨ (writeD d r).2 = 8) := by
  have hw := whyD_may hm (by omega)
  obtain ⟨-, -, -, -, a5, -⟩ := mayD_iff.1 hm
  have e5 := a5 t (List.mem_of_getElem? e3)
  have hc : cutT t (p : Int) = (⟨t.cap, t.rows.take p, false⟩, 0) := by
    rw [cutT_yes e5 (by omega) (by omega), Int.toNat_natCast]
  have hd : writeD d r = if (writeV ⟨t.cap, t.rows.take p, false⟩ r).2 ≠ 0 then (d, (writeV ⟨t.cap, t.rows.take p, false⟩ r).2) else (withD d (writeV ⟨t.cap, t.rows.take p, false⟩ r).1 (d.pos + 1), 0) := by
    rw [writeD, if_neg (by simpa using hw), tapeD_at e1 e3, e2, hc]
  have ht := mayT_take e5 p false
  have hl : ((t.rows.take p).length : Int) = (p : Int) := by rw [List.length_take]; omega
  by_cases h : (p : Int) < t.cap
  · have hwr : (writeV ⟨t.cap, t.rows.take p, false⟩ r).2 = 0 := writeV_ok.2 ⟨ht, hr, rfl, by dsimp only; rw [hl]; exact h⟩
    rw [hd, if_neg (by simpa using hwr)]
    exact ⟨⟨fun _ => h, fun _ => rfl⟩, .inl rfl⟩
  · have hwr : writeV ⟨t.cap, t.rows.take p, false⟩ r = (⟨t.cap, t.rows.take p, false⟩, 8) := by
      rw [writeV, ht, hr, if_neg (by simp), if_pos]
      exact .inr (by dsimp only; rw [hl]; omega)
    rw [hd, hwr, if_pos (by simp)]
    exact ⟨⟨fun hh => (by cases hh), fun hh => absurd hh h⟩, .inr rfl⟩
theorem markD_ok {d : Dr} {j p : Nat} {t : Tp} (hm : mayD d = true) (e1 : d.inn = (j : Int)) (e2 : d.pos = (p : Int)) (e3 : d.shelf[j]? = some t) (hp : p ≤ t.rows.length) :
    markD d = (⟨d.shelf.set j ⟨t.cap, t.rows.take p, true⟩, (j : Int), (p : Int)⟩, 0) ∧ mayD ⟨d.shelf.set j ⟨t.cap, t.rows.take p, true⟩, (j : Int), (p : Int)⟩ = true := by
  have hw := whyD_may hm (by omega)
  obtain ⟨-, -, -, -, a5, -⟩ := mayD_iff.1 hm
  have e5 := a5 t (List.mem_of_getElem? e3)
  have hl := (List.getElem?_eq_some_iff.1 e3).1
  have hc : cutT t (p : Int) = (⟨t.cap, t.rows.take p, false⟩, 0) := by
    rw [cutT_yes e5 (by omega) (by omega), Int.toNat_natCast]
  have hcl := (marks (mayT_take e5 p false) rfl).1
  dsimp only at hcl
  have hd : markD d = (⟨d.shelf.set j ⟨t.cap, t.rows.take p, true⟩, (j : Int), (p : Int)⟩, 0) := by
    rw [markD, if_neg (by simpa using hw), tapeD_at e1 e3, e2, hc, hcl, withD, e1, Int.toNat_natCast]
  refine ⟨hd, ?_⟩
  have h3 := with_may (p := p) (t := ⟨t.cap, t.rows.take p, true⟩) hm e1 hl (mayT_take e5 p true) (by simp [List.length_take]; omega)
  rw [withD, e1, Int.toNat_natCast] at h3
  exact h3
end Go.Proofs.Ytaknnkcfoafkdaa.DriveM
