/-
  Plain lemmas on paths as lists of bytes (parts, what may be, splitting, joining): no statement is proved here.
-/
import Derived.Lib.Hide
import Derived.Lib.Bytealg
namespace Go.Proofs.YtgjdbbhfgfodlaaGreat.PathM

abbrev L := List UInt8

/-- What stands between slashes. -/
def pcs : L → List L
  | [] => [[]]
  | c :: l => if c = 47 then [] :: pcs l else
    match pcs l with
    | [] => [[c]]
    | p :: ps => (c :: p) :: ps

theorem pcs_ne (l : L) : pcs l ≠ [] := by
  cases l with
  | nil => simp [pcs]
  | cons c l =>
    unfold pcs
    split
    · simp
    · split <;> simp

theorem pcs_slash (l : L) : pcs (47 :: l) = [] :: pcs l := by simp [pcs]
theorem pcs_cons {c : UInt8} (h : c ≠ 47) (l : L) : ∃ p ps, pcs l = p :: ps ∧ pcs (c :: l) = (c :: p) :: ps := by
  match e : pcs l with
  | [] => exact absurd e (pcs_ne l)
  | p :: ps => exact ⟨p, ps, rfl, by simp [pcs, h, e]⟩

/-- A text without a slash is one part. -/
theorem pcs_one {l : L} (h : (47 : UInt8) ∉ l) : pcs l = [l] := by
  induction l with
  | nil => rfl
  | cons c l ih =>
    simp only [List.mem_cons, not_or] at h
    obtain ⟨p, ps, h1, h2⟩ := pcs_cons (c := c) (fun e => h.1 e.symm) l
    rw [ih h.2] at h1
    obtain ⟨rfl, rfl⟩ := by simpa using h1
    exact h2

theorem pcs_append (a b : L) : pcs (a ++ 47 :: b) = pcs a ++ pcs b := by
  induction a with
  | nil => simp [pcs]
  | cons c a ih =>
    by_cases hc : c = 47
    · subst hc; rw [List.cons_append, pcs_slash, pcs_slash, ih]; rfl
    · obtain ⟨p, ps, h1, h2⟩ := pcs_cons hc a
      obtain ⟨p', ps', h3, h4⟩ := pcs_cons hc (a ++ 47 :: b)
      rw [ih, h1] at h3
      obtain ⟨rfl, rfl⟩ := by simpa using h3
      rw [List.cons_append, h4, h2]
      rfl

/-- How many parts there are: a path has no more than bytes, and one more. -/
theorem pcs_length_le (l : L) : (pcs l).length ≤ l.length + 1 := by
  induction l with
  | nil => simp [pcs]
  | cons c l ih =>
    by_cases hc : c = 47
    · subst hc; rw [pcs_slash]; simp; omega
    · obtain ⟨p, ps, h1, h2⟩ := pcs_cons hc l
      rw [h2]; rw [h1] at ih; simp at ih ⊢; omega
theorem pcs_pos (l : L) : 0 < (pcs l).length := List.length_pos_iff.2 (pcs_ne l)

/-! ### what may be -/

/-- A part that may be. -/
def okP (p : L) : Bool := !(p == []) && (!(p == [46]) && !(p == [46, 46]))

/-- A path that may be. -/
def mayB (l : L) : Bool := decide (1 ≤ l.length) && (decide (l.length ≤ 300) && (!(l.contains 0) && (pcs l).all okP))

theorem mayB_iff {l : L} : mayB l = true ↔ 1 ≤ l.length ∧ l.length ≤ 300 ∧ (0 : UInt8) ∉ l ∧ ∀ p ∈ pcs l, okP p = true := by
  simp [mayB]

theorem okP_ne {p : L} (h : okP p = true) : p ≠ [] := by
  rintro rfl
  simp [okP] at h

theorem mayB_append {a b : L} : mayB (a ++ 47 :: b) = (mayB a && (mayB b && decide (a.length + b.length < 300))) := by
  rw [Bool.eq_iff_iff]
  simp only [Bool.and_eq_true, decide_eq_true_eq, mayB_iff, pcs_append, List.mem_append, List.length_append, List.length_cons, List.mem_cons, not_or]
  constructor
  · rintro ⟨_, h2, ⟨h3, _, h4⟩, h5⟩
    have ha : a ≠ [] := by
      rintro rfl
      exact okP_ne (h5 [] (.inl (by simp [pcs]))) rfl
    have hb : b ≠ [] := by
      rintro rfl
      exact okP_ne (h5 [] (.inr (by simp [pcs]))) rfl
    have ha := List.length_pos_iff.2 ha
    have hb := List.length_pos_iff.2 hb
    exact ⟨⟨by omega, by omega, h3, fun p hp => h5 p (.inl hp)⟩, ⟨by omega, by omega, h4, fun p hp => h5 p (.inr hp)⟩, by omega⟩
  · rintro ⟨⟨h1, h2, h3, h4⟩, ⟨h5, h6, h7, h8⟩, h9⟩
    exact ⟨by omega, by omega, ⟨h3, by decide, h7⟩, fun p hp => hp.elim (h4 p) (h8 p)⟩

/-! ### the last slash -/

/-- What stands ahead of the last slash, and behind it, if there is one. -/
def lastCut : L → Option (L × L)
  | [] => none
  | c :: l => match lastCut l with
    | some (a, b) => some (c :: a, b)
    | none => if c = 47 then some ([], l) else none

/-- The parent's bytes. -/
def parV (l : L) : L := if mayB l = true then match lastCut l with | some (a, _) => a | none => [] else []
def parB (l : L) : Bool := mayB l && (lastCut l).isSome

/-! ### below -/

/-! ### the first slash, and the split -/

/-- The first slash from a place on. -/
def firstCut : L → Option (L × L)
  | [] => none
  | c :: l => if c = 47 then some ([], l) else match firstCut l with
    | some (a, b) => some (c :: a, b)
    | none => none

theorem firstCut_some {l a b : L} (h : firstCut l = some (a, b)) : l = a ++ 47 :: b ∧ (47 : UInt8) ∉ a := by
  induction l generalizing a b with
  | nil => simp [firstCut] at h
  | cons c l ih =>
    unfold firstCut at h
    split at h
    · rename_i hc
      simp only [Option.some.injEq, Prod.mk.injEq] at h
      obtain ⟨rfl, rfl⟩ := h
      subst hc
      exact ⟨rfl, by simp⟩
    · rename_i hc
      match e : firstCut l with
      | none => rw [e] at h; cases h
      | some (a', b') =>
        rw [e] at h
        simp only [Option.some.injEq, Prod.mk.injEq] at h
        obtain ⟨rfl, rfl⟩ := h
        obtain ⟨h1, h2⟩ := ih e
        refine ⟨by rw [h1]; rfl, ?_⟩
        simp only [List.mem_cons, not_or]
        exact ⟨fun e => hc e.symm, h2⟩

theorem firstCut_none {l : L} (h : firstCut l = none) : (47 : UInt8) ∉ l := by
  induction l with
  | nil => simp
  | cons c l ih =>
    unfold firstCut at h
    split at h
    · cases h
    · rename_i hc
      match e : firstCut l with
      | some _ => rw [e] at h; cases h
      | none =>
        simp only [List.mem_cons, not_or]
        exact ⟨fun e => hc e.symm, ih e⟩

/-- Its parts, where it is cut at the first slash. -/
theorem pcs_firstCut {l a b : L} (h : firstCut l = some (a, b)) : pcs l = a :: pcs b := by
  obtain ⟨h1, h2⟩ := firstCut_some h
  rw [h1, pcs_append, pcs_one h2]
  rfl
theorem firstCut_len {l a b : L} (h : firstCut l = some (a, b)) : l.length = a.length + 1 + b.length := by
  obtain ⟨h1, _⟩ := firstCut_some h
  rw [h1]
  simp
  omega

theorem indexByte_none {l : L} (h : firstCut l = none) : Lib.indexByte l 47 = -1 := by
  induction l with
  | nil => rfl
  | cons c l ih =>
    unfold firstCut at h
    split at h
    · cases h
    · rename_i hc
      match e : firstCut l with
      | some _ => rw [e] at h; cases h
      | none => unfold Lib.indexByte; rw [ih e]; simp [hc]

theorem indexByte_some {l a b : L} (h : firstCut l = some (a, b)) : Lib.indexByte l 47 = (a.length : Int) := by
  induction l generalizing a b with
  | nil => simp [firstCut] at h
  | cons c l ih =>
    unfold firstCut at h
    split at h
    · rename_i hc
      simp only [Option.some.injEq, Prod.mk.injEq] at h
      obtain ⟨rfl, rfl⟩ := h
      subst hc
      rfl
    · rename_i hc
      match e : firstCut l with
      | none => rw [e] at h; cases h
      | some (a', b') =>
        rw [e] at h
        simp only [Option.some.injEq, Prod.mk.injEq] at h
        obtain ⟨rfl, rfl⟩ := h
        have h := ih e
        unfold Lib.indexByte
        rw [h, if_neg (by simpa using hc), if_neg (by simp)]
        simp

theorem indexByte_neg {l : L} {c : UInt8} : Lib.indexByte l c = -1 ↔ c ∉ l := by
  induction l with
  | nil => simp [Lib.indexByte]
  | cons d l ih =>
    have hg := Lib.indexByte_ge l c
    unfold Lib.indexByte
    by_cases hd : d = c
    · subst hd; simp
    · have hd' : ¬ c = d := fun e => hd e.symm
      simp only [beq_iff_eq, hd, if_false, List.mem_cons, hd', false_or]
      rw [← ih]
      split
      · rename_i h; simp [h]
      · rename_i h; constructor <;> intro h' <;> omega

/-- What a path is split into, where it can be. -/
def splitO (l : L) : Option (L × L) :=
  if mayB l = true then
    if l.length ≤ 100 then some ([], l)
    else match firstCut (l.drop (l.length - 101)) with
      | some (a, b) => if l.length - 101 + a.length ≤ 155 then some (l.take (l.length - 101 + a.length), b) else none
      | none => none
  else none

def splV (l : L) : L × L := (splitO l).getD ([], [])
def splB (l : L) : Bool := (splitO l).isSome

def joinV (a b : L) : L := if a = [] then b else a ++ 47 :: b

theorem splitO_long {l a b : L} (h : splitO l = some (a, b)) (hl : ¬ l.length ≤ 100) : mayB l = true ∧ l = a ++ 47 :: b ∧ a.length ≤ 155 ∧ b.length ≤ 100 ∧ mayB a = true ∧ mayB b = true := by
  unfold splitO at h
  by_cases hm : mayB l = true
  · rw [if_pos hm, if_neg hl] at h
    split at h
    · rename_i a' b' e
      split at h
      · rename_i h155
        simp only [Option.some.injEq, Prod.mk.injEq] at h
        obtain ⟨rfl, rfl⟩ := h
        obtain ⟨h1, h2⟩ := firstCut_some e
        have hlen := firstCut_len e
        rw [List.length_drop] at hlen
        have e2 : l = l.take (l.length - 101 + a'.length) ++ 47 :: b' := by
          rw [List.take_add, h1, List.take_left, List.append_assoc, ← h1, List.take_append_drop]
        have hm' := hm
        rw [e2, mayB_append] at hm'
        simp only [Bool.and_eq_true, decide_eq_true_eq] at hm'
        refine ⟨hm, e2, by rw [List.length_take]; omega, by omega, hm'.1, hm'.2.1⟩
      · cases h
    · cases h
  · rw [if_neg hm] at h; cases h

theorem splitO_short {l a b : L} (h : splitO l = some (a, b)) (hl : l.length ≤ 100) : mayB l = true ∧ a = [] ∧ b = l := by
  unfold splitO at h
  by_cases hm : mayB l = true
  · rw [if_pos hm, if_pos hl] at h
    simp only [Option.some.injEq, Prod.mk.injEq] at h
    exact ⟨hm, h.1.symm, h.2.symm⟩
  · rw [if_neg hm] at h; cases h

/-- What a split answers. -/
theorem split_facts {p : L} (h : splB p = true) : mayB p = true ∧ joinV (splV p).1 (splV p).2 = p ∧ (splV p).1.length ≤ 155 ∧ (splV p).2.length ≤ 100 ∧ (splV p).2 ≠ [] ∧ (100 < p.length ∨ (splV p).1 = []) ∧ mayB (splV p).2 = true ∧ ((splV p).1 = [] ∨ mayB (splV p).1 = true) := by
  match e : splitO p with
  | none => unfold splB at h; rw [e] at h; cases h
  | some (a, b) =>
    have e1 : splV p = (a, b) := by unfold splV; rw [e]; rfl
    rw [e1]
    have hne : ∀ {q : L}, mayB q = true → q ≠ [] := by
      intro q hq hn
      rw [hn] at hq
      exact absurd hq (by decide)
    by_cases hl : p.length ≤ 100
    · obtain ⟨h1, rfl, rfl⟩ := splitO_short e hl
      exact ⟨h1, by simp [joinV], by simp, hl, hne h1, .inr rfl, h1, .inl rfl⟩
    · obtain ⟨h1, h2, h3, h4, h5, h6⟩ := splitO_long e hl
      refine ⟨h1, ?_, h3, h4, hne h6, .inl (by omega), h6, .inr h5⟩
      simp only [joinV]
      rw [if_neg (hne h5), ← h2]
theorem split_none_facts {p : L} (h : splB p = false) : splV p = ([], []) := by
  match e : splitO p with
  | none => unfold splV; rw [e]; rfl
  | some _ => unfold splB at h; rw [e] at h; cases h

theorem splitO_none {l : L} (h : splitO l = none) : mayB l = false ∨ 100 < l.length := by
  unfold splitO at h
  by_cases hm : mayB l = true
  · by_cases hl : l.length ≤ 100
    · rw [if_pos hm, if_pos hl] at h; cases h
    · exact .inr (by omega)
  · exact .inl (by simpa using hm)
theorem split_none_long {p : L} (h : splB p = false) : mayB p = false ∨ 100 < p.length := by
  match e : splitO p with
  | none => exact splitO_none e
  | some _ => unfold splB at h; rw [e] at h; cases h

/-! ### the parent -/
theorem okP_facts {x : L} (h : okP x = true) : (x == []) = false ∧ (x == [46]) = false ∧ (x == [46, 46]) = false := by
  simpa [okP] using h

end Go.Proofs.YtgjdbbhfgfodlaaGreat.PathM
