/-
  What a tape tells of its volume, as plain functions over tapes, blocks and a parser's states, and what follows: no Go, and no statement, is proved here.
-/
import Derived.Test.YtllnnlmhbmladaaGreatDoorTapeM
import Derived.Test.YtllnnlmhbmladaaGreatDoorStripM
namespace Go.Proofs.YtllnnlmhbmladaaGreatDoor.CheckM
open Go.Proofs.YtllnnlmhbmladaaGreatDoor.RecM Go.Proofs.YtllnnlmhbmladaaGreatDoor.TapeM Go.Proofs.YtllnnlmhbmladaaGreatDoor.LabelM Go.Proofs.YtllnnlmhbmladaaGreatDoor.ContM Go.Proofs.YtllnnlmhbmladaaGreatDoor.VolM Go.Proofs.YtllnnlmhbmladaaGreatDoor.StripM
open Go.Proofs.YtllnnlmhbmladaaGreatDoor.Parse (St)
set_option linter.unusedVariables false

def blocksT (t : Tp) : LL × Int := if mayT t = true then (blocksV t.rows, 0) else ([], 1)
def whoT (t : Tp) : List UInt8 × Int × Int :=
  if mayT t = true then (match blocksV t.rows with
    | [] => ([], 0, 7)
    | b :: _ => getL b) else ([], 0, 1)
def fitsT (s : St) (name : List UInt8) (n : Int) (t : Tp) : Int × Int := if mayT t = true then oneV s name n (blocksV t.rows) else (0, 1)
def isT (name : List UInt8) (n : Int) (t : Tp) : Bool := decide (whoT t = (name, n, 0))
def findG (name : List UInt8) (n : Int) : List Tp → Nat → List Int
  | [], _ => []
  | t :: ts, i => if isT name n t = true then (i : Int) :: findG name n ts (i + 1) else findG name n ts (i + 1)
def findT (ts : List Tp) (name : List UInt8) (n : Int) : List Int := findG name n ts 0
def nextG (s : St) (name : List UInt8) (n : Int) : List Tp → Nat → Int
  | [], _ => -1
  | t :: ts, i => if (fitsT s name n t).2 = 0 then (i : Int) else nextG s name n ts (i + 1)
def nextT (s : St) (name : List UInt8) (n : Int) (ts : List Tp) : Int := nextG s name n ts 0

/-! ### what fits has the label and the number -/
theorem one_has {s : St} {name : List UInt8} {n : Int} {v : LL} (h : (oneV s name n v).2 = 0) : ∃ b r, v = b :: r ∧ getL b = (name, n, 0) := by
  cases v with
  | nil =>
    exfalso
    unfold oneV at h
    split at h
    · cases h
    · split at h <;> cases h
  | cons b r =>
    refine ⟨b, r, rfl, ?_⟩
    rw [oneV_cons] at h
    split at h
    · cases h
    · split at h
      · cases h
      · split at h
        · cases h
        · rename_i h3
          exact Decidable.byContradiction h3
theorem fits_who {s : St} {name : List UInt8} {n : Int} {t : Tp} (h : (fitsT s name n t).2 = 0) : isT name n t = true := by
  unfold fitsT at h
  split at h
  · rename_i hm
    obtain ⟨b, r, e, hb⟩ := one_has h
    rw [isT, decide_eq_true_eq, whoT, if_pos hm, e]
    exact hb
  · cases h

/-! ### those that are found -/
theorem mem_findG {name : List UInt8} {n : Int} {x : Int} : ∀ (ts : List Tp) (i : Nat), x ∈ findG name n ts i ↔ ∃ q t, ts[q]? = some t ∧ x = ((i + q : Nat) : Int) ∧ isT name n t = true
  | [], i => by simp [findG]
  | t :: ts, i => by
    have ih := mem_findG (name := name) (n := n) (x := x) ts (i + 1)
    have hs : (∃ q t', (t :: ts)[q]? = some t' ∧ x = ((i + q : Nat) : Int) ∧ isT name n t' = true) ↔ (x = (i : Int) ∧ isT name n t = true) ∨ ∃ q t', ts[q]? = some t' ∧ x = ((i + 1 + q : Nat) : Int) ∧ isT name n t' = true := by
      constructor
      · rintro ⟨q, t', h1, h2, h3⟩
        cases q with
        | zero =>
          rw [List.getElem?_cons_zero] at h1
          cases h1
          exact .inl ⟨h2, h3⟩
        | succ q =>
          rw [List.getElem?_cons_succ] at h1
          exact .inr ⟨q, t', h1, by rw [h2]; congr 1; omega, h3⟩
      · rintro (⟨h2, h3⟩ | ⟨q, t', h1, h2, h3⟩)
        · exact ⟨0, t, rfl, h2, h3⟩
        · exact ⟨q + 1, t', by rw [List.getElem?_cons_succ]; exact h1, by rw [h2]; congr 1; omega, h3⟩
    rw [hs, ← ih, findG]
    split
    · rename_i h
      rw [List.mem_cons]
      simp [h]
    · rename_i h
      simp [h]
theorem mem_find {name : List UInt8} {n x : Int} {ts : List Tp} : x ∈ findT ts name n ↔ ∃ (q : Nat) (t : Tp), ts[q]? = some t ∧ x = (q : Int) ∧ isT name n t = true := by
  rw [findT, mem_findG]
  simp
theorem find_rises {name : List UInt8} {n : Int} : ∀ (ts : List Tp) (i : Nat), (findG name n ts i).Pairwise (· < ·)
  | [], i => List.Pairwise.nil
  | t :: ts, i => by
    rw [findG]
    split
    · refine List.pairwise_cons.2 ⟨fun x hx => ?_, find_rises ts (i + 1)⟩
      obtain ⟨q, t', -, e, -⟩ := (mem_findG ts (i + 1)).1 hx
      omega
    · exact find_rises ts (i + 1)
theorem find_count {name : List UInt8} {n : Int} : ∀ (ts : List Tp) (i : Nat), (findG name n ts i).length = ts.countP (isT name n)
  | [], i => rfl
  | t :: ts, i => by
    rw [findG, List.countP_cons]
    split
    · rename_i h
      rw [List.length_cons, find_count ts (i + 1)]
    · rename_i h
      rw [find_count ts (i + 1)]
      simp
theorem find_twice (ts : List Tp) (name : List UInt8) (n : Int) : (findT (ts ++ ts) name n).length = 2 * (findT ts name n).length := by
  rw [findT, findT, find_count, find_count, List.countP_append]
  omega
theorem find_len (ts : List Tp) (name : List UInt8) (n : Int) : (findT ts name n).length ≤ ts.length := by
  rw [findT, find_count]
  exact List.countP_le_length
theorem find_at {ts : List Tp} {name : List UInt8} {n : Int} {k : Nat} {x : Int} (h : (findT ts name n)[k]? = some x) : 0 ≤ x ∧ x < (ts.length : Int) := by
  obtain ⟨q, t, h1, h2, -⟩ := mem_find.1 (List.mem_of_getElem? h)
  have := (List.getElem?_eq_some_iff.1 h1).1
  omega
theorem find_up {ts : List Tp} {name : List UInt8} {n : Int} {k : Nat} {x y : Int} (hx : (findT ts name n)[k]? = some x) (hy : (findT ts name n)[k + 1]? = some y) : x < y := by
  obtain ⟨h1, e1⟩ := List.getElem?_eq_some_iff.1 hx
  obtain ⟨h2, e2⟩ := List.getElem?_eq_some_iff.1 hy
  have := List.pairwise_iff_getElem.1 (find_rises (name := name) (n := n) ts 0) k (k + 1) h1 h2 (by omega)
  rw [← e1, ← e2]
  exact this
theorem find_in {ts : List Tp} {name : List UInt8} {n : Int} {i : Nat} {t : Tp} (h : ts[i]? = some t) : (findT ts name n).contains (i : Int) = isT name n t := by
  rw [Bool.eq_iff_iff, List.contains_iff_mem, mem_find]
  constructor
  · rintro ⟨q, t', h1, h2, h3⟩
    obtain rfl : i = q := by omega
    rw [h] at h1
    cases h1
    exact h3
  · intro h3
    exact ⟨i, t, h, rfl, h3⟩

/-! ### the next one -/
theorem nextG_spec {s : St} {name : List UInt8} {n : Int} : ∀ (ts : List Tp) (i : Nat),
    (nextG s name n ts i = -1 ∧ ∀ (q : Nat) (t : Tp), ts[q]? = some t → (fitsT s name n t).2 ≠ 0) ∨ (∃ (q : Nat) (t : Tp), ts[q]? = some t ∧ nextG s name n ts i = ((i + q : Nat) : Int) ∧ (fitsT s name n t).2 = 0 ∧ ∀ (p : Nat) (t' : Tp), p < q → ts[p]? = some t' → (fitsT s name n t').2 ≠ 0)
  | [], i => .inl ⟨rfl, by simp⟩
  | t :: ts, i => by
    rw [nextG]
    split
    · rename_i h
      exact .inr ⟨0, t, rfl, rfl, h, fun p t' hp => absurd hp (by omega)⟩
    · rename_i h
      rcases nextG_spec (s := s) (name := name) (n := n) ts (i + 1) with ⟨h1, h2⟩ | ⟨q, t', h1, h2, h3, h4⟩
      · refine .inl ⟨h1, fun q t' hq => ?_⟩
        cases q with
        | zero =>
          rw [List.getElem?_cons_zero] at hq
          cases hq
          exact h
        | succ q =>
          rw [List.getElem?_cons_succ] at hq
          exact h2 q t' hq
      · refine .inr ⟨q + 1, t', by rw [List.getElem?_cons_succ]; exact h1, by rw [h2]; congr 1; omega, h3, fun p u hp hu => ?_⟩
        cases p with
        | zero =>
          rw [List.getElem?_cons_zero] at hu
          cases hu
          exact h
        | succ p =>
          rw [List.getElem?_cons_succ] at hu
          exact h4 p u (by omega) hu
theorem next_spec (s : St) (name : List UInt8) (n : Int) (ts : List Tp) :
    (nextT s name n ts = -1 ∧ ∀ (q : Nat) (t : Tp), ts[q]? = some t → (fitsT s name n t).2 ≠ 0) ∨ (∃ (q : Nat) (t : Tp), ts[q]? = some t ∧ nextT s name n ts = (q : Int) ∧ (fitsT s name n t).2 = 0 ∧ ∀ (p : Nat) (t' : Tp), p < q → ts[p]? = some t' → (fitsT s name n t').2 ≠ 0) := by
  rcases nextG_spec (s := s) (name := name) (n := n) ts 0 with h | ⟨q, t, h1, h2, h3⟩
  · exact .inl h
  · exact .inr ⟨q, t, h1, by rw [nextT, h2, Nat.zero_add], h3⟩
theorem next_range (s : St) (name : List UInt8) (n : Int) (ts : List Tp) : -1 ≤ nextT s name n ts ∧ nextT s name n ts < (ts.length : Int) := by
  rcases next_spec s name n ts with ⟨h, -⟩ | ⟨q, t, h1, h2, -⟩
  · omega
  · have := (List.getElem?_eq_some_iff.1 h1).1
    omega
/-- It is among those that are found. -/
theorem next_in (s : St) (name : List UInt8) (n : Int) (ts : List Tp) : (nextT s name n ts == -1 || (findT ts name n).contains (nextT s name n ts)) = true := by
  rcases next_spec s name n ts with ⟨h, -⟩ | ⟨q, t, h1, h2, h3, -⟩
  · rw [h]
    rfl
  · rw [h2, find_in h1, fits_who h3, Bool.or_true]
/-- What a tape's fitting says of the next one. -/
theorem next_at (s : St) (name : List UInt8) (n : Int) (ts : List Tp) {k : Nat} {t : Tp} (hk : ts[k]? = some t) :
    ((fitsT s name n t).2 = 0 → 0 ≤ nextT s name n ts ∧ nextT s name n ts ≤ (k : Int)) ∧ ((k : Int) = nextT s name n ts → (fitsT s name n t).2 = 0) := by
  rcases next_spec s name n ts with ⟨h, hn⟩ | ⟨q, u, h1, h2, h3, h4⟩
  · rw [h]
    exact ⟨fun h0 => absurd h0 (hn k t hk), fun e => by omega⟩
  · rw [h2]
    constructor
    · intro h0
      refine ⟨by omega, ?_⟩
      by_cases hlt : k < q
      · exact absurd h0 (h4 k t hlt hk)
      · omega
    · intro e
      obtain rfl : k = q := by omega
      rw [hk] at h1
      cases h1
      exact h3

/-! ### a tape without its last records -/
def cutR (t : Tp) (k : Nat) : Tp := ⟨t.cap, t.rows.take k, t.mark⟩
theorem cut_may {t : Tp} (h : mayT t = true) (k : Nat) : mayT (cutR t k) = true := by
  obtain ⟨h1, h2, h3, h4⟩ := mayT_iff.1 h
  refine mayT_iff.2 ⟨h1, h2, ?_, fun r hr => h4 r (List.mem_of_mem_take hr)⟩
  show ((t.rows.take k).length : Int) ≤ t.cap
  rw [List.length_take]
  omega
theorem blocks_of {t : Tp} (h : mayT t = true) : blocksV t.rows = t.rows.flatMap BlockM.cutV := by
  obtain ⟨-, -, -, h4⟩ := mayT_iff.1 h
  rw [blocksV, if_pos (blocksB_iff.2 h4)]
theorem flat_len : ∀ (rs : List (List UInt8)), (∀ r ∈ rs, mayR r = true) → 512 * (rs.flatMap BlockM.cutV).length = rs.flatten.length
  | [], _ => rfl
  | r :: rs, h => by
    have hr := mayR_iff.1 (h r (by simp))
    have h1 := BlockM.manyN_le r.length
    have h2 := BlockM.manyN_lt r.length
    rw [List.flatMap_cons, List.flatten_cons, List.length_append, List.length_append, BlockM.cutV_length, ← flat_len rs (fun x hx => h x (by simp [hx]))]
    omega
theorem blocks_few (t : Tp) (h : t.rows.flatten.length ≤ 400000) : (blocksV t.rows).length ≤ 1000 := by
  by_cases hb : blocksB t.rows = true
  · have := flat_len t.rows (blocksB_iff.1 hb)
    rw [blocksV_yes hb]
    omega
  · rw [blocksV_no (by simpa using hb)]
    simp
theorem blocks_512 (rs : List (List UInt8)) : ∀ b ∈ blocksV rs, b.length = 512 := by
  intro b hb
  unfold blocksV at hb
  split at hb
  · exact BlockM.mayV_iff.1 (flat_may rs) b hb
  · cases hb
theorem cut_blocks {t : Tp} (h : mayT t = true) (k : Nat) : ∃ r, blocksV t.rows = blocksV (cutR t k).rows ++ r := by
  rw [blocks_of h, blocks_of (cut_may h k)]
  refine ⟨(t.rows.drop k).flatMap BlockM.cutV, ?_⟩
  show t.rows.flatMap BlockM.cutV = (t.rows.take k).flatMap BlockM.cutV ++ (t.rows.drop k).flatMap BlockM.cutV
  rw [← List.flatMap_append, List.take_append_drop]
theorem cut_none {t : Tp} (h : mayT t = true) : blocksV (cutR t 0).rows = [] := by
  rw [blocks_of (cut_may h 0)]
  show (t.rows.take 0).flatMap BlockM.cutV = []
  rw [List.take_zero]
  rfl
theorem cut_some {t : Tp} (h : mayT t = true) {k : Nat} (hk : 0 < k) (hl : k ≤ t.rows.length) : whoT (cutR t k) = whoT t := by
  obtain ⟨r, hr⟩ := cut_blocks h k
  have hne : blocksV (cutR t k).rows ≠ [] := by
    rw [blocks_of (cut_may h k)]
    obtain ⟨-, -, -, h4⟩ := mayT_iff.1 h
    cases hrow : t.rows with
    | nil =>
      rw [hrow] at hl
      simp at hl
      omega
    | cons x xs =>
      have hx := mayR_iff.1 (h4 x (by rw [hrow]; simp))
      obtain ⟨j, rfl⟩ : ∃ j, k = j + 1 := ⟨k - 1, by omega⟩
      show (t.rows.take (j + 1)).flatMap BlockM.cutV ≠ []
      rw [hrow, List.take_succ_cons, List.flatMap_cons]
      intro e
      have e2 := (List.append_eq_nil_iff.1 e).1
      have h1 := BlockM.cutV_length x
      rw [e2, List.length_nil] at h1
      have h2 := BlockM.manyN_le x.length
      omega
  rw [whoT, whoT, if_pos h, if_pos (cut_may h k), hr]
  cases hb : blocksV (cutR t k).rows with
  | nil => exact absurd hb hne
  | cons b l => rfl
end Go.Proofs.YtllnnlmhbmladaaGreatDoor.CheckM
