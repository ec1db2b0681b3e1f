/-
  Tapes: plain functions over rows of bytes, and what follows of them: no Go, and no statement, is proved here.
-/
import Std
import Derived.Test.YtaknnkcfoafkdaaRecM
namespace Go.Proofs.Ytaknnkcfoafkdaa.TapeM
open Go.Proofs.Ytaknnkcfoafkdaa.BlockM Go.Proofs.Ytaknnkcfoafkdaa.RecM

@[ext] structure Tp where
  cap : Int
  rows : List L
  mark : Bool
deriving DecidableEq

def mayT (t : Tp) : Bool := decide (0 ≤ t.cap) && decide (t.cap ≤ 200) && decide ((t.rows.length : Int) ≤ t.cap) && blocksB t.rows
def newV (n : Int) : Tp × Bool := if 0 ≤ n ∧ n ≤ 200 then (⟨n, [], false⟩, true) else (⟨0, [], false⟩, false)
/-- No error is 0, a bad argument 1, the end 8, nothing there 9. -/
def writeV (t : Tp) (r : L) : Tp × Nat :=
  if (mayT t && mayR r) = false then (t, 1)
  else if t.mark = true ∨ t.cap ≤ (t.rows.length : Int) then (t, 8)
  else (⟨t.cap, t.rows ++ [r], false⟩, 0)
def fillG : Tp → List L → Tp × Nat × Nat
  | t, [] => (t, 0, 0)
  | t, r :: rs => if (writeV t r).2 = 0 then ((fillG (writeV t r).1 rs).1, (fillG (writeV t r).1 rs).2.1 + 1, (fillG (writeV t r).1 rs).2.2) else (t, 0, (writeV t r).2)
def fillV (t : Tp) (rs : List L) : Tp × Nat × Nat := if mayT t = true then fillG t rs else (t, 0, 1)
def readV (t : Tp) (i : Int) : L × Nat :=
  if mayT t = false then ([], 1) else if i < 0 then ([], 9) else if (t.rows.length : Int) ≤ i then ([], 8) else (t.rows.getD i.toNat [], 0)
def closeV (t : Tp) : Tp × Nat := if mayT t = false then (t, 1) else if t.mark = true then (t, 8) else (⟨t.cap, t.rows, true⟩, 0)
def cutT (t : Tp) (n : Int) : Tp × Nat :=
  if mayT t = false then (t, 1) else if n < 0 ∨ (t.rows.length : Int) < n then (t, 9) else (⟨t.cap, t.rows.take n.toNat, false⟩, 0)

theorem mayT_iff {t : Tp} : mayT t = true ↔ 0 ≤ t.cap ∧ t.cap ≤ 200 ∧ (t.rows.length : Int) ≤ t.cap ∧ ∀ r ∈ t.rows, mayR r = true := by
  simp only [mayT, Bool.and_eq_true, decide_eq_true_eq, blocksB_iff, and_assoc]

theorem writeV_ok {t : Tp} {r : L} : (writeV t r).2 = 0 ↔ mayT t = true ∧ mayR r = true ∧ t.mark = false ∧ (t.rows.length : Int) < t.cap := by
  unfold writeV
  cases h1 : mayT t <;> cases h2 : mayR r <;> cases h3 : t.mark <;> simp
  split <;> simp <;> omega
theorem writeV_yes {t : Tp} {r : L} (h : mayT t = true) (h2 : mayR r = true) (h3 : t.mark = false) (h4 : (t.rows.length : Int) < t.cap) : writeV t r = (⟨t.cap, t.rows ++ [r], false⟩, 0) := by
  unfold writeV
  rw [h, h2, h3, if_neg (by simp), if_neg (by simp; omega)]
theorem writeV_no {t : Tp} {r : L} (h : (writeV t r).2 ≠ 0) : (writeV t r).1 = t := by
  unfold writeV at h ⊢
  split
  · rfl
  · rename_i h1
    rw [if_neg h1] at h
    split
    · rfl
    · rename_i h2
      rw [if_neg h2] at h
      exact absurd rfl h
theorem writeV_errs {t : Tp} {r : L} : (writeV t r).2 = 0 ∨ (writeV t r).2 = 1 ∨ (writeV t r).2 = 8 := by
  unfold writeV
  split
  · exact .inr (.inl rfl)
  · split
    · exact .inr (.inr rfl)
    · exact .inl rfl
theorem writeV_end {t : Tp} {r : L} (h : (writeV t r).2 = 8) (h3 : t.mark = false) : mayT t = true ∧ (t.rows.length : Int) = t.cap := by
  unfold writeV at h
  split at h
  · cases h
  · rename_i h1
    split at h
    · rename_i h2
      simp only [Bool.and_eq_false_iff, not_or, Bool.not_eq_false] at h1
      refine ⟨h1.1, ?_⟩
      have := mayT_iff.1 h1.1
      rcases h2 with h2 | h2
      · rw [h3] at h2
        cases h2
      · omega
    · cases h
theorem writeV_may {t : Tp} {r : L} (h : mayT t = true) : mayT (writeV t r).1 = true := by
  by_cases h0 : (writeV t r).2 = 0
  · obtain ⟨-, h2, h3, h4⟩ := writeV_ok.1 h0
    rw [writeV_yes h h2 h3 h4, mayT_iff]
    obtain ⟨a, b, c, d⟩ := mayT_iff.1 h
    refine ⟨a, b, by simp; omega, ?_⟩
    intro x hx
    rcases List.mem_append.1 hx with hx | hx
    · exact d x hx
    · rw [List.mem_singleton.1 hx]
      exact h2
  · rw [writeV_no h0]
    exact h

/-- What a tape that is open is, filled. -/
theorem fillG_open (rs : List L) : ∀ t : Tp, mayT t = true → t.mark = false →
    (fillG t rs).1 = ⟨t.cap, t.rows ++ rs.take (fillG t rs).2.1, false⟩ ∧ (fillG t rs).2.1 ≤ rs.length ∧ ((fillG t rs).2.2 = 0 ↔ (fillG t rs).2.1 = rs.length) ∧
      ((fillG t rs).2.2 = 0 ∨ (fillG t rs).2.2 = 1 ∨ (fillG t rs).2.2 = 8) ∧ ((fillG t rs).2.2 = 8 → ((fillG t rs).1.rows.length : Int) = t.cap) ∧ mayT (fillG t rs).1 = true := by
  induction rs with
  | nil =>
    intro t h h3
    refine ⟨?_, by simp [fillG], by simp [fillG], by simp [fillG], by simp [fillG], by simpa [fillG] using h⟩
    ext1 <;> simp [fillG, h3]
  | cons r rs ih =>
    intro t h h3
    by_cases h0 : (writeV t r).2 = 0
    · obtain ⟨-, h2, -, h4⟩ := writeV_ok.1 h0
      have hy := writeV_yes h h2 h3 h4
      have hm := writeV_may (r := r) h
      rw [hy] at hm
      obtain ⟨a, b, c, d, e, f⟩ := ih ⟨t.cap, t.rows ++ [r], false⟩ hm rfl
      have hf : fillG t (r :: rs) = ((fillG ⟨t.cap, t.rows ++ [r], false⟩ rs).1, (fillG ⟨t.cap, t.rows ++ [r], false⟩ rs).2.1 + 1, (fillG ⟨t.cap, t.rows ++ [r], false⟩ rs).2.2) := by
        rw [fillG, if_pos h0, hy]
      rw [hf]
      refine ⟨?_, by simp only [List.length_cons]; omega, by simp only [List.length_cons]; omega, d, e, f⟩
      dsimp only
      rw [a]
      simp
    · have hf : fillG t (r :: rs) = (t, 0, (writeV t r).2) := by rw [fillG, if_neg h0]
      rw [hf]
      refine ⟨?_, by simp, ⟨fun hh => absurd hh h0, fun hh => by simp at hh⟩, writeV_errs, fun hh => (writeV_end hh h3).2, h⟩
      ext1 <;> simp [h3]
/-- One after another is both. -/
theorem fillG_app (a b : List L) : ∀ t : Tp, fillG t (a ++ b) =
    if (fillG t a).2.2 = 0 then ((fillG (fillG t a).1 b).1, (fillG t a).2.1 + (fillG (fillG t a).1 b).2.1, (fillG (fillG t a).1 b).2.2) else fillG t a := by
  induction a with
  | nil => intro t; simp [fillG]
  | cons r rs ih =>
    intro t
    by_cases h0 : (writeV t r).2 = 0
    · have e1 : ∀ l, fillG t (r :: l) = ((fillG (writeV t r).1 l).1, (fillG (writeV t r).1 l).2.1 + 1, (fillG (writeV t r).1 l).2.2) := fun l => by rw [fillG, if_pos h0]
      rw [List.cons_append, e1, e1, ih]
      dsimp only
      split
      · simp only [Prod.mk.injEq, true_and, and_true]
        omega
      · rfl
    · have e1 : ∀ l, fillG t (r :: l) = (t, 0, (writeV t r).2) := fun l => by rw [fillG, if_neg h0]
      rw [List.cons_append, e1, e1, if_neg h0]
theorem fillG_may (rs : List L) : ∀ t : Tp, mayT t = true → mayT (fillG t rs).1 = true := by
  induction rs with
  | nil => intro t h; exact h
  | cons r rs ih =>
    intro t h
    rw [fillG]
    split
    · exact ih _ (writeV_may h)
    · exact h
theorem fillV_parts (t : Tp) (a b : List L) : ((fillV t a).2.2 = 0 → fillV t (a ++ b) = ((fillV (fillV t a).1 b).1, (fillV t a).2.1 + (fillV (fillV t a).1 b).2.1, (fillV (fillV t a).1 b).2.2)) ∧
    ((fillV t a).2.2 ≠ 0 → fillV t (a ++ b) = fillV t a) := by
  cases hm : mayT t
  · simp [fillV, hm]
  · have h2 := fillG_may a t hm
    simp only [fillV, hm, h2, if_true, fillG_app]
    exact ⟨fun h => by rw [if_pos h], fun h => by rw [if_neg h]⟩
/-- A tape that was filled, cut where it was. -/
theorem fillV_back {t : Tp} (rs : List L) (h : mayT t = true) (h3 : t.mark = false) : cutT (fillV t rs).1 t.rows.length = (t, 0) := by
  rw [fillV, if_pos h]
  obtain ⟨a, -, -, -, -, f⟩ := fillG_open rs t h h3
  rw [a] at f ⊢
  rw [cutT, f, if_neg (by simp), if_neg (by simp; omega)]
  refine Prod.ext ?_ rfl
  ext1 <;> simp [h3]

theorem mayT_take {t : Tp} (h : mayT t = true) (n : Nat) (m : Bool) : mayT ⟨t.cap, t.rows.take n, m⟩ = true := by
  obtain ⟨a, b, c, d⟩ := mayT_iff.1 h
  refine mayT_iff.2 ⟨a, b, by simp [List.length_take]; omega, fun r hr => d r (List.mem_of_mem_take hr)⟩
theorem mayT_mark {t : Tp} (h : mayT t = true) (m : Bool) : mayT ⟨t.cap, t.rows, m⟩ = true := mayT_iff.2 (mayT_iff.1 h)
theorem cutT_yes {t : Tp} {n : Int} (h : mayT t = true) (h0 : 0 ≤ n) (h1 : n ≤ t.rows.length) : cutT t n = (⟨t.cap, t.rows.take n.toNat, false⟩, 0) := by
  rw [cutT, h, if_neg (by simp), if_neg (by omega)]
theorem cutT_no {t : Tp} {n : Int} (h : mayT t = true) (h0 : n < 0 ∨ (t.rows.length : Int) < n) : cutT t n = (t, 9) := by
  rw [cutT, h, if_neg (by simp), if_pos h0]
theorem cutT_cap (t : Tp) (n : Int) : (cutT t n).1.cap = t.cap := by
  unfold cutT
  repeat' split
  all_goals rfl
/-- Cut twice. -/
theorem cutT_twice {t : Tp} {n m : Int} (h : mayT t = true) (h0 : 0 ≤ n) (h1 : n ≤ t.rows.length) (hm : m ≤ n) :
    (cutT (cutT t n).1 m).2 = (cutT t m).2 ∧ ((cutT t m).2 = 0 → (cutT (cutT t n).1 m).1 = (cutT t m).1 ∧ (((cutT t m).1.rows.length : Nat) : Int) = m ∧ mayT (cutT t m).1 = true) := by
  have h2 := mayT_take h n.toNat false
  rw [cutT_yes h h0 h1]
  by_cases hm0 : 0 ≤ m
  · rw [cutT_yes h2 hm0 (by simp [List.length_take]; omega), cutT_yes h hm0 (by omega)]
    refine ⟨rfl, fun _ => ⟨?_, by simp [List.length_take]; omega, mayT_take h _ _⟩⟩
    ext1
    · rfl
    · simp only [List.take_take]
      rw [Nat.min_eq_left (by omega)]
    · rfl
  · rw [cutT_no h2 (.inl (by omega)), cutT_no h (.inl (by omega))]
    exact ⟨rfl, fun hh => by cases hh⟩
theorem readV_no {t : Tp} {i : Int} (h : mayT t = true) (h0 : i < 0) : readV t i = ([], 9) := by
  rw [readV, h, if_neg (by simp), if_pos h0]
theorem readV_end {t : Tp} {i : Int} (h : mayT t = true) (h0 : 0 ≤ i) (h1 : (t.rows.length : Int) ≤ i) : readV t i = ([], 8) := by
  rw [readV, h, if_neg (by simp), if_neg (by omega), if_pos h1]
theorem readV_yes {t : Tp} {i : Int} (h : mayT t = true) (h0 : 0 ≤ i) (h1 : i < (t.rows.length : Int)) : readV t i = (t.rows.getD i.toNat [], 0) := by
  rw [readV, h, if_neg (by simp), if_neg (by omega), if_neg (by omega)]
/-- What was written is read, and the rest as it was. -/
theorem read_written {t : Tp} {r : L} (h : (writeV t r).2 = 0) : readV (writeV t r).1 t.rows.length = (r, 0) ∧
    ∀ i : Int, i ≠ t.rows.length → readV (writeV t r).1 i = readV t i := by
  obtain ⟨h1, h2, h3, h4⟩ := writeV_ok.1 h
  have hm := writeV_may (r := r) h1
  rw [writeV_yes h1 h2 h3 h4] at hm ⊢
  constructor
  · rw [readV_yes hm (by omega) (by simp; omega)]
    simp
  · intro i hi
    by_cases h0 : i < 0
    · rw [readV_no hm h0, readV_no h1 h0]
    · by_cases hl : (t.rows.length : Int) ≤ i
      · rw [readV_end hm (by omega) (by simp; omega), readV_end h1 (by omega) hl]
      · rw [readV_yes hm (by omega) (by simp; omega), readV_yes h1 (by omega) (by omega)]
        refine Prod.ext ?_ rfl
        simp only [List.getD_eq_getElem?_getD]
        rw [List.getElem?_append_left (by omega)]
/-- What is closed takes nothing; cut, it takes as many as there is room for. -/
theorem marks {t : Tp} (h : mayT t = true) (h3 : t.mark = false) : closeV t = (⟨t.cap, t.rows, true⟩, 0) ∧ (∀ r, mayR r = true → writeV ⟨t.cap, t.rows, true⟩ r = (⟨t.cap, t.rows, true⟩, 8)) ∧
    closeV ⟨t.cap, t.rows, true⟩ = (⟨t.cap, t.rows, true⟩, 8) ∧
    (∀ n : Int, 0 ≤ n → n ≤ (t.rows.length : Int) → cutT ⟨t.cap, t.rows, true⟩ n = (⟨t.cap, t.rows.take n.toNat, false⟩, 0) ∧
      ∀ r, mayR r = true → ((writeV ⟨t.cap, t.rows.take n.toNat, false⟩ r).2 = 0 ↔ n < t.cap)) ∧
    (∀ n : Int, n < 0 ∨ (t.rows.length : Int) < n → cutT ⟨t.cap, t.rows, true⟩ n = (⟨t.cap, t.rows, true⟩, 9)) := by
  have hm := mayT_mark h true
  refine ⟨?_, ?_, ?_, ?_, fun n hn => cutT_no hm hn⟩
  · rw [closeV, h, if_neg (by simp), h3, if_neg (by simp)]
  · intro r hr
    rw [writeV, hm, hr, if_neg (by simp), if_pos (.inl rfl)]
  · rw [closeV, hm, if_neg (by simp), if_pos rfl]
  · intro n h0 h1
    refine ⟨cutT_yes hm h0 h1, fun r hr => ?_⟩
    rw [writeV_ok]
    have hl : (((t.rows.take n.toNat).length : Nat) : Int) = n := by simp [List.length_take]; omega
    exact ⟨fun ⟨_, _, _, hh⟩ => by rw [hl] at hh; exact hh, fun hh => ⟨mayT_take h _ _, hr, rfl, by rw [hl]; exact hh⟩⟩
end Go.Proofs.Ytaknnkcfoafkdaa.TapeM
