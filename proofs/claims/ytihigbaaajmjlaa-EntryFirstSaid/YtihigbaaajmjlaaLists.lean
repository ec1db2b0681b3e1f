/-
  Slices whose elements are slices of bytes, as lists of lists: plain lemmas over any program; no statement is proved here.
-/
import Derived.Test.YtihigbaaajmjlaaBase
import Derived.Deep.Matrix
import Derived.Test.YtihigbaaajmjlaaFrame
namespace Go.Proofs.Ytihigbaaajmjlaa.Base
open Go.RowKit

theorem RdA.length_le {w : World} {A : Option Addr} {cap : Nat} {xs : List Value} (h : RdA w A cap xs) : xs.length ≤ cap := by
  obtain ⟨A', cap', h1, h2, _⟩ := h
  simp only [Value.slice.injEq] at h1
  omega
theorem RdA.nil (w : World) : RdA w none 0 [] := Rd.nil _ _
theorem RdA.take {w : World} {A : Option Addr} {cap : Nat} {xs : List Value} (h : RdA w A cap xs) (k : Nat) : RdA w A cap (xs.take k) := by
  obtain ⟨A', cap', h1, h2, h3⟩ := h
  simp only [Value.slice.injEq, true_and] at h1
  obtain ⟨rfl, rfl⟩ := h1
  refine ⟨_, _, rfl, by rw [List.length_take]; omega, fun hn => ?_⟩
  obtain ⟨b, o, rfl, hb, hu⟩ := h3 (by rintro rfl; exact hn (by simp))
  refine ⟨b, o, rfl, hb, fun j u hj => hu j u ?_⟩
  rw [List.getElem?_take] at hj
  split at hj
  · exact hj
  · cases hj

theorem rd_of_row {w : World} {lo n : Nat} {e : TypeId} {v : Value} {xs : List Value} (h : w.ownsRow lo e 1 v n xs) : Rd w w.heap.size v xs := by
  obtain ⟨hl, ⟨rfl, rfl⟩ | ⟨g, cap, cur, rfl, hb, hg, hn, hcap, hs, ht⟩⟩ := h
  · obtain rfl : xs = [] := List.eq_nil_of_length_eq_zero (by simpa using hl)
    exact Rd.nil _ _
  · simp only [Nat.mul_one] at hl ht
    refine ⟨_, cap, by rw [hl], by omega, fun _ => ⟨g, 0, rfl, lt_of_block hg, fun j u hj => ?_⟩⟩
    rw [Nat.zero_add, cell_of_row w g j cur e _ hg]
    rw [← ht, List.getElem?_take] at hj
    split at hj
    · simpa using hj
    · cases hj

/-- The slice at A reads as slices that read as the texts ls. -/
def RdL (w : World) (A : Option Addr) (cap : Nat) (ls : List (List UInt8)) : Prop :=
  ∃ us : List Value, us.length = ls.length ∧ RdA w A cap us ∧ ∀ (j : Nat) (l : List UInt8), ls[j]? = some l → ∃ u, us[j]? = some u ∧ Rd w w.heap.size u (bs l)
section
variable {w w' : World} {A : Option Addr} {cap : Nat} {ls : List (List UInt8)}
theorem RdL.nil (w : World) : RdL w none 0 [] := ⟨[], rfl, RdA.nil w, by simp⟩
theorem RdL.keep (h : RdL w A cap ls) (hs : Stp w w') : RdL w' A cap ls := by
  obtain ⟨us, h1, h2, h3⟩ := h
  refine ⟨us, h1, h2.keep hs, fun j l hj => ?_⟩
  obtain ⟨u, hu, hr⟩ := h3 j l hj
  exact ⟨u, hu, (hr.keep hs).more hs.size⟩
theorem RdL.length_le (h : RdL w A cap ls) : ls.length ≤ cap := by
  obtain ⟨us, h1, h2, _⟩ := h
  rw [← h1]
  exact h2.length_le
/-- One element: its cell, and what it reads as. -/
theorem RdL.at_ (h : RdL w A cap ls) {j : Nat} {l : List UInt8} (hj : ls[j]? = some l) : ∃ b o A1 cap1, A = some ⟨b, o, none⟩ ∧ w.cell? ⟨b, o + j, none⟩ = some (.slice A1 l.length cap1) ∧ RdA w A1 cap1 (bs l) := by
  obtain ⟨us, h1, h2, h3⟩ := h
  obtain ⟨u, hu, hr⟩ := h3 j l hj
  obtain ⟨b, o, rfl, hc⟩ := h2.at_ (j := j) (List.getElem?_eq_some_iff.1 hu).1
  obtain ⟨A1, cap1, rfl, hA⟩ := RdA.of hr
  exact ⟨b, o, A1, cap1, rfl, by rw [← bs_length]; exact hc j _ hu, hA⟩
theorem RdL.rd (h : RdL w A cap ls) : ∃ us : List Value, us.length = ls.length ∧ RdA w A cap us ∧ ∀ (j : Nat) (l : List UInt8), ls[j]? = some l → ∃ u, us[j]? = some u ∧ Rd w w.heap.size u (bs l) := h
/-- A list that is longer by those of another one. -/
theorem RdL.of_append {A : Option Addr} {c : Nat} {ls ms : List (List UInt8)} {us vs : List Value} (hu : us.length = ls.length) (hv : vs.length = ms.length)
    (h1 : ∀ (j : Nat) (l : List UInt8), ls[j]? = some l → ∃ u, us[j]? = some u ∧ Rd w w.heap.size u (bs l)) (h2 : ∀ (j : Nat) (l : List UInt8), ms[j]? = some l → ∃ u, vs[j]? = some u ∧ Rd w w.heap.size u (bs l))
    (h : RdA w A c (us ++ vs)) : RdL w A c (ls ++ ms) := by
  refine ⟨us ++ vs, by simp [hu, hv], h, fun j l hj => ?_⟩
  by_cases hlt : j < ls.length
  · rw [List.getElem?_append_left hlt] at hj
    rw [List.getElem?_append_left (by omega)]
    exact h1 j l hj
  · rw [List.getElem?_append_right (by omega)] at hj
    rw [List.getElem?_append_right (by omega), hu]
    exact h2 _ l hj
end

/-- A slice of slices of bytes that came in. -/
theorem rdL_of_rows {w : World} {a : Option Addr} {len cap : Nat}
    (h : (a = none ∧ len = 0 ∧ cap = 0) ∨ ∃ (x : Addr) (A : Nat → Option Addr) (Ln C : Nat → Nat) (Z : Nat → List Int), a = some x ∧ len ≤ cap ∧ cap ≤ maxLen ∧
      ∀ r, r < cap → w.cell? (x.add r) = some (.slice (A r) (Ln r) (C r)) ∧ Ln r ≤ C r ∧ C r ≤ maxLen ∧ (Z r).length = C r ∧ (∀ n ∈ Z r, (Lit.int .u8 n).wf = true) ∧ (A r = none → C r = 0) ∧
        ∀ a', A r = some a' → ∀ c, c < C r → w.cell? (a'.add c) = some (.int .u8 ((Z r).getD c 0))) :
    ∃ ls : List (List UInt8), ls.length = len ∧ RdL w a cap ls ∧ (∀ l ∈ ls, l.length < 9223372036854775808) ∧ len < 9223372036854775808 := by
  rcases h with ⟨rfl, rfl, rfl⟩ | ⟨x, A, Ln, C, Z, rfl, hl, hm, hr⟩
  · exact ⟨[], rfl, RdL.nil w, by simp, by omega⟩
  · have each : ∀ r, r < len → ∃ l : List UInt8, Rd w w.heap.size (.slice (A r) (Ln r) (C r)) (bs l) ∧ l.length < 9223372036854775808 := by
      intro r hlt
      obtain ⟨_, h1, h2, h3, h4, h5, h6⟩ := hr r (by omega)
      refine Frame.rd_of_ints ?_
      cases hA : A r with
      | none =>
        have := h5 hA
        exact .inl ⟨rfl, by omega, this⟩
      | some a' => exact .inr ⟨a', Z r, rfl, h1, h2, h3, fun i hi => h6 a' hA i (by omega), h4⟩
    obtain ⟨f, hf⟩ := Deep.choose_lt each
    have hlt63 : len < 9223372036854775808 := by unfold maxLen at hm; omega
    refine ⟨(List.range len).map f, by simp, ?_, ?_, hlt63⟩
    · refine ⟨(List.range len).map fun r => .slice (A r) (Ln r) (C r), by simp, ?_, ?_⟩
      · refine ⟨_, cap, rfl, by simpa using hl, fun hn => ?_⟩
        have h0 : 0 < len := by
          rcases Nat.eq_zero_or_pos len with h0 | h0
          · subst h0; simp at hn
          · exact h0
        have hc := (hr 0 (by omega)).1
        obtain ⟨b, o, sp⟩ := x
        have hs : sp = none := by simpa [Addr.add] using World.cell?_spot hc
        subst hs
        refine ⟨b, o, rfl, ?_, fun j u hj => ?_⟩
        · have := World.block_lt_of_cell? w _ hc
          simpa [Addr.add] using this
        · have hjl : j < len := by have := (List.getElem?_eq_some_iff.1 hj).1; simpa using this
          rw [List.getElem?_map, List.getElem?_range hjl] at hj
          obtain rfl : Value.slice (A j) (Ln j) (C j) = u := by simpa using hj
          have := (hr j (by omega)).1
          rwa [Addr.add_lit] at this
      · intro j l hj
        have hjl : j < len := by have := (List.getElem?_eq_some_iff.1 hj).1; simpa using this
        rw [List.getElem?_map, List.getElem?_range hjl] at hj
        refine ⟨_, by rw [List.getElem?_map, List.getElem?_range hjl]; rfl, ?_⟩
        obtain rfl : f j = l := by simpa using hj
        exact (hf j hjl).1
    · intro l hl
      obtain ⟨r, hr', rfl⟩ := List.mem_map.1 hl
      exact (hf r (by simpa using hr')).2
end Go.Proofs.Ytihigbaaajmjlaa.Base
