/-
  Package stream's contracts in the form that the walks of volume's laws want: no statement is proved here.
  Rows of rows of blocks that came in, opened: no statement is proved here.
-/
import Derived.Test.YthjdejjejlhioaaGreatDoorVolI
import Derived.Test.YthjdejjejlhioaaGreatDoorStreamC
import Derived.Test.YthjdejjejlhioaaGreatDoorVolM
namespace Go.Proofs.YthjdejjejlhioaaGreatDoor.Vol
open Go.RowKit Go.Proofs.YthjdejjejlhioaaGreatDoor.Str Go.Proofs.YthjdejjejlhioaaGreatDoor.Base Go.Proofs.YthjdejjejlhioaaGreatDoor.Node Go.Proofs.YthjdejjejlhioaaGreatDoor.Stream Go.Proofs.YthjdejjejlhioaaGreatDoor.VolM
set_option linter.unusedVariables false
theorem all_i : AllI := fun t m hm hl hn l hl2 N hN b hb A c w ha => by
  subst hl2 hN hb
  exact Stream.all_s t m hm hl hn A c w ha
end Go.Proofs.YthjdejjejlhioaaGreatDoor.Vol

namespace Go.Proofs.YthjdejjejlhioaaGreatDoor.Vol
open Go.ChangeShapes Go.WideShapes Go.ChangeAt Go.RowKit Go.Proofs.YthjdejjejlhioaaGreatDoor.Base Go.Proofs.YthjdejjejlhioaaGreatDoor.Frame Go.Proofs.YthjdejjejlhioaaGreatDoor.VolM
theorem cells_blocks : Tryz.prog.cellsOf 33 = 1 := by kernel_rfl
set_option maxRecDepth 100000 in
/-- A row of rows that came in, opened. -/
theorem rows_open {H : Type} {enc : TypeId × Value → H} {w : World} {base : Nat} {held : Bool} {n : Nat} {c1 : Value} {y1 : DataW H × List MemPlace}
    (g1' : DataW.trod enc Tryz.prog w base (fun _ => true) held n 33 [c1] = some y1) : ∃ (A : Option Addr) (k : Nat) (ls : List (List UInt8)), c1 = .slice A ls.length k ∧ RdL w A k ls := by
  obtain ⟨A, len, k, rfl, ls, hl, hr, he, hn⟩ : ∃ (A : Option Addr) (len k : Nat), c1 = .slice A len k ∧ ∃ ls : List (List UInt8), ls.length = len ∧ RdL w A k ls ∧ (∀ l ∈ ls, l.length < 9223372036854775808) ∧ len < 9223372036854775808 := by
    rcases Deep.open_int_rows Tryz.underlying33 Tryz.underlying57 Tryz.underlying5 (by kernel_rfl) (by kernel_rfl) g1' with ⟨hcs, _⟩ | ⟨x, l, c, AA, LL, CC, ZZ, hcs, _, hl, hm, _, hr⟩
    · obtain rfl : c1 = _ := by simpa using hcs
      exact ⟨_, _, _, rfl, rdL_of_rows (.inl ⟨rfl, rfl, rfl⟩)⟩
    · obtain rfl : c1 = _ := by simpa using hcs
      exact ⟨_, _, _, rfl, rdL_of_rows (.inr ⟨x, AA, LL, CC, ZZ, rfl, hl, hm, fun r hlt => by obtain ⟨q1, q2, q3, q4, q5, q6, q7⟩ := hr r hlt; exact ⟨q1, q2, q3, q4, q5, q6, fun a' e => (q7 a' e).2⟩⟩)⟩
  subst hl
  exact ⟨A, k, ls, rfl, hr⟩
set_option maxRecDepth 100000 in
theorem open_vols {H : Type} {enc : TypeId × Value → H} {w : World} {base : Nat} {held : Bool} {fuel : Nat} {a : Option Addr} {len cap : Nat} {x : DataW H × List MemPlace}
    (hf : DataW.trod enc Tryz.prog w base (fun _ => true) held fuel 26 [.slice a len cap] = some x) : ∃ vs : List (List (List UInt8)), vs.length = len ∧ RdV w a cap vs ∧ len < 9223372036854775808 := by
  rcases Deep.open_slice Tryz.underlying26 hf with ⟨hcs, _⟩ | ⟨x, l, c, m, n, D, Pl, hcs, hb, hl, hm, hmm, _, hel⟩
  · simp at hcs
    obtain ⟨rfl, rfl, rfl⟩ := hcs
    exact ⟨[], rfl, ⟨[], rfl, RdA.nil w, by simp⟩, by omega⟩
  · simp at hcs
    obtain ⟨rfl, rfl, rfl⟩ := hcs
    simp only [if_true] at hmm
    subst hmm
    rw [cells_blocks] at hel
    have each : ∀ i, i < len → ∃ y : List (List UInt8) × Option Addr × Nat, w.cells? base (x.add (i * 1)) 1 = some [.slice y.2.1 y.1.length y.2.2] ∧ RdL w y.2.1 y.2.2 y.1 := by
      intro i hi
      obtain ⟨cs, h1, h2⟩ := hel i (by omega)
      obtain ⟨xs, hlen⟩ : ∃ c1, cs = [c1] := by
        have := (World.cells?_some h1).2.1
        cases cs with
        | nil => simp at this
        | cons c cs =>
          cases cs with
          | nil => exact ⟨c, rfl⟩
          | cons d ds => simp at this
      subst hlen
      obtain ⟨A, k, ls, rfl, hr⟩ := rows_open h2
      exact ⟨(ls, A, k), h1, hr⟩
    haveI : Inhabited (List (List UInt8) × Option Addr × Nat) := ⟨([], none, 0)⟩
    obtain ⟨f, hff⟩ := Deep.choose_lt each
    have hcell : ∀ i, i < len → w.cell? (x.add i) = some (.slice (f i).2.1 (f i).1.length (f i).2.2) := by
      intro i hi
      have h00 := (World.cells?_some (hff i hi).1).2.2 0 (by omega)
      have h01 : w.cell? ((x.add (i * 1)).add 0) = some (.slice (f i).2.1 (f i).1.length (f i).2.2) := h00
      simpa [Addr.add] using h01
    refine ⟨(List.range len).map fun i => (f i).1, by simp, ⟨(List.range len).map fun i => .slice (f i).2.1 (f i).1.length (f i).2.2, by simp, ⟨some x, m, by simp, by simpa using hl, fun hne => ?_⟩, fun j vs hj => ?_⟩, by unfold maxLen at hm; omega⟩
    · have hpos : 0 < len := by
        rcases Nat.eq_zero_or_pos len with h0 | h0
        · subst h0; simp at hne
        · exact h0
      have h0 := hcell 0 hpos
      obtain ⟨b, o, sp⟩ := x
      have hs : sp = none := by simpa [Addr.add] using World.cell?_spot h0
      subst hs
      refine ⟨b, o, rfl, by have := World.block_lt_of_cell? w _ h0; simpa [Addr.add] using this, fun j u hj => ?_⟩
      rw [List.getElem?_map] at hj
      have hjl : j < len := by
        by_cases h : j < len
        · exact h
        · rw [List.getElem?_eq_none (by simpa using Nat.le_of_not_lt h)] at hj
          cases hj
      rw [List.getElem?_range hjl] at hj
      simp only [Option.map_some, Option.some.injEq] at hj
      subst hj
      have := hcell j hjl
      rwa [Addr.add_lit] at this
    · rw [List.getElem?_map] at hj
      have hjl : j < len := by
        by_cases h : j < len
        · exact h
        · rw [List.getElem?_eq_none (by simpa using Nat.le_of_not_lt h)] at hj
          cases hj
      rw [List.getElem?_range hjl] at hj
      simp only [Option.map_some, Option.some.injEq] at hj
      subst hj
      refine ⟨(f j).2.1, (f j).2.2, ?_, (hff j hjl).2⟩
      rw [List.getElem?_map, List.getElem?_range hjl]
      rfl
end Go.Proofs.YthjdejjejlhioaaGreatDoor.Vol

