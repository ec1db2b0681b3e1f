/-
  Rows of tapes, a drive that came in, opened: no statement is proved here.
-/
import Derived.Test.YtaknnkcfoafkdaaTapeI
import Derived.Test.YtaknnkcfoafkdaaDriveM
import Derived.Deep.Matrix
namespace Go.Proofs.Ytaknnkcfoafkdaa.Drive
open Go.ChangeShapes Go.WideShapes Go.ChangeAt Go.RowKit Go.Proofs.Ytaknnkcfoafkdaa.Base Go.Proofs.Ytaknnkcfoafkdaa.Frame Go.Proofs.Ytaknnkcfoafkdaa.BlockM Go.Proofs.Ytaknnkcfoafkdaa.TapeM Go.Proofs.Ytaknnkcfoafkdaa.Tape Go.Proofs.Ytaknnkcfoafkdaa.DriveM

/-- A slice of tapes. -/
def RdS (w : World) (A : Option Addr) (cap : Nat) (ts : List Tp) : Prop :=
  ts.length ≤ cap ∧ (ts ≠ [] → ∃ b o, A = some ⟨b, o, none⟩ ∧ b < w.heap.size ∧ ∀ (j : Nat) (t : Tp), ts[j]? = some t → ∃ Aj kj, w.cell? ⟨b, o + j * 3, none⟩ = some (.int .i64 t.cap) ∧
    w.cell? ⟨b, o + j * 3 + 1, none⟩ = some (.slice Aj t.rows.length kj) ∧ w.cell? ⟨b, o + j * 3 + 2, none⟩ = some (.bool t.mark) ∧ RdL w Aj kj t.rows)
section
variable {w w' : World} {A : Option Addr} {cap : Nat} {ts : List Tp}
theorem RdS.nil (w : World) : RdS w none 0 [] := ⟨by simp, fun h => absurd rfl h⟩
theorem RdS.empty (w : World) (A : Option Addr) (cap : Nat) : RdS w A cap [] := ⟨by simp, fun h => absurd rfl h⟩
theorem RdS.keep (h : RdS w A cap ts) (hs : Stp w w') : RdS w' A cap ts := by
  refine ⟨h.1, fun hn => ?_⟩
  obtain ⟨b, o, e, hb, hc⟩ := h.2 hn
  refine ⟨b, o, e, Nat.lt_of_lt_of_le hb hs.size, fun j t hj => ?_⟩
  obtain ⟨Aj, kj, h1, h2, h3, h4⟩ := hc j t hj
  exact ⟨Aj, kj, (hs.cell (p := ⟨b, o + j * 3, none⟩) hb).trans h1, (hs.cell (p := ⟨b, o + j * 3 + 1, none⟩) hb).trans h2, (hs.cell (p := ⟨b, o + j * 3 + 2, none⟩) hb).trans h3, h4.keep hs⟩
theorem RdS.at_ (h : RdS w A cap ts) {j : Nat} {t : Tp} (hj : ts[j]? = some t) : ∃ b o Aj kj, A = some ⟨b, o, none⟩ ∧ w.cell? ⟨b, o + j * 3, none⟩ = some (.int .i64 t.cap) ∧
    w.cell? ⟨b, o + j * 3 + 1, none⟩ = some (.slice Aj t.rows.length kj) ∧ w.cell? ⟨b, o + j * 3 + 2, none⟩ = some (.bool t.mark) ∧ RdL w Aj kj t.rows := by
  obtain ⟨b, o, e, -, hc⟩ := h.2 (by rintro rfl; simp at hj)
  obtain ⟨Aj, kj, h1, h2, h3, h4⟩ := hc j t hj
  exact ⟨b, o, Aj, kj, e, h1, h2, h3, h4⟩
end

theorem drive_struct : Try.prog.underlying 24 = some (.struct (Try.prog.fieldsOf 24)) := by kernel_rfl
theorem drive_cells : Try.prog.cellsOf 24 = 3 := by kernel_rfl
theorem drive_count : (Try.prog.fieldsOf 24).size = 3 := by kernel_rfl
theorem drive_field_0 : (Try.prog.fieldsOf 24)[0]? = some { name := "Shelf", type := 22, offset := 0, embedded := false, tag := "", pkgPath := "", byteOffset := 0 } := by kernel_rfl
theorem drive_field_1 : (Try.prog.fieldsOf 24)[1]? = some { name := "In", type := 3, offset := 1, embedded := false, tag := "", pkgPath := "", byteOffset := 24 } := by kernel_rfl
theorem drive_field_2 : (Try.prog.fieldsOf 24)[2]? = some { name := "Pos", type := 3, offset := 2, embedded := false, tag := "", pkgPath := "", byteOffset := 32 } := by kernel_rfl
theorem cells_shelf : Try.prog.cellsOf 22 = 1 := by kernel_rfl

set_option maxRecDepth 100000 in
/-- A row of rows that came in, opened. -/
theorem rows_open {H : Type} {enc : TypeId × Value → H} {w : World} {base : Nat} {held : Bool} {n : Nat} {c1 : Value} {y1 : DataW H × List MemPlace}
    (g1' : DataW.trod enc Try.prog w base (fun _ => true) held n 39 [c1] = some y1) : ∃ (A : Option Addr) (k : Nat) (ls : List L), c1 = .slice A ls.length k ∧ RdL w A k ls ∧ (∀ l ∈ ls, l.length < 9223372036854775808) ∧ ls.length < 9223372036854775808 := by
  obtain ⟨A, len, k, rfl, ls, hl, hr, he, hn⟩ : ∃ (A : Option Addr) (len k : Nat), c1 = .slice A len k ∧ ∃ ls : List (List UInt8), ls.length = len ∧ RdL w A k ls ∧ (∀ l ∈ ls, l.length < 9223372036854775808) ∧ len < 9223372036854775808 := by
    rcases Deep.open_int_rows Try.underlying39 Try.underlying25 Try.underlying5 (by kernel_rfl) (by kernel_rfl) g1' with ⟨hcs, _⟩ | ⟨x, l, c, AA, LL, CC, ZZ, hcs, _, hl, hm, _, hr⟩
    · obtain rfl : c1 = _ := by simpa using hcs
      exact ⟨_, _, _, rfl, rdL_of_rows (.inl ⟨rfl, rfl, rfl⟩)⟩
    · obtain rfl : c1 = _ := by simpa using hcs
      exact ⟨_, _, _, rfl, rdL_of_rows (.inr ⟨x, AA, LL, CC, ZZ, rfl, hl, hm, fun r hlt => by obtain ⟨q1, q2, q3, q4, q5, q6, q7⟩ := hr r hlt; exact ⟨q1, q2, q3, q4, q5, q6, fun a' e => (q7 a' e).2⟩⟩)⟩
  subst hl
  exact ⟨A, k, ls, rfl, hr, he, hn⟩
set_option maxRecDepth 100000 in
/-- A tape's cells, opened. -/
theorem tape_of_cells {H : Type} {enc : TypeId × Value → H} {w : World} {base : Nat} {held : Bool} {fuel : Nat} {cs : List Value} {x : DataW H × List MemPlace}
    (hf : DataW.trod enc Try.prog w base (fun _ => true) held fuel 41 cs = some x) : ∃ (t : Tp) (A : Option Addr) (k : Nat), cs = (tcells t A k).toList ∧ RdL w A k t.rows ∧ SmallT t := by
  obtain ⟨d, p⟩ := x
  obtain ⟨xs, n, _, hx, hsz, hlen, hg⟩ := DataW.trod_struct tape_struct hf
  rw [tape_cells] at hsz
  obtain ⟨c0, c1, c2, rfl⟩ := list3 hsz
  rw [tape_count] at hlen
  obtain ⟨y0, y1, y2, rfl⟩ := list3 hlen
  have g0 := hg 0 _ tape_field_0
  simp only [cells_int] at g0
  obtain ⟨t0, q0, rfl, b0⟩ := DataW.trod_int Try.underlying3 (by simpa using g0)
  obtain rfl : c0 = _ := by simpa using q0
  have g2 := hg 2 _ tape_field_2
  simp only [cells_bool] at g2
  obtain ⟨t2, q2, rfl⟩ := DataW.trod_bool Try.underlying4 (by simpa using g2)
  obtain rfl : c2 = _ := by simpa using q2
  have g1 := hg 1 _ tape_field_1
  simp only [cells_rows] at g1
  obtain ⟨A, k, ls, rfl, hr, he, hn⟩ := rows_open (c1 := c1) (by simpa using g1)
  have m0 := bounds_i64 b0
  exact ⟨⟨t0, ls, t2⟩, A, k, rfl, hr, ⟨m0.1, Int.lt_of_le_of_lt m0.2 (by omega), hn, he⟩⟩
theorem open_tapes {H : Type} {enc : TypeId × Value → H} {w : World} {base : Nat} {held : Bool} {fuel : Nat} {a : Option Addr} {len cap : Nat} {x : DataW H × List MemPlace}
    (hf : DataW.trod enc Try.prog w base (fun _ => true) held fuel 22 [.slice a len cap] = some x) : ∃ ts : List Tp, ts.length = len ∧ RdS w a cap ts ∧ (∀ t ∈ ts, SmallT t) ∧ len < 9223372036854775808 := by
  rcases Deep.open_slice Try.underlying22 hf with ⟨hcs, _⟩ | ⟨x, l, c, m, n, D, Pl, hcs, hb, hl, hm, hmm, _, hel⟩
  · simp at hcs
    obtain ⟨rfl, rfl, rfl⟩ := hcs
    exact ⟨[], rfl, RdS.nil w, by simp, by omega⟩
  · simp at hcs
    obtain ⟨rfl, rfl, rfl⟩ := hcs
    simp only [if_true] at hmm
    subst hmm
    rw [tape_cells] at hel
    have each : ∀ i, i < len → ∃ y : Tp × Option Addr × Nat, w.cells? base (x.add (i * 3)) 3 = some (tcells y.1 y.2.1 y.2.2).toList ∧ RdL w y.2.1 y.2.2 y.1.rows ∧ SmallT y.1 := by
      intro i hi
      obtain ⟨cs, h1, h2⟩ := hel i (by omega)
      obtain ⟨t, A, k, rfl, hr, hs⟩ := tape_of_cells h2
      exact ⟨(t, A, k), h1, hr, hs⟩
    haveI : Inhabited (Tp × Option Addr × Nat) := ⟨(⟨0, [], false⟩, none, 0)⟩
    obtain ⟨f, hff⟩ := Deep.choose_lt each
    refine ⟨(List.range len).map fun i => (f i).1, by simp, ⟨by simpa using hl, fun hne => ?_⟩, ?_, by unfold maxLen at hm; omega⟩
    · have hpos : 0 < len := by
        rcases Nat.eq_zero_or_pos len with h0 | h0
        · subst h0; simp at hne
        · exact h0
      have h00 := (World.cells?_some (hff 0 hpos).1).2.2 0 (by omega)
      obtain ⟨b, o, sp⟩ := x
      have hs : sp = none := by
        have h01 : w.cell? (((⟨b, o, sp⟩ : Addr).add (0 * 3)).add 0) = some (.int .i64 (f 0).1.cap) := h00
        simpa [Addr.add] using World.cell?_spot h01
      subst hs
      have h01 : w.cell? (((⟨b, o, none⟩ : Addr).add (0 * 3)).add 0) = some (.int .i64 (f 0).1.cap) := h00
      refine ⟨b, o, rfl, by have := World.block_lt_of_cell? w _ h01; simpa [Addr.add] using this, fun j t hj => ?_⟩
      rw [List.getElem?_map] at hj
      have hjl : j < len := by
        by_cases h : j < len
        · exact h
        · rw [List.getElem?_eq_none (by simpa using Nat.le_of_not_lt h)] at hj
          cases hj
      rw [List.getElem?_range hjl] at hj
      simp only [Option.map_some, Option.some.injEq] at hj
      subst hj
      have hc := (World.cells?_some (hff j hjl).1).2.2
      have c0 := hc 0 (by omega)
      have c1 := hc 1 (by omega)
      have c2 := hc 2 (by omega)
      simp only [Addr.add_lit, Nat.add_zero] at c0 c1 c2
      exact ⟨_, _, c0, c1, c2, (hff j hjl).2.1⟩
    · intro t ht
      obtain ⟨i, hi, rfl⟩ := List.mem_map.1 ht
      exact (hff i (by simpa using hi)).2.2

/-- A drive whose shelf stands at A, with room for k. -/
abbrev dcells (d : Dr) (A : Option Addr) (k : Nat) : Array Value := #[.slice A d.shelf.length k, .int .i64 d.inn, .int .i64 d.pos]
abbrev dv (d : Dr) (A : Option Addr) (k : Nat) : Value := .agg (dcells d A k)
structure SmallD (d : Dr) : Prop where
  ilow : -9223372036854775808 ≤ d.inn
  ihigh : d.inn < 9223372036854775808
  plow : -9223372036854775808 ≤ d.pos
  phigh : d.pos < 9223372036854775808
  few : d.shelf.length < 9223372036854775808
  each : ∀ t ∈ d.shelf, SmallT t

set_option maxRecDepth 100000 in
theorem open_drive {H : Type} {enc : TypeId × Value → H} {w : World} {base : Nat} {held : Bool} {r : Reach} {b0 : Nat} {v : Value} {d : DataW H} {p : List MemPlace}
    (hval : Value.okWide Try.prog w r b0 24 v) (h : DataW.Trod enc Try.prog w base (fun _ => true) held 24 v d p) :
    ∃ (d : Dr) (A : Option Addr) (k : Nat), v = dv d A k ∧ RdS w A k d.shelf ∧ SmallD d := by
  obtain ⟨cs, rfl, hsz⟩ := okWide_struct drive_struct hval
  rw [drive_cells] at hsz
  obtain ⟨c0, c1, c2, rfl⟩ := array3 hsz
  obtain ⟨fuel, hf⟩ := h
  obtain ⟨xs, n, _, hx, _, hlen, hg⟩ := DataW.trod_struct drive_struct hf
  rw [drive_count] at hlen
  obtain ⟨y0, y1, y2, rfl⟩ := list3 hlen
  have g1 := hg 1 _ drive_field_1
  simp only [cells_int] at g1
  obtain ⟨t1, q1, rfl, b1⟩ := DataW.trod_int Try.underlying3 (by simpa [Value.cells] using g1)
  obtain rfl : c1 = _ := by simpa [Value.cells] using q1
  have g2 := hg 2 _ drive_field_2
  simp only [cells_int] at g2
  obtain ⟨t2, q2, rfl, b2⟩ := DataW.trod_int Try.underlying3 (by simpa [Value.cells] using g2)
  obtain rfl : c2 = _ := by simpa [Value.cells] using q2
  have g0 := hg 0 _ drive_field_0
  simp only [cells_shelf] at g0
  have g0' : DataW.trod enc Try.prog w base (fun _ => true) held n 22 [c0] = some y0 := by simpa [Value.cells] using g0
  obtain ⟨A, len, cap, rfl⟩ : ∃ A len cap, c0 = .slice A len cap := by
    rcases Deep.open_slice Try.underlying22 g0' with ⟨hcs, _⟩ | ⟨x, l, c, m, n, D, Pl, hcs, _⟩
    · simp at hcs
      exact ⟨_, _, _, hcs⟩
    · simp at hcs
      exact ⟨_, _, _, hcs⟩
  obtain ⟨ts, rfl, hr, hs, hn⟩ := open_tapes g0'
  have m1 := bounds_i64 b1
  have m2 := bounds_i64 b2
  exact ⟨⟨ts, t1, t2⟩, A, cap, rfl, hr, ⟨m1.1, Int.lt_of_le_of_lt m1.2 (by omega), m2.1, Int.lt_of_le_of_lt m2.2 (by omega), hn, hs⟩⟩
end Go.Proofs.Ytaknnkcfoafkdaa.Drive
