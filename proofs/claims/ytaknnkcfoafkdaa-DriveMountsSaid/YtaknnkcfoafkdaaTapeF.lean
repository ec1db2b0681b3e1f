/-
  Tapes: a tape that came in, opened: no statement is proved here.
-/
import Derived.Test.YtaknnkcfoafkdaaBase
import Derived.Test.YtaknnkcfoafkdaaTapeM
import Derived.Deep.Matrix
namespace Go.Proofs.Ytaknnkcfoafkdaa.Tape
open Go.ChangeShapes Go.WideShapes Go.ChangeAt Go.RowKit Go.Proofs.Ytaknnkcfoafkdaa.Base Go.Proofs.Ytaknnkcfoafkdaa.Frame Go.Proofs.Ytaknnkcfoafkdaa.TapeM

theorem array3 {α : Type} {cs : Array α} (h : cs.size = 3) : ∃ c0 c1 c2, cs = #[c0, c1, c2] := by
  obtain ⟨l⟩ := cs
  match l, h with
  | [c0, c1, c2], _ => exact ⟨c0, c1, c2, rfl⟩
theorem list3 {α : Type} {cs : List α} (h : cs.length = 3) : ∃ c0 c1 c2, cs = [c0, c1, c2] := by
  match cs, h with
  | [c0, c1, c2], _ => exact ⟨c0, c1, c2, rfl⟩
theorem tape_struct : Try.prog.underlying 41 = some (.struct (Try.prog.fieldsOf 41)) := by kernel_rfl
theorem tape_cells : Try.prog.cellsOf 41 = 3 := by kernel_rfl
theorem tape_count : (Try.prog.fieldsOf 41).size = 3 := by kernel_rfl
theorem tape_field_0 : (Try.prog.fieldsOf 41)[0]? = some { name := "Cap", type := 3, offset := 0, embedded := false, tag := "", pkgPath := "", byteOffset := 0 } := by kernel_rfl
theorem tape_field_1 : (Try.prog.fieldsOf 41)[1]? = some { name := "R", type := 39, offset := 1, embedded := false, tag := "", pkgPath := "", byteOffset := 8 } := by kernel_rfl
theorem tape_field_2 : (Try.prog.fieldsOf 41)[2]? = some { name := "Mark", type := 4, offset := 2, embedded := false, tag := "", pkgPath := "", byteOffset := 32 } := by kernel_rfl
theorem cells_int : Try.prog.cellsOf 3 = 1 := by kernel_rfl
theorem cells_rows : Try.prog.cellsOf 39 = 1 := by kernel_rfl
theorem cells_bool : Try.prog.cellsOf 4 = 1 := by kernel_rfl

/-- A tape whose rows stand at A, with room for k. -/
abbrev tcells (t : Tp) (A : Option Addr) (k : Nat) : Array Value := #[.int .i64 t.cap, .slice A t.rows.length k, .bool t.mark]
abbrev tv (t : Tp) (A : Option Addr) (k : Nat) : Value := .agg (tcells t A k)
/-- Its number is one, and so are its rows' lengths. -/
structure SmallT (t : Tp) : Prop where
  low : -9223372036854775808 ≤ t.cap
  high : t.cap < 9223372036854775808
  few : t.rows.length < 9223372036854775808
  each : ∀ l ∈ t.rows, l.length < 9223372036854775808

set_option maxRecDepth 100000 in
theorem open_tape {H : Type} {enc : TypeId × Value → H} {w : World} {base : Nat} {held : Bool} {r : Reach} {b0 : Nat} {v : Value} {d : DataW H} {p : List MemPlace}
    (hval : Value.okWide Try.prog w r b0 41 v) (h : DataW.Trod enc Try.prog w base (fun _ => true) held 41 v d p) :
    ∃ (t : Tp) (A : Option Addr) (k : Nat), v = tv t A k ∧ RdL w A k t.rows ∧ SmallT t := by
  obtain ⟨cs, rfl, hsz⟩ := okWide_struct tape_struct hval
  rw [tape_cells] at hsz
  obtain ⟨c0, c1, c2, rfl⟩ := array3 hsz
  obtain ⟨fuel, hf⟩ := h
  obtain ⟨xs, n, _, hx, _, hlen, hg⟩ := DataW.trod_struct tape_struct hf
  rw [tape_count] at hlen
  obtain ⟨y0, y1, y2, rfl⟩ := list3 hlen
  have g0 := hg 0 _ tape_field_0
  simp only [cells_int] at g0
  obtain ⟨t0, q0, rfl, b0⟩ := DataW.trod_int Try.underlying3 (by simpa [Value.cells] using g0)
  obtain rfl : c0 = _ := by simpa [Value.cells] using q0
  have g2 := hg 2 _ tape_field_2
  simp only [cells_bool] at g2
  obtain ⟨t2, q2, rfl⟩ := DataW.trod_bool Try.underlying4 (by simpa [Value.cells] using g2)
  obtain rfl : c2 = _ := by simpa [Value.cells] using q2
  have g1 := hg 1 _ tape_field_1
  simp only [cells_rows] at g1
  have g1' : DataW.trod enc Try.prog w base (fun _ => true) held n 39 [c1] = some y1 := by simpa [Value.cells] using g1
  have m0 := bounds_i64 b0
  obtain ⟨A, len, k, rfl, ls, hl, hr, he, hn⟩ : ∃ (A : Option Addr) (len k : Nat), c1 = .slice A len k ∧ ∃ ls : List (List UInt8), ls.length = len ∧ RdL w A k ls ∧ (∀ l ∈ ls, l.length < 9223372036854775808) ∧ len < 9223372036854775808 := by
    rcases Deep.open_int_rows Try.underlying39 Try.underlying25 Try.underlying5 (by kernel_rfl) (by kernel_rfl) g1' with ⟨hcs, _⟩ | ⟨x, l, c, AA, LL, CC, ZZ, hcs, _, hl, hm, _, hr⟩
    · obtain rfl : c1 = _ := by simpa using hcs
      exact ⟨_, _, _, rfl, rdL_of_rows (.inl ⟨rfl, rfl, rfl⟩)⟩
    · obtain rfl : c1 = _ := by simpa using hcs
      exact ⟨_, _, _, rfl, rdL_of_rows (.inr ⟨x, AA, LL, CC, ZZ, rfl, hl, hm, fun r hlt => by obtain ⟨q1, q2, q3, q4, q5, q6, q7⟩ := hr r hlt; exact ⟨q1, q2, q3, q4, q5, q6, fun a' e => (q7 a' e).2⟩⟩)⟩
  subst hl
  exact ⟨⟨t0, ls, t2⟩, A, k, rfl, hr, ⟨m0.1, Int.lt_of_le_of_lt m0.2 (by omega), hn, he⟩⟩
end Go.Proofs.Ytaknnkcfoafkdaa.Tape
