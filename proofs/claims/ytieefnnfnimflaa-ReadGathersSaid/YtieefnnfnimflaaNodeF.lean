/-
  A node that came in, opened: no statement is proved here.
-/
import Derived.Test.YtieefnnfnimflaaBase
import Derived.Test.YtieefnnfnimflaaNode
namespace Go.Proofs.Ytieefnnfnimflaa.Node
open Go.ChangeShapes Go.WideShapes Go.ChangeAt Go.RowKit Go.Proofs.Ytieefnnfnimflaa.Base Go.Proofs.Ytieefnnfnimflaa.Frame

theorem array8 {α : Type} {cs : Array α} (h : cs.size = 8) : ∃ c0 c1 c2 c3 c4 c5 c6 c7, cs = #[c0, c1, c2, c3, c4, c5, c6, c7] := by
  obtain ⟨l⟩ := cs
  match l, h with
  | [c0, c1, c2, c3, c4, c5, c6, c7], _ => exact ⟨c0, c1, c2, c3, c4, c5, c6, c7, rfl⟩
theorem list8 {α : Type} {cs : List α} (h : cs.length = 8) : ∃ c0 c1 c2 c3 c4 c5 c6 c7, cs = [c0, c1, c2, c3, c4, c5, c6, c7] := by
  match cs, h with
  | [c0, c1, c2, c3, c4, c5, c6, c7], _ => exact ⟨c0, c1, c2, c3, c4, c5, c6, c7, rfl⟩
theorem node_struct : Try.prog.underlying 23 = some (.struct (Try.prog.fieldsOf 23)) := by kernel_rfl
theorem node_cells : Try.prog.cellsOf 23 = 8 := by kernel_rfl
theorem node_count : (Try.prog.fieldsOf 23).size = 8 := by kernel_rfl
theorem str_cells : Try.prog.cellsOf 9 = 1 := by kernel_rfl
theorem int_cells : Try.prog.cellsOf 3 = 1 := by kernel_rfl
theorem byte_cells : Try.prog.cellsOf 5 = 1 := by kernel_rfl
theorem node_field_0 : (Try.prog.fieldsOf 23)[0]? = some { name := "Path", type := 9, offset := 0, embedded := false, tag := "", pkgPath := "", byteOffset := 0 } := by kernel_rfl
theorem node_field_1 : (Try.prog.fieldsOf 23)[1]? = some { name := "Link", type := 9, offset := 1, embedded := false, tag := "", pkgPath := "", byteOffset := 16 } := by kernel_rfl
theorem node_field_2 : (Try.prog.fieldsOf 23)[2]? = some { name := "Kind", type := 5, offset := 2, embedded := false, tag := "", pkgPath := "", byteOffset := 32 } := by kernel_rfl
theorem node_field_3 : (Try.prog.fieldsOf 23)[3]? = some { name := "Mode", type := 3, offset := 3, embedded := false, tag := "", pkgPath := "", byteOffset := 40 } := by kernel_rfl
theorem node_field_4 : (Try.prog.fieldsOf 23)[4]? = some { name := "Uid", type := 3, offset := 4, embedded := false, tag := "", pkgPath := "", byteOffset := 48 } := by kernel_rfl
theorem node_field_5 : (Try.prog.fieldsOf 23)[5]? = some { name := "Gid", type := 3, offset := 5, embedded := false, tag := "", pkgPath := "", byteOffset := 56 } := by kernel_rfl
theorem node_field_6 : (Try.prog.fieldsOf 23)[6]? = some { name := "Mtime", type := 3, offset := 6, embedded := false, tag := "", pkgPath := "", byteOffset := 64 } := by kernel_rfl
theorem node_field_7 : (Try.prog.fieldsOf 23)[7]? = some { name := "Data", type := 9, offset := 7, embedded := false, tag := "", pkgPath := "", byteOffset := 72 } := by kernel_rfl

set_option maxRecDepth 100000 in
theorem open_node {H : Type} {enc : TypeId × Value → H} {w : World} {base : Nat} {spare : Nat → Bool} {held : Bool} {r : Reach} {b0 : Nat} {v : Value} {d : DataW H} {p : List MemPlace}
    (hval : Value.okWide Try.prog w r b0 23 v) (h : DataW.Trod enc Try.prog w base spare held 23 v d p) : ∃ x : Nd, v = nv x ∧ SmallN x ∧ p = [] := by
  obtain ⟨cs, rfl, hsz⟩ := okWide_struct node_struct hval
  rw [node_cells] at hsz
  obtain ⟨c0, c1, c2, c3, c4, c5, c6, c7, rfl⟩ := array8 hsz
  obtain ⟨fuel, hf⟩ := h
  obtain ⟨xs, n, _, hx, _, hlen, hg⟩ := DataW.trod_struct node_struct hf
  rw [node_count] at hlen
  obtain ⟨y0, y1, y2, y3, y4, y5, y6, y7, rfl⟩ := list8 hlen
  have g0 := hg 0 _ node_field_0
  simp only [str_cells] at g0
  obtain ⟨s0, q0, rfl, b0⟩ := DataW.trod_string Try.underlying9 (by simpa [Value.cells] using g0)
  obtain rfl : c0 = _ := by simpa [Value.cells] using q0
  have g1 := hg 1 _ node_field_1
  simp only [str_cells] at g1
  obtain ⟨s1, q1, rfl, b1⟩ := DataW.trod_string Try.underlying9 (by simpa [Value.cells] using g1)
  obtain rfl : c1 = _ := by simpa [Value.cells] using q1
  have g2 := hg 2 _ node_field_2
  simp only [byte_cells] at g2
  obtain ⟨s2, q2, rfl, b2⟩ := DataW.trod_int Try.underlying5 (by simpa [Value.cells] using g2)
  obtain rfl : c2 = _ := by simpa [Value.cells] using q2
  have g3 := hg 3 _ node_field_3
  simp only [int_cells] at g3
  obtain ⟨s3, q3, rfl, b3⟩ := DataW.trod_int Try.underlying3 (by simpa [Value.cells] using g3)
  obtain rfl : c3 = _ := by simpa [Value.cells] using q3
  have g4 := hg 4 _ node_field_4
  simp only [int_cells] at g4
  obtain ⟨s4, q4, rfl, b4⟩ := DataW.trod_int Try.underlying3 (by simpa [Value.cells] using g4)
  obtain rfl : c4 = _ := by simpa [Value.cells] using q4
  have g5 := hg 5 _ node_field_5
  simp only [int_cells] at g5
  obtain ⟨s5, q5, rfl, b5⟩ := DataW.trod_int Try.underlying3 (by simpa [Value.cells] using g5)
  obtain rfl : c5 = _ := by simpa [Value.cells] using q5
  have g6 := hg 6 _ node_field_6
  simp only [int_cells] at g6
  obtain ⟨s6, q6, rfl, b6⟩ := DataW.trod_int Try.underlying3 (by simpa [Value.cells] using g6)
  obtain rfl : c6 = _ := by simpa [Value.cells] using q6
  have g7 := hg 7 _ node_field_7
  simp only [str_cells] at g7
  obtain ⟨s7, q7, rfl, b7⟩ := DataW.trod_string Try.underlying9 (by simpa [Value.cells] using g7)
  obtain rfl : c7 = _ := by simpa [Value.cells] using q7
  obtain ⟨l0, rfl, k0⟩ := Str.str_form s0 b0
  obtain ⟨l1, rfl, k1⟩ := Str.str_form s1 b1
  obtain ⟨l7, rfl, k7⟩ := Str.str_form s7 b7
  have m2 := bounds_u8 b2
  have e2 : ((UInt8.ofNat s2.toNat).toNat : Int) = s2 := by rw [UInt8.toNat_ofNat']; omega
  have m3 := bounds_i64 b3
  have m4 := bounds_i64 b4
  have m5 := bounds_i64 b5
  have m6 := bounds_i64 b6
  simp only [Prod.mk.injEq] at hx
  refine ⟨⟨l0, l1, UInt8.ofNat s2.toNat, s3, s4, s5, s6, l7⟩, ?_, ⟨k0, k1, ?_, ?_, ?_, ?_, k7⟩, ?_⟩
  · simp only [nv, ncells, e2]
  · show s3 < _
    omega
  · show s4 < _
    omega
  · show s5 < _
    omega
  · show s6 < _
    omega
  · rw [hx.2]; rfl
end Go.Proofs.Ytieefnnfnimflaa.Node
