/-
  A parser's state that came in, opened: no statement is proved here.
-/
import Derived.Test.YtllnnlmhbmladaaGreatDoorNodes
import Derived.Test.YtllnnlmhbmladaaGreatDoorEvs
namespace Go.Proofs.YtllnnlmhbmladaaGreatDoor.Parse
open Go.ChangeShapes Go.WideShapes Go.ChangeAt Go.RowKit Go.Proofs.YtllnnlmhbmladaaGreatDoor.Base Go.Proofs.YtllnnlmhbmladaaGreatDoor.Frame Go.Proofs.YtllnnlmhbmladaaGreatDoor.Node

theorem array14 {α : Type} {cs : Array α} (h : cs.size = 14) : ∃ c0 c1 c2 c3 c4 c5 c6 c7 c8 c9 c10 c11 c12 c13, cs = #[c0, c1, c2, c3, c4, c5, c6, c7, c8, c9, c10, c11, c12, c13] := by
  obtain ⟨l⟩ := cs
  match l, h with
  | [c0, c1, c2, c3, c4, c5, c6, c7, c8, c9, c10, c11, c12, c13], _ => exact ⟨c0, c1, c2, c3, c4, c5, c6, c7, c8, c9, c10, c11, c12, c13, rfl⟩
theorem list7 {α : Type} {cs : List α} (h : cs.length = 7) : ∃ c0 c1 c2 c3 c4 c5 c6, cs = [c0, c1, c2, c3, c4, c5, c6] := by
  match cs, h with
  | [c0, c1, c2, c3, c4, c5, c6], _ => exact ⟨c0, c1, c2, c3, c4, c5, c6, rfl⟩
theorem state_struct : Tryz.prog.underlying 25 = some (.struct (Tryz.prog.fieldsOf 25)) := by kernel_rfl
theorem state_cells : Tryz.prog.cellsOf 25 = 14 := by kernel_rfl
theorem state_count : (Tryz.prog.fieldsOf 25).size = 7 := by kernel_rfl
theorem state_field_0 : (Tryz.prog.fieldsOf 25)[0]? = some { name := "Phase", type := 3, offset := 0, embedded := false, tag := "", pkgPath := "", byteOffset := 0 } := by kernel_rfl
theorem state_field_1 : (Tryz.prog.fieldsOf 25)[1]? = some { name := "Node", type := 23, offset := 1, embedded := false, tag := "", pkgPath := "", byteOffset := 8 } := by kernel_rfl
theorem state_field_2 : (Tryz.prog.fieldsOf 25)[2]? = some { name := "Size", type := 3, offset := 9, embedded := false, tag := "", pkgPath := "", byteOffset := 96 } := by kernel_rfl
theorem state_field_3 : (Tryz.prog.fieldsOf 25)[3]? = some { name := "Left", type := 3, offset := 10, embedded := false, tag := "", pkgPath := "", byteOffset := 104 } := by kernel_rfl
theorem state_field_4 : (Tryz.prog.fieldsOf 25)[4]? = some { name := "Text", type := 9, offset := 11, embedded := false, tag := "", pkgPath := "", byteOffset := 112 } := by kernel_rfl
theorem state_field_5 : (Tryz.prog.fieldsOf 25)[5]? = some { name := "Name", type := 9, offset := 12, embedded := false, tag := "", pkgPath := "", byteOffset := 128 } := by kernel_rfl
theorem state_field_6 : (Tryz.prog.fieldsOf 25)[6]? = some { name := "Link", type := 9, offset := 13, embedded := false, tag := "", pkgPath := "", byteOffset := 144 } := by kernel_rfl

set_option maxRecDepth 100000 in
set_option maxHeartbeats 1000000 in
theorem open_state {H : Type} {enc : TypeId × Value → H} {w : World} {base : Nat} {spare : Nat → Bool} {held : Bool} {r : Reach} {b0 : Nat} {v : Value} {d : DataW H} {p : List MemPlace}
    (hval : Value.okWide Tryz.prog w r b0 25 v) (h : DataW.Trod enc Tryz.prog w base spare held 25 v d p) : ∃ x : St, v = sv x ∧ SmallS x ∧ p = [] := by
  obtain ⟨cs, rfl, hsz⟩ := okWide_struct state_struct hval
  rw [state_cells] at hsz
  obtain ⟨c0, c1, c2, c3, c4, c5, c6, c7, c8, c9, c10, c11, c12, c13, rfl⟩ := array14 hsz
  obtain ⟨fuel, hf⟩ := h
  obtain ⟨xs, n, _, hx, _, hlen, hg⟩ := DataW.trod_struct state_struct hf
  rw [state_count] at hlen
  obtain ⟨y0, y1, y2, y3, y4, y5, y6, rfl⟩ := list7 hlen
  have g0 := hg 0 _ state_field_0
  simp only [int_cells] at g0
  obtain ⟨t0, q0, rfl, b0⟩ := DataW.trod_int Tryz.underlying3 (by simpa [Value.cells] using g0)
  obtain rfl : c0 = _ := by simpa [Value.cells] using q0
  have g1 := hg 1 _ state_field_1
  simp only [node_cells] at g1
  obtain ⟨xs2, n2, _, hx2, _, hlen2, hg2⟩ := DataW.trod_struct node_struct (by simpa [Value.cells] using g1)
  rw [node_count] at hlen2
  obtain ⟨z0, z1, z2, z3, z4, z5, z6, z7, rfl⟩ := list8 hlen2
  have k0 := hg2 0 _ node_field_0
  simp only [str_cells] at k0
  obtain ⟨t1, q1, rfl, b1⟩ := DataW.trod_string Tryz.underlying9 (by simpa [Value.cells] using k0)
  obtain rfl : c1 = _ := by simpa [Value.cells] using q1
  have k1 := hg2 1 _ node_field_1
  simp only [str_cells] at k1
  obtain ⟨t2, q2, rfl, b2⟩ := DataW.trod_string Tryz.underlying9 (by simpa [Value.cells] using k1)
  obtain rfl : c2 = _ := by simpa [Value.cells] using q2
  have k2 := hg2 2 _ node_field_2
  simp only [byte_cells] at k2
  obtain ⟨t3, q3, rfl, b3⟩ := DataW.trod_int Tryz.underlying5 (by simpa [Value.cells] using k2)
  obtain rfl : c3 = _ := by simpa [Value.cells] using q3
  have k3 := hg2 3 _ node_field_3
  simp only [int_cells] at k3
  obtain ⟨t4, q4, rfl, b4⟩ := DataW.trod_int Tryz.underlying3 (by simpa [Value.cells] using k3)
  obtain rfl : c4 = _ := by simpa [Value.cells] using q4
  have k4 := hg2 4 _ node_field_4
  simp only [int_cells] at k4
  obtain ⟨t5, q5, rfl, b5⟩ := DataW.trod_int Tryz.underlying3 (by simpa [Value.cells] using k4)
  obtain rfl : c5 = _ := by simpa [Value.cells] using q5
  have k5 := hg2 5 _ node_field_5
  simp only [int_cells] at k5
  obtain ⟨t6, q6, rfl, b6⟩ := DataW.trod_int Tryz.underlying3 (by simpa [Value.cells] using k5)
  obtain rfl : c6 = _ := by simpa [Value.cells] using q6
  have k6 := hg2 6 _ node_field_6
  simp only [int_cells] at k6
  obtain ⟨t7, q7, rfl, b7⟩ := DataW.trod_int Tryz.underlying3 (by simpa [Value.cells] using k6)
  obtain rfl : c7 = _ := by simpa [Value.cells] using q7
  have k7 := hg2 7 _ node_field_7
  simp only [str_cells] at k7
  obtain ⟨t8, q8, rfl, b8⟩ := DataW.trod_string Tryz.underlying9 (by simpa [Value.cells] using k7)
  obtain rfl : c8 = _ := by simpa [Value.cells] using q8
  have g2 := hg 2 _ state_field_2
  simp only [int_cells] at g2
  obtain ⟨t9, q9, rfl, b9⟩ := DataW.trod_int Tryz.underlying3 (by simpa [Value.cells] using g2)
  obtain rfl : c9 = _ := by simpa [Value.cells] using q9
  have g3 := hg 3 _ state_field_3
  simp only [int_cells] at g3
  obtain ⟨t10, q10, rfl, b10⟩ := DataW.trod_int Tryz.underlying3 (by simpa [Value.cells] using g3)
  obtain rfl : c10 = _ := by simpa [Value.cells] using q10
  have g4 := hg 4 _ state_field_4
  simp only [str_cells] at g4
  obtain ⟨t11, q11, rfl, b11⟩ := DataW.trod_string Tryz.underlying9 (by simpa [Value.cells] using g4)
  obtain rfl : c11 = _ := by simpa [Value.cells] using q11
  have g5 := hg 5 _ state_field_5
  simp only [str_cells] at g5
  obtain ⟨t12, q12, rfl, b12⟩ := DataW.trod_string Tryz.underlying9 (by simpa [Value.cells] using g5)
  obtain rfl : c12 = _ := by simpa [Value.cells] using q12
  have g6 := hg 6 _ state_field_6
  simp only [str_cells] at g6
  obtain ⟨t13, q13, rfl, b13⟩ := DataW.trod_string Tryz.underlying9 (by simpa [Value.cells] using g6)
  obtain rfl : c13 = _ := by simpa [Value.cells] using q13
  have m0 := bounds_i64 b0
  obtain ⟨l1, rfl, kk1⟩ := Str.str_form t1 b1
  obtain ⟨l2, rfl, kk2⟩ := Str.str_form t2 b2
  have m3 := bounds_u8 b3
  have e3 : ((UInt8.ofNat t3.toNat).toNat : Int) = t3 := by rw [UInt8.toNat_ofNat']; omega
  have m4 := bounds_i64 b4
  have m5 := bounds_i64 b5
  have m6 := bounds_i64 b6
  have m7 := bounds_i64 b7
  obtain ⟨l8, rfl, kk8⟩ := Str.str_form t8 b8
  have m9 := bounds_i64 b9
  have m10 := bounds_i64 b10
  obtain ⟨l11, rfl, kk11⟩ := Str.str_form t11 b11
  obtain ⟨l12, rfl, kk12⟩ := Str.str_form t12 b12
  obtain ⟨l13, rfl, kk13⟩ := Str.str_form t13 b13
  simp only [Prod.mk.injEq] at hx
  subst hx2
  refine ⟨⟨t0, ⟨l1, l2, UInt8.ofNat t3.toNat, t4, t5, t6, t7, l8⟩, t9, t10, l11, l12, l13⟩, ?_, ⟨?_, ?_, ⟨kk1, kk2, ?_, ?_, ?_, ?_, kk8⟩, ?_, ?_, ?_, ?_, kk11, kk12, kk13⟩, ?_⟩
  · simp only [sv, scells, e3]
  · show t0 < _
    omega
  · show _ ≤ t0
    omega
  · show t4 < _
    omega
  · show t5 < _
    omega
  · show t6 < _
    omega
  · show t7 < _
    omega
  · show t9 < _
    omega
  · show _ ≤ t9
    omega
  · show t10 < _
    omega
  · show _ ≤ t10
    omega
  · rw [hx.2]; rfl
end Go.Proofs.YtllnnlmhbmladaaGreatDoor.Parse
