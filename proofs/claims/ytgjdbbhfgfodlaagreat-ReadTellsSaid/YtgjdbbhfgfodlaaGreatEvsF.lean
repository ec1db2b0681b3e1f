/-
  A slice of what is told that came in, opened: no statement is proved here.
-/
import Derived.Test.YtgjdbbhfgfodlaaGreatNodes
import Derived.Test.YtgjdbbhfgfodlaaGreatEvs
import Derived.Deep.Slices
namespace Go.Proofs.YtgjdbbhfgfodlaaGreat.Parse
open Go.ChangeShapes Go.WideShapes Go.ChangeAt Go.RowKit Go.Proofs.YtgjdbbhfgfodlaaGreat.Base Go.Proofs.YtgjdbbhfgfodlaaGreat.Frame Go.Proofs.YtgjdbbhfgfodlaaGreat.Node

theorem list10e {α : Type} {cs : List α} (h : cs.length = 10) : ∃ c0 c1 c2 c3 c4 c5 c6 c7 c8 c9, cs = [c0, c1, c2, c3, c4, c5, c6, c7, c8, c9] := by
  match cs, h with
  | [c0, c1, c2, c3, c4, c5, c6, c7, c8, c9], _ => exact ⟨c0, c1, c2, c3, c4, c5, c6, c7, c8, c9, rfl⟩
theorem list3e {α : Type} {cs : List α} (h : cs.length = 3) : ∃ c0 c1 c2, cs = [c0, c1, c2] := by
  match cs, h with
  | [c0, c1, c2], _ => exact ⟨c0, c1, c2, rfl⟩
instance : Inhabited Evt := ⟨⟨0, zeroN, []⟩⟩
theorem ev_struct : Tryz.prog.underlying 40 = some (.struct (Tryz.prog.fieldsOf 40)) := by kernel_rfl
theorem ev_cellsOf : Tryz.prog.cellsOf 40 = 10 := by kernel_rfl
theorem ev_count : (Tryz.prog.fieldsOf 40).size = 3 := by kernel_rfl
theorem ev_field_0 : (Tryz.prog.fieldsOf 40)[0]? = some { name := "Kind", type := 3, offset := 0, embedded := false, tag := "", pkgPath := "", byteOffset := 0 } := by kernel_rfl
theorem ev_field_1 : (Tryz.prog.fieldsOf 40)[1]? = some { name := "Node", type := 38, offset := 1, embedded := false, tag := "", pkgPath := "", byteOffset := 8 } := by kernel_rfl
theorem ev_field_2 : (Tryz.prog.fieldsOf 40)[2]? = some { name := "Data", type := 9, offset := 9, embedded := false, tag := "", pkgPath := "", byteOffset := 96 } := by kernel_rfl

set_option maxRecDepth 100000 in
set_option maxHeartbeats 1000000 in
theorem ev_of_cells {H : Type} {enc : TypeId × Value → H} {w : World} {base : Nat} {spare : Nat → Bool} {held : Bool} {fuel : Nat} {cs : List Value} {d : DataW H} {p : List MemPlace}
    (hf : DataW.trod enc Tryz.prog w base spare held fuel 40 cs = some (d, p)) : ∃ x : Evt, cs = (ecells x).toList := by
  obtain ⟨xs, n, _, hx, hsz, hlen, hg⟩ := DataW.trod_struct ev_struct hf
  rw [ev_cellsOf] at hsz
  obtain ⟨c0, c1, c2, c3, c4, c5, c6, c7, c8, c9, rfl⟩ := list10e hsz
  rw [ev_count] at hlen
  obtain ⟨y0, y1, y2, rfl⟩ := list3e hlen
  have g0 := hg 0 _ ev_field_0
  simp only [int_cells] at g0
  obtain ⟨t0, q0, rfl, b0⟩ := DataW.trod_int Tryz.underlying3 (by simpa using g0)
  obtain rfl : c0 = _ := by simpa using q0
  have g1 := hg 1 _ ev_field_1
  simp only [node_cells] at g1
  obtain ⟨xs2, n2, _, hx2, _, hlen2, hg2⟩ := DataW.trod_struct node_struct (by simpa using g1)
  rw [node_count] at hlen2
  obtain ⟨z0, z1, z2, z3, z4, z5, z6, z7, rfl⟩ := list8 hlen2
  have k0 := hg2 0 _ node_field_0
  simp only [str_cells] at k0
  obtain ⟨t1, q1, rfl, b1⟩ := DataW.trod_string Tryz.underlying9 (by simpa using k0)
  obtain rfl : c1 = _ := by simpa using q1
  have k1 := hg2 1 _ node_field_1
  simp only [str_cells] at k1
  obtain ⟨t2, q2, rfl, b2⟩ := DataW.trod_string Tryz.underlying9 (by simpa using k1)
  obtain rfl : c2 = _ := by simpa using q2
  have k2 := hg2 2 _ node_field_2
  simp only [byte_cells] at k2
  obtain ⟨t3, q3, rfl, b3⟩ := DataW.trod_int Tryz.underlying5 (by simpa using k2)
  obtain rfl : c3 = _ := by simpa using q3
  have k3 := hg2 3 _ node_field_3
  simp only [int_cells] at k3
  obtain ⟨t4, q4, rfl, b4⟩ := DataW.trod_int Tryz.underlying3 (by simpa using k3)
  obtain rfl : c4 = _ := by simpa using q4
  have k4 := hg2 4 _ node_field_4
  simp only [int_cells] at k4
  obtain ⟨t5, q5, rfl, b5⟩ := DataW.trod_int Tryz.underlying3 (by simpa using k4)
  obtain rfl : c5 = _ := by simpa using q5
  have k5 := hg2 5 _ node_field_5
  simp only [int_cells] at k5
  obtain ⟨t6, q6, rfl, b6⟩ := DataW.trod_int Tryz.underlying3 (by simpa using k5)
  obtain rfl : c6 = _ := by simpa using q6
  have k6 := hg2 6 _ node_field_6
  simp only [int_cells] at k6
  obtain ⟨t7, q7, rfl, b7⟩ := DataW.trod_int Tryz.underlying3 (by simpa using k6)
  obtain rfl : c7 = _ := by simpa using q7
  have k7 := hg2 7 _ node_field_7
  simp only [str_cells] at k7
  obtain ⟨t8, q8, rfl, b8⟩ := DataW.trod_string Tryz.underlying9 (by simpa using k7)
  obtain rfl : c8 = _ := by simpa using q8
  have g2 := hg 2 _ ev_field_2
  simp only [str_cells] at g2
  obtain ⟨t9, q9, rfl, b9⟩ := DataW.trod_string Tryz.underlying9 (by simpa using g2)
  obtain rfl : c9 = _ := by simpa using q9
  obtain ⟨l1, rfl, kk1⟩ := Str.str_form t1 b1
  obtain ⟨l2, rfl, kk2⟩ := Str.str_form t2 b2
  have m3 := bounds_u8 b3
  have e3 : ((UInt8.ofNat t3.toNat).toNat : Int) = t3 := by rw [UInt8.toNat_ofNat']; omega
  obtain ⟨l8, rfl, kk8⟩ := Str.str_form t8 b8
  obtain ⟨l9, rfl, kk9⟩ := Str.str_form t9 b9
  refine ⟨⟨t0, ⟨l1, l2, UInt8.ofNat t3.toNat, t4, t5, t6, t7, l8⟩, l9⟩, ?_⟩
  simp only [e3]

theorem open_evs {H : Type} {enc : TypeId × Value → H} {w : World} {base : Nat} {held : Bool} {fuel : Nat} {a : Option Addr} {len cap : Nat} {x : DataW H × List MemPlace}
    (hf : DataW.trod enc Tryz.prog w base (fun _ => true) held fuel 22 [.slice a len cap] = some x) : ∃ ns : List Evt, ns.length = len ∧ RdE w a cap ns ∧ len < 9223372036854775808 := by
  rcases Deep.open_slice Tryz.underlying22 hf with ⟨hcs, _⟩ | ⟨x, l, c, m, n, D, Pl, hcs, hb, hl, hm, hmm, _, hel⟩
  · simp at hcs
    obtain ⟨rfl, rfl, rfl⟩ := hcs
    exact ⟨[], rfl, RdE.nil w, by omega⟩
  · simp at hcs
    obtain ⟨rfl, rfl, rfl⟩ := hcs
    simp only [if_true] at hmm
    subst hmm
    rw [ev_cellsOf] at hel
    have each : ∀ i, i < len → ∃ y : Evt, w.cells? base (x.add (i * 10)) 10 = some (ecells y).toList := by
      intro i hi
      obtain ⟨cs, h1, h2⟩ := hel i (by omega)
      obtain ⟨y, rfl⟩ := ev_of_cells h2
      exact ⟨y, h1⟩
    obtain ⟨f, hff⟩ := Deep.choose_lt each
    refine ⟨(List.range len).map f, by simp, ⟨by simpa using hl, fun hne => ?_⟩, by unfold maxLen at hm; omega⟩
    · have hpos : 0 < len := by
        rcases Nat.eq_zero_or_pos len with h0 | h0
        · subst h0; simp at hne
        · exact h0
      have h00 := (World.cells?_some (hff 0 hpos)).2.2 0 (by omega)
      obtain ⟨b, o, sp⟩ := x
      have hs : sp = none := by
        have h01 : w.cell? (((⟨b, o, sp⟩ : Addr).add (0 * 10)).add 0) = some (.int .i64 (f 0).kind) := h00
        simpa [Addr.add] using World.cell?_spot h01
      subst hs
      have h01 : w.cell? (((⟨b, o, none⟩ : Addr).add (0 * 10)).add 0) = some (.int .i64 (f 0).kind) := h00
      refine ⟨b, o, rfl, by have := World.block_lt_of_cell? w _ h01; simpa [Addr.add] using this, fun q u hq => ?_⟩
      have hql := (List.getElem?_eq_some_iff.1 hq).1
      rw [etc_length, List.length_map, List.length_range] at hql
      have hj : q / 10 < len := by omega
      have hi : q % 10 < 10 := by omega
      have hn : ((List.range len).map f)[q / 10]? = some (f (q / 10)) := by rw [List.getElem?_map, List.getElem?_range hj]; rfl
      rw [show q = q / 10 * 10 + q % 10 by omega, etc_at hn hi] at hq
      have hc := (World.cells?_some (hff _ hj)).2.2 (q % 10) hi
      rw [Addr.add_lit, Addr.add_lit, Array.getElem?_toList, hq] at hc
      rw [show o + q = o + q / 10 * 10 + q % 10 by omega]
      exact hc
end Go.Proofs.YtgjdbbhfgfodlaaGreat.Parse
