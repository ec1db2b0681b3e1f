/-
  Slices of nodes, as lists of nodes: no statement is proved here.
  A node that came in, opened: no statement is proved here. A slice of nodes that came in, opened: no statement is proved here.
-/
import Derived.Test.YtjddgmdbgajjpaaNode
import Derived.Test.YtjddgmdbgajjpaaBase
import Derived.Laws.AppendOwn
import Derived.Deep.Slices
namespace Go.Proofs.Ytjddgmdbgajjpaa.Node
open Go.RowKit Go.Proofs.Ytjddgmdbgajjpaa.Base

/-- The cells of nodes. -/
def ntc (ns : List Nd) : List Value := ns.flatMap fun n => (ncells n).toList
theorem ntc_length (ns : List Nd) : (ntc ns).length = ns.length * 8 := by
  induction ns with
  | nil => rfl
  | cons n ns ih => simp [ntc] at ih ⊢; omega
theorem ntc_append (a b : List Nd) : ntc (a ++ b) = ntc a ++ ntc b := by simp [ntc]
theorem ntc_at {ns : List Nd} {j i : Nat} {n : Nd} (h : ns[j]? = some n) (hi : i < 8) : (ntc ns)[j * 8 + i]? = (ncells n)[i]? := by
  induction ns generalizing j with
  | nil => simp at h
  | cons x ns ih =>
    have hl : (ncells x).toList.length = 8 := rfl
    cases j with
    | zero =>
      simp only [List.getElem?_cons_zero, Option.some.injEq] at h
      subst h
      show ((ncells x).toList ++ ntc ns)[0 * 8 + i]? = _
      rw [List.getElem?_append_left (by rw [hl]; omega), Array.getElem?_toList]
      congr 1
      omega
    | succ j =>
      simp only [List.getElem?_cons_succ] at h
      show ((ncells x).toList ++ ntc ns)[(j + 1) * 8 + i]? = _
      rw [List.getElem?_append_right (by rw [hl]; omega), hl, show (j + 1) * 8 + i - 8 = j * 8 + i by omega]
      exact ih h
theorem ntc_one (ns : List Nd) : ∀ u ∈ ntc ns, u.oneCell' = true := by
  intro u hu
  simp only [ntc, List.mem_flatMap] at hu
  obtain ⟨n, _, hu⟩ := hu
  simp only [List.mem_cons, List.not_mem_nil, or_false] at hu
  rcases hu with rfl | rfl | rfl | rfl | rfl | rfl | rfl | rfl <;> rfl

/-- The slice at A reads as the nodes ns. -/
def RdN (w : World) (A : Option Addr) (cap : Nat) (ns : List Nd) : Prop :=
  ns.length ≤ cap ∧ (ns ≠ [] → ∃ b o, A = some ⟨b, o, none⟩ ∧ b < w.heap.size ∧ ∀ q u, (ntc ns)[q]? = some u → w.cell? ⟨b, o + q, none⟩ = some u)
section
variable {w w' : World} {A : Option Addr} {cap : Nat} {ns : List Nd}
theorem RdN.nil (w : World) : RdN w none 0 [] := ⟨by simp, fun h => absurd rfl h⟩
theorem RdN.keep (h : RdN w A cap ns) (hs : Stp w w') : RdN w' A cap ns := by
  refine ⟨h.1, fun hn => ?_⟩
  obtain ⟨b, o, e, hb, hc⟩ := h.2 hn
  exact ⟨b, o, e, Nat.lt_of_lt_of_le hb hs.size, fun q u hq => (hs.cell (p := ⟨b, o + q, none⟩) hb).trans (hc q u hq)⟩
/-- One node: its cells. -/
theorem RdN.at_ (h : RdN w A cap ns) {j : Nat} {n : Nd} (hj : ns[j]? = some n) : ∃ b o, A = some ⟨b, o, none⟩ ∧ b < w.heap.size ∧ ∀ i u, (ncells n)[i]? = some u → w.cell? ⟨b, o + (j * 8 + i), none⟩ = some u := by
  obtain ⟨b, o, e, hb, hc⟩ := h.2 (by rintro rfl; simp at hj)
  refine ⟨b, o, e, hb, fun i u hi => hc _ u ?_⟩
  have hi8 : i < 8 := (Array.getElem?_eq_some_iff.1 hi).1
  rw [ntc_at hj hi8]
  exact hi
/-- The eight cells of a node that lies in a row. -/
theorem RdN.cells (h : RdN w A cap ns) {j : Nat} {n : Nd} (hj : ns[j]? = some n) : ∃ b o, A = some ⟨b, o, none⟩ ∧ b < w.heap.size ∧
    w.cell? ⟨b, o + j * 8, none⟩ = some (.string ⟨n.path.toArray⟩) ∧ w.cell? ⟨b, o + j * 8 + 1, none⟩ = some (.string ⟨n.link.toArray⟩) ∧ w.cell? ⟨b, o + j * 8 + 2, none⟩ = some (.int .u8 (n.kind.toNat : Int)) ∧ w.cell? ⟨b, o + j * 8 + 3, none⟩ = some (.int .i64 n.mode) ∧
    w.cell? ⟨b, o + j * 8 + 4, none⟩ = some (.int .i64 n.uid) ∧ w.cell? ⟨b, o + j * 8 + 5, none⟩ = some (.int .i64 n.gid) ∧ w.cell? ⟨b, o + j * 8 + 6, none⟩ = some (.int .i64 n.time) ∧ w.cell? ⟨b, o + j * 8 + 7, none⟩ = some (.string ⟨n.data.toArray⟩) := by
  obtain ⟨b, o, e, hb, hc⟩ := h.at_ hj
  refine ⟨b, o, e, hb, hc 0 _ rfl, ?_, ?_, ?_, ?_, ?_, ?_, ?_⟩
  · rw [Nat.add_assoc]; exact hc 1 _ rfl
  · rw [Nat.add_assoc]; exact hc 2 _ rfl
  · rw [Nat.add_assoc]; exact hc 3 _ rfl
  · rw [Nat.add_assoc]; exact hc 4 _ rfl
  · rw [Nat.add_assoc]; exact hc 5 _ rfl
  · rw [Nat.add_assoc]; exact hc 6 _ rfl
  · rw [Nat.add_assoc]; exact hc 7 _ rfl
theorem RdN.take (h : RdN w A cap ns) (k : Nat) : RdN w A cap (ns.take k) := by
  refine ⟨by have := h.1; rw [List.length_take]; omega, fun hn => ?_⟩
  obtain ⟨b, o, e, hb, hc⟩ := h.2 (by rintro rfl; simp at hn)
  refine ⟨b, o, e, hb, fun q u hq => hc q u ?_⟩
  have e2 : ntc ns = ntc (ns.take k) ++ ntc (ns.drop k) := by rw [← ntc_append, List.take_append_drop]
  rw [e2, List.getElem?_append_left (List.getElem?_eq_some_iff.1 hq).1]
  exact hq
/-- A row of the call's own. -/
theorem RdN.of_row {lo : Nat} {e : TypeId} {v : Value} (h : w.ownsRow lo e 8 v ns.length (ntc ns)) : ∃ A cap, v = .slice A ns.length cap ∧ RdN w A cap ns := by
  obtain ⟨hl, ⟨rfl, hn⟩ | ⟨g, cap, cur, rfl, hb, hg, hn, hc, hs, ht⟩⟩ := h
  · obtain rfl : ns = [] := List.eq_nil_of_length_eq_zero hn
    exact ⟨none, 0, rfl, RdN.nil w⟩
  · refine ⟨_, cap, rfl, hn, fun _ => ⟨g, 0, rfl, lt_of_block hg, fun q u hq => ?_⟩⟩
    rw [Nat.zero_add, cell_of_row w g q cur _ _ hg]
    rw [← ht, List.getElem?_take] at hq
    split at hq
    · simpa using hq
    · cases hq
end
theorem lit_cells (x : Nd) (w : World) (t : TypeId) : ∀ (j : Nat) (u : Value), (ncells x).toList[j]? = some u → (w.alloc (.cells (ncells x) t)).cell? ((⟨w.heap.size, 0, none⟩ : Addr).add j) = some u := by
  intro j u hj
  rw [Addr.add_lit, Nat.zero_add, World.cell?_alloc_new]
  rw [Array.getElem?_toList] at hj
  exact hj
theorem lit_one (x : Nd) : ∀ u ∈ (ncells x).toList, u.oneCell' = true := by simp [Value.oneCell']
theorem row_keep {w w' : World} {lo size n : Nat} {e : TypeId} {v : Value} {xs : List Value} (h : w.ownsRow lo e size v n xs) (hs : Stp w w') : w'.ownsRow lo e size v n xs :=
  h.kept (row := none) ⟨hs.os, hs.tape, hs.output, hs.size, fun j hj _ => hs.block j hj⟩ (by cases v.ownBlock <;> simp)
theorem row_stp {w0 w w' : World} {lo size n : Nat} {e : TypeId} {v : Value} {xs : List Value} (h : w.ownsRow lo e size v n xs) (h0 : Stp w0 w) (hlo : w0.heap.size ≤ lo) (hg : w.grownBy w' v.ownBlock) : Stp w0 w' :=
  Below.grown h0 hg h0.size (fun j hj => Nat.le_trans hlo (h.lt j hj).1)
end Go.Proofs.Ytjddgmdbgajjpaa.Node

namespace Go.Proofs.Ytjddgmdbgajjpaa.Node
open Go.ChangeShapes Go.WideShapes Go.ChangeAt Go.RowKit Go.Proofs.Ytjddgmdbgajjpaa.Base Go.Proofs.Ytjddgmdbgajjpaa.Frame

theorem array8 {α : Type} {cs : Array α} (h : cs.size = 8) : ∃ c0 c1 c2 c3 c4 c5 c6 c7, cs = #[c0, c1, c2, c3, c4, c5, c6, c7] := by
  obtain ⟨l⟩ := cs
  match l, h with
  | [c0, c1, c2, c3, c4, c5, c6, c7], _ => exact ⟨c0, c1, c2, c3, c4, c5, c6, c7, rfl⟩
theorem list8 {α : Type} {cs : List α} (h : cs.length = 8) : ∃ c0 c1 c2 c3 c4 c5 c6 c7, cs = [c0, c1, c2, c3, c4, c5, c6, c7] := by
  match cs, h with
  | [c0, c1, c2, c3, c4, c5, c6, c7], _ => exact ⟨c0, c1, c2, c3, c4, c5, c6, c7, rfl⟩
theorem node_struct : Try.prog.underlying 26 = some (.struct (Try.prog.fieldsOf 26)) := by kernel_rfl
theorem node_cells : Try.prog.cellsOf 26 = 8 := by kernel_rfl
theorem node_count : (Try.prog.fieldsOf 26).size = 8 := by kernel_rfl
theorem str_cells : Try.prog.cellsOf 9 = 1 := by kernel_rfl
theorem int_cells : Try.prog.cellsOf 3 = 1 := by kernel_rfl
theorem byte_cells : Try.prog.cellsOf 5 = 1 := by kernel_rfl
theorem node_field_0 : (Try.prog.fieldsOf 26)[0]? = some { name := "Path", type := 9, offset := 0, embedded := false, tag := "", pkgPath := "", byteOffset := 0 } := by kernel_rfl
theorem node_field_1 : (Try.prog.fieldsOf 26)[1]? = some { name := "Link", type := 9, offset := 1, embedded := false, tag := "", pkgPath := "", byteOffset := 16 } := by kernel_rfl
theorem node_field_2 : (Try.prog.fieldsOf 26)[2]? = some { name := "Kind", type := 5, offset := 2, embedded := false, tag := "", pkgPath := "", byteOffset := 32 } := by kernel_rfl
theorem node_field_3 : (Try.prog.fieldsOf 26)[3]? = some { name := "Mode", type := 3, offset := 3, embedded := false, tag := "", pkgPath := "", byteOffset := 40 } := by kernel_rfl
theorem node_field_4 : (Try.prog.fieldsOf 26)[4]? = some { name := "Uid", type := 3, offset := 4, embedded := false, tag := "", pkgPath := "", byteOffset := 48 } := by kernel_rfl
theorem node_field_5 : (Try.prog.fieldsOf 26)[5]? = some { name := "Gid", type := 3, offset := 5, embedded := false, tag := "", pkgPath := "", byteOffset := 56 } := by kernel_rfl
theorem node_field_6 : (Try.prog.fieldsOf 26)[6]? = some { name := "Mtime", type := 3, offset := 6, embedded := false, tag := "", pkgPath := "", byteOffset := 64 } := by kernel_rfl
theorem node_field_7 : (Try.prog.fieldsOf 26)[7]? = some { name := "Data", type := 9, offset := 7, embedded := false, tag := "", pkgPath := "", byteOffset := 72 } := by kernel_rfl

set_option maxRecDepth 100000 in
theorem open_node {H : Type} {enc : TypeId × Value → H} {w : World} {base : Nat} {spare : Nat → Bool} {held : Bool} {r : Reach} {b0 : Nat} {v : Value} {d : DataW H} {p : List MemPlace}
    (hval : Value.okWide Try.prog w r b0 26 v) (h : DataW.Trod enc Try.prog w base spare held 26 v d p) : ∃ x : Nd, v = nv x ∧ SmallN x ∧ p = [] := by
  obtain ⟨cs, rfl, hsz⟩ := okWide_struct node_struct hval
  rw [node_cells] at hsz
  obtain ⟨c0, c1, c2, c3, c4, c5, c6, c7, rfl⟩ := array8 hsz
  obtain ⟨fuel, hf⟩ := h
  obtain ⟨xs, n, _, hx, _, hlen, hg⟩ := DataW.trod_struct node_struct hf
  rw [node_count] at hlen
  obtain ⟨y0, y1, y2, y3, y4, y5, y6, y7, rfl⟩ := list8 hlen
  have g0 := hg 0 _ node_field_0
  simp only [str_cells] at g0
  obtain ⟨s0, q0, rfl, b0⟩ := DataW.trod_string Try.underlying9 (by simpa [Value.cells] using g0)
  obtain rfl : c0 = _ := by simpa [Value.cells] using q0
  have g1 := hg 1 _ node_field_1
  simp only [str_cells] at g1
  obtain ⟨s1, q1, rfl, b1⟩ := DataW.trod_string Try.underlying9 (by simpa [Value.cells] using g1)
  obtain rfl : c1 = _ := by simpa [Value.cells] using q1
  have g2 := hg 2 _ node_field_2
  simp only [byte_cells] at g2
  obtain ⟨s2, q2, rfl, b2⟩ := DataW.trod_int Try.underlying5 (by simpa [Value.cells] using g2)
  obtain rfl : c2 = _ := by simpa [Value.cells] using q2
  have g3 := hg 3 _ node_field_3
  simp only [int_cells] at g3
  obtain ⟨s3, q3, rfl, b3⟩ := DataW.trod_int Try.underlying3 (by simpa [Value.cells] using g3)
  obtain rfl : c3 = _ := by simpa [Value.cells] using q3
  have g4 := hg 4 _ node_field_4
  simp only [int_cells] at g4
  obtain ⟨s4, q4, rfl, b4⟩ := DataW.trod_int Try.underlying3 (by simpa [Value.cells] using g4)
  obtain rfl : c4 = _ := by simpa [Value.cells] using q4
  have g5 := hg 5 _ node_field_5
  simp only [int_cells] at g5
  obtain ⟨s5, q5, rfl, b5⟩ := DataW.trod_int Try.underlying3 (by simpa [Value.cells] using g5)
  obtain rfl : c5 = _ := by simpa [Value.cells] using q5
  have g6 := hg 6 _ node_field_6
  simp only [int_cells] at g6
  obtain ⟨s6, q6, rfl, b6⟩ := DataW.trod_int Try.underlying3 (by simpa [Value.cells] using g6)
  obtain rfl : c6 = _ := by simpa [Value.cells] using q6
  have g7 := hg 7 _ node_field_7
  simp only [str_cells] at g7
  obtain ⟨s7, q7, rfl, b7⟩ := DataW.trod_string Try.underlying9 (by simpa [Value.cells] using g7)
  obtain rfl : c7 = _ := by simpa [Value.cells] using q7
  obtain ⟨l0, rfl, k0⟩ := Str.str_form s0 b0
  obtain ⟨l1, rfl, k1⟩ := Str.str_form s1 b1
  obtain ⟨l7, rfl, k7⟩ := Str.str_form s7 b7
  have m2 := bounds_u8 b2
  have e2 : ((UInt8.ofNat s2.toNat).toNat : Int) = s2 := by rw [UInt8.toNat_ofNat']; omega
  have m3 := bounds_i64 b3
  have m4 := bounds_i64 b4
  have m5 := bounds_i64 b5
  have m6 := bounds_i64 b6
  simp only [Prod.mk.injEq] at hx
  refine ⟨⟨l0, l1, UInt8.ofNat s2.toNat, s3, s4, s5, s6, l7⟩, ?_, ⟨k0, k1, ?_, ?_, ?_, ?_, k7⟩, ?_⟩
  · simp only [nv, ncells, e2]
  · show s3 < _
    omega
  · show s4 < _
    omega
  · show s5 < _
    omega
  · show s6 < _
    omega
  · rw [hx.2]; rfl
end Go.Proofs.Ytjddgmdbgajjpaa.Node

namespace Go.Proofs.Ytjddgmdbgajjpaa.Node
open Go.ChangeShapes Go.WideShapes Go.ChangeAt Go.RowKit Go.Proofs.Ytjddgmdbgajjpaa.Base Go.Proofs.Ytjddgmdbgajjpaa.Frame

set_option maxRecDepth 100000 in
theorem node_of_cells {H : Type} {enc : TypeId × Value → H} {w : World} {base : Nat} {spare : Nat → Bool} {held : Bool} {fuel : Nat} {cs : List Value} {d : DataW H} {p : List MemPlace}
    (hf : DataW.trod enc Try.prog w base spare held fuel 26 cs = some (d, p)) : ∃ x : Nd, cs = (ncells x).toList ∧ SmallN x ∧ p = [] := by
  obtain ⟨xs, n, _, hx, hsz, hlen, hg⟩ := DataW.trod_struct node_struct hf
  rw [node_cells] at hsz
  obtain ⟨c0, c1, c2, c3, c4, c5, c6, c7, rfl⟩ := list8 hsz
  rw [node_count] at hlen
  obtain ⟨y0, y1, y2, y3, y4, y5, y6, y7, rfl⟩ := list8 hlen
  have g0 := hg 0 _ node_field_0
  simp only [str_cells] at g0
  obtain ⟨s0, q0, rfl, b0⟩ := DataW.trod_string Try.underlying9 (by simpa using g0)
  obtain rfl : c0 = _ := by simpa using q0
  have g1 := hg 1 _ node_field_1
  simp only [str_cells] at g1
  obtain ⟨s1, q1, rfl, b1⟩ := DataW.trod_string Try.underlying9 (by simpa using g1)
  obtain rfl : c1 = _ := by simpa using q1
  have g2 := hg 2 _ node_field_2
  simp only [byte_cells] at g2
  obtain ⟨s2, q2, rfl, b2⟩ := DataW.trod_int Try.underlying5 (by simpa using g2)
  obtain rfl : c2 = _ := by simpa using q2
  have g3 := hg 3 _ node_field_3
  simp only [int_cells] at g3
  obtain ⟨s3, q3, rfl, b3⟩ := DataW.trod_int Try.underlying3 (by simpa using g3)
  obtain rfl : c3 = _ := by simpa using q3
  have g4 := hg 4 _ node_field_4
  simp only [int_cells] at g4
  obtain ⟨s4, q4, rfl, b4⟩ := DataW.trod_int Try.underlying3 (by simpa using g4)
  obtain rfl : c4 = _ := by simpa using q4
  have g5 := hg 5 _ node_field_5
  simp only [int_cells] at g5
  obtain ⟨s5, q5, rfl, b5⟩ := DataW.trod_int Try.underlying3 (by simpa using g5)
  obtain rfl : c5 = _ := by simpa using q5
  have g6 := hg 6 _ node_field_6
  simp only [int_cells] at g6
  obtain ⟨s6, q6, rfl, b6⟩ := DataW.trod_int Try.underlying3 (by simpa using g6)
  obtain rfl : c6 = _ := by simpa using q6
  have g7 := hg 7 _ node_field_7
  simp only [str_cells] at g7
  obtain ⟨s7, q7, rfl, b7⟩ := DataW.trod_string Try.underlying9 (by simpa using g7)
  obtain rfl : c7 = _ := by simpa using q7
  obtain ⟨l0, rfl, k0⟩ := Str.str_form s0 b0
  obtain ⟨l1, rfl, k1⟩ := Str.str_form s1 b1
  obtain ⟨l7, rfl, k7⟩ := Str.str_form s7 b7
  have m2 := bounds_u8 b2
  have e2 : ((UInt8.ofNat s2.toNat).toNat : Int) = s2 := by rw [UInt8.toNat_ofNat']; omega
  have m3 := bounds_i64 b3
  have m4 := bounds_i64 b4
  have m5 := bounds_i64 b5
  have m6 := bounds_i64 b6
  simp only [Prod.mk.injEq] at hx
  refine ⟨⟨l0, l1, UInt8.ofNat s2.toNat, s3, s4, s5, s6, l7⟩, ?_, ⟨k0, k1, ?_, ?_, ?_, ?_, k7⟩, ?_⟩
  · simp only [e2]
  · show s3 < _
    omega
  · show s4 < _
    omega
  · show s5 < _
    omega
  · show s6 < _
    omega
  · rw [hx.2]; rfl

theorem open_nodes {H : Type} {enc : TypeId × Value → H} {w : World} {base : Nat} {held : Bool} {fuel : Nat} {a : Option Addr} {len cap : Nat} {x : DataW H × List MemPlace}
    (hf : DataW.trod enc Try.prog w base (fun _ => true) held fuel 22 [.slice a len cap] = some x) : ∃ ns : List Nd, ns.length = len ∧ RdN w a cap ns ∧ (∀ n ∈ ns, SmallN n) ∧ len < 9223372036854775808 := by
  rcases Deep.open_slice Try.underlying22 hf with ⟨hcs, _⟩ | ⟨x, l, c, m, n, D, Pl, hcs, hb, hl, hm, hmm, _, hel⟩
  · simp at hcs
    obtain ⟨rfl, rfl, rfl⟩ := hcs
    exact ⟨[], rfl, RdN.nil w, by simp, by omega⟩
  · simp at hcs
    obtain ⟨rfl, rfl, rfl⟩ := hcs
    simp only [if_true] at hmm
    subst hmm
    rw [node_cells] at hel
    have each : ∀ i, i < len → ∃ y : Nd, w.cells? base (x.add (i * 8)) 8 = some (ncells y).toList ∧ SmallN y := by
      intro i hi
      obtain ⟨cs, h1, h2⟩ := hel i (by omega)
      obtain ⟨y, rfl, hs, _⟩ := node_of_cells h2
      exact ⟨y, h1, hs⟩
    obtain ⟨f, hff⟩ := Deep.choose_lt each
    refine ⟨(List.range len).map f, by simp, ⟨by simpa using hl, fun hne => ?_⟩, ?_, by unfold maxLen at hm; omega⟩
    · have hpos : 0 < len := by
        rcases Nat.eq_zero_or_pos len with h0 | h0
        · subst h0; simp at hne
        · exact h0
      have h00 := (World.cells?_some (hff 0 hpos).1).2.2 0 (by omega)
      obtain ⟨b, o, sp⟩ := x
      have hs : sp = none := by
        have h01 : w.cell? (((⟨b, o, sp⟩ : Addr).add (0 * 8)).add 0) = some (.string ⟨(f 0).path.toArray⟩) := h00
        simpa [Addr.add] using World.cell?_spot h01
      subst hs
      have h01 : w.cell? (((⟨b, o, none⟩ : Addr).add (0 * 8)).add 0) = some (.string ⟨(f 0).path.toArray⟩) := h00
      refine ⟨b, o, rfl, by have := World.block_lt_of_cell? w _ h01; simpa [Addr.add] using this, fun q u hq => ?_⟩
      have hql := (List.getElem?_eq_some_iff.1 hq).1
      rw [ntc_length, List.length_map, List.length_range] at hql
      have hj : q / 8 < len := by omega
      have hi : q % 8 < 8 := by omega
      have hn : ((List.range len).map f)[q / 8]? = some (f (q / 8)) := by rw [List.getElem?_map, List.getElem?_range hj]; rfl
      rw [show q = q / 8 * 8 + q % 8 by omega, ntc_at hn hi] at hq
      have hc := (World.cells?_some (hff _ hj).1).2.2 (q % 8) hi
      rw [Addr.add_lit, Addr.add_lit, Array.getElem?_toList, hq] at hc
      rw [show o + q = o + q / 8 * 8 + q % 8 by omega]
      exact hc
    · intro n hn
      obtain ⟨i, hi, rfl⟩ := List.mem_map.1 hn
      exact (hff i (by simpa using hi)).2
end Go.Proofs.Ytjddgmdbgajjpaa.Node

