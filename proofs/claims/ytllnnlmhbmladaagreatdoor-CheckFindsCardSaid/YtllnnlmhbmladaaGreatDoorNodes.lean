/-
  Slices of nodes, as lists of nodes: no statement is proved here.
  A node that came in, opened: no statement is proved here. A slice of nodes that came in, opened: no statement is proved here.
-/
import Derived.Test.YtllnnlmhbmladaaGreatDoorNode
import Derived.Test.YtllnnlmhbmladaaGreatDoorBase
import Derived.Laws.AppendOwn
import Derived.Deep.Slices
namespace Go.Proofs.YtllnnlmhbmladaaGreatDoor.Node
open Go.RowKit Go.Proofs.YtllnnlmhbmladaaGreatDoor.Base

/-- The cells of nodes. -/
def ntc (ns : List Nd) : List Value := ns.flatMap fun n => (ncells n).toList
theorem ntc_append (a b : List Nd) : ntc (a ++ b) = ntc a ++ ntc b := by simp [ntc]
theorem ntc_at {ns : List Nd} {j i : Nat} {n : Nd} (h : ns[j]? = some n) (hi : i < 8) : (ntc ns)[j * 8 + i]? = (ncells n)[i]? := by
  induction ns generalizing j with
  | nil => simp at h
  | cons x ns ih =>
    have hl : (ncells x).toList.length = 8 := rfl
    cases j with
    | zero =>
      simp only [List.getElem?_cons_zero, Option.some.injEq] at h
      subst h
      show ((ncells x).toList ++ ntc ns)[0 * 8 + i]? = _
      rw [List.getElem?_append_left (by rw [hl]; omega), Array.getElem?_toList]
      congr 1
      omega
    | succ j =>
      simp only [List.getElem?_cons_succ] at h
      show ((ncells x).toList ++ ntc ns)[(j + 1) * 8 + i]? = _
      rw [List.getElem?_append_right (by rw [hl]; omega), hl, show (j + 1) * 8 + i - 8 = j * 8 + i by omega]
      exact ih h
/-- The slice at A reads as the nodes ns. -/
def RdN (w : World) (A : Option Addr) (cap : Nat) (ns : List Nd) : Prop :=
  ns.length ≤ cap ∧ (ns ≠ [] → ∃ b o, A = some ⟨b, o, none⟩ ∧ b < w.heap.size ∧ ∀ q u, (ntc ns)[q]? = some u → w.cell? ⟨b, o + q, none⟩ = some u)
section
variable {w w' : World} {A : Option Addr} {cap : Nat} {ns : List Nd}
theorem RdN.nil (w : World) : RdN w none 0 [] := ⟨by simp, fun h => absurd rfl h⟩
theorem RdN.keep (h : RdN w A cap ns) (hs : Stp w w') : RdN w' A cap ns := by
  refine ⟨h.1, fun hn => ?_⟩
  obtain ⟨b, o, e, hb, hc⟩ := h.2 hn
  exact ⟨b, o, e, Nat.lt_of_lt_of_le hb hs.size, fun q u hq => (hs.cell (p := ⟨b, o + q, none⟩) hb).trans (hc q u hq)⟩
/-- One node: its cells. -/
theorem RdN.at_ (h : RdN w A cap ns) {j : Nat} {n : Nd} (hj : ns[j]? = some n) : ∃ b o, A = some ⟨b, o, none⟩ ∧ b < w.heap.size ∧ ∀ i u, (ncells n)[i]? = some u → w.cell? ⟨b, o + (j * 8 + i), none⟩ = some u := by
  obtain ⟨b, o, e, hb, hc⟩ := h.2 (by rintro rfl; simp at hj)
  refine ⟨b, o, e, hb, fun i u hi => hc _ u ?_⟩
  have hi8 : i < 8 := (Array.getElem?_eq_some_iff.1 hi).1
  rw [ntc_at hj hi8]
  exact hi
/-- The eight cells of a node that lies in a row. -/
theorem RdN.cells (h : RdN w A cap ns) {j : Nat} {n : Nd} (hj : ns[j]? = some n) : ∃ b o, A = some ⟨b, o, none⟩ ∧ b < w.heap.size ∧
    w.cell? ⟨b, o + j * 8, none⟩ = some (.string ⟨n.path.toArray⟩) ∧ w.cell? ⟨b, o + j * 8 + 1, none⟩ = some (.string ⟨n.link.toArray⟩) ∧ w.cell? ⟨b, o + j * 8 + 2, none⟩ = some (.int .u8 (n.kind.toNat : Int)) ∧ w.cell? ⟨b, o + j * 8 + 3, none⟩ = some (.int .i64 n.mode) ∧
    w.cell? ⟨b, o + j * 8 + 4, none⟩ = some (.int .i64 n.uid) ∧ w.cell? ⟨b, o + j * 8 + 5, none⟩ = some (.int .i64 n.gid) ∧ w.cell? ⟨b, o + j * 8 + 6, none⟩ = some (.int .i64 n.time) ∧ w.cell? ⟨b, o + j * 8 + 7, none⟩ = some (.string ⟨n.data.toArray⟩) := by
  obtain ⟨b, o, e, hb, hc⟩ := h.at_ hj
  refine ⟨b, o, e, hb, hc 0 _ rfl, ?_, ?_, ?_, ?_, ?_, ?_, ?_⟩
  · rw [Nat.add_assoc]; exact hc 1 _ rfl
  · rw [Nat.add_assoc]; exact hc 2 _ rfl
  · rw [Nat.add_assoc]; exact hc 3 _ rfl
  · rw [Nat.add_assoc]; exact hc 4 _ rfl
  · rw [Nat.add_assoc]; exact hc 5 _ rfl
  · rw [Nat.add_assoc]; exact hc 6 _ rfl
  · rw [Nat.add_assoc]; exact hc 7 _ rfl
theorem RdN.take (h : RdN w A cap ns) (k : Nat) : RdN w A cap (ns.take k) := by
  refine ⟨by have := h.1; rw [List.length_take]; omega, fun hn => ?_⟩
  obtain ⟨b, o, e, hb, hc⟩ := h.2 (by rintro rfl; simp at hn)
  refine ⟨b, o, e, hb, fun q u hq => hc q u ?_⟩
  have e2 : ntc ns = ntc (ns.take k) ++ ntc (ns.drop k) := by rw [← ntc_append, List.take_append_drop]
  rw [e2, List.getElem?_append_left (List.getElem?_eq_some_iff.1 hq).1]
  exact hq
end
theorem row_keep {w w' : World} {lo size n : Nat} {e : TypeId} {v : Value} {xs : List Value} (h : w.ownsRow lo e size v n xs) (hs : Stp w w') : w'.ownsRow lo e size v n xs :=
  h.kept (row := none) ⟨hs.os, hs.tape, hs.output, hs.size, fun j hj _ => hs.block j hj⟩ (by cases v.ownBlock <;> simp)
theorem row_stp {w0 w w' : World} {lo size n : Nat} {e : TypeId} {v : Value} {xs : List Value} (h : w.ownsRow lo e size v n xs) (h0 : Stp w0 w) (hlo : w0.heap.size ≤ lo) (hg : w.grownBy w' v.ownBlock) : Stp w0 w' :=
  Below.grown h0 hg h0.size (fun j hj => Nat.le_trans hlo (h.lt j hj).1)
end Go.Proofs.YtllnnlmhbmladaaGreatDoor.Node

namespace Go.Proofs.YtllnnlmhbmladaaGreatDoor.Node
open Go.ChangeShapes Go.WideShapes Go.ChangeAt Go.RowKit Go.Proofs.YtllnnlmhbmladaaGreatDoor.Base Go.Proofs.YtllnnlmhbmladaaGreatDoor.Frame

theorem list8 {α : Type} {cs : List α} (h : cs.length = 8) : ∃ c0 c1 c2 c3 c4 c5 c6 c7, cs = [c0, c1, c2, c3, c4, c5, c6, c7] := by
  match cs, h with
  | [c0, c1, c2, c3, c4, c5, c6, c7], _ => exact ⟨c0, c1, c2, c3, c4, c5, c6, c7, rfl⟩
theorem node_struct : Tryz.prog.underlying 23 = some (.struct (Tryz.prog.fieldsOf 23)) := by kernel_rfl
theorem node_cells : Tryz.prog.cellsOf 23 = 8 := by kernel_rfl
theorem node_count : (Tryz.prog.fieldsOf 23).size = 8 := by kernel_rfl
theorem str_cells : Tryz.prog.cellsOf 9 = 1 := by kernel_rfl
theorem int_cells : Tryz.prog.cellsOf 3 = 1 := by kernel_rfl
theorem byte_cells : Tryz.prog.cellsOf 5 = 1 := by kernel_rfl
theorem node_field_0 : (Tryz.prog.fieldsOf 23)[0]? = some { name := "Path", type := 9, offset := 0, embedded := false, tag := "", pkgPath := "", byteOffset := 0 } := by kernel_rfl
theorem node_field_1 : (Tryz.prog.fieldsOf 23)[1]? = some { name := "Link", type := 9, offset := 1, embedded := false, tag := "", pkgPath := "", byteOffset := 16 } := by kernel_rfl
theorem node_field_2 : (Tryz.prog.fieldsOf 23)[2]? = some { name := "Kind", type := 5, offset := 2, embedded := false, tag := "", pkgPath := "", byteOffset := 32 } := by kernel_rfl
theorem node_field_3 : (Tryz.prog.fieldsOf 23)[3]? = some { name := "Mode", type := 3, offset := 3, embedded := false, tag := "", pkgPath := "", byteOffset := 40 } := by kernel_rfl
theorem node_field_4 : (Tryz.prog.fieldsOf 23)[4]? = some { name := "Uid", type := 3, offset := 4, embedded := false, tag := "", pkgPath := "", byteOffset := 48 } := by kernel_rfl
theorem node_field_5 : (Tryz.prog.fieldsOf 23)[5]? = some { name := "Gid", type := 3, offset := 5, embedded := false, tag := "", pkgPath := "", byteOffset := 56 } := by kernel_rfl
theorem node_field_6 : (Tryz.prog.fieldsOf 23)[6]? = some { name := "Mtime", type := 3, offset := 6, embedded := false, tag := "", pkgPath := "", byteOffset := 64 } := by kernel_rfl
theorem node_field_7 : (Tryz.prog.fieldsOf 23)[7]? = some { name := "Data", type := 9, offset := 7, embedded := false, tag := "", pkgPath := "", byteOffset := 72 } := by kernel_rfl

end Go.Proofs.YtllnnlmhbmladaaGreatDoor.Node

namespace Go.Proofs.YtllnnlmhbmladaaGreatDoor.Node
open Go.ChangeShapes Go.WideShapes Go.ChangeAt Go.RowKit Go.Proofs.YtllnnlmhbmladaaGreatDoor.Base Go.Proofs.YtllnnlmhbmladaaGreatDoor.Frame

end Go.Proofs.YtllnnlmhbmladaaGreatDoor.Node

