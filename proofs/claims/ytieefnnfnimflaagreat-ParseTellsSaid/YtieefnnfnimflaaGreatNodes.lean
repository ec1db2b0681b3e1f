/-
  Slices of nodes, as lists of nodes: no statement is proved here.
-/
import Derived.Test.YtieefnnfnimflaaGreatNode
import Derived.Test.YtieefnnfnimflaaGreatBase
import Derived.Laws.AppendOwn
namespace Go.Proofs.YtieefnnfnimflaaGreat.Node
open Go.RowKit Go.Proofs.YtieefnnfnimflaaGreat.Base

/-- The cells of nodes. -/
def ntc (ns : List Nd) : List Value := ns.flatMap fun n => (ncells n).toList
theorem ntc_length (ns : List Nd) : (ntc ns).length = ns.length * 8 := by
  induction ns with
  | nil => rfl
  | cons n ns ih => simp [ntc] at ih ⊢; omega
theorem ntc_append (a b : List Nd) : ntc (a ++ b) = ntc a ++ ntc b := by simp [ntc]
theorem ntc_at {ns : List Nd} {j i : Nat} {n : Nd} (h : ns[j]? = some n) (hi : i < 8) : (ntc ns)[j * 8 + i]? = (ncells n)[i]? := by
  induction ns generalizing j with
  | nil => simp at h
  | cons x ns ih =>
    have hl : (ncells x).toList.length = 8 := rfl
    cases j with
    | zero =>
      simp only [List.getElem?_cons_zero, Option.some.injEq] at h
      subst h
      show ((ncells x).toList ++ ntc ns)[0 * 8 + i]? = _
      rw [List.getElem?_append_left (by rw [hl]; omega), Array.getElem?_toList]
      congr 1
      omega
    | succ j =>
      simp only [List.getElem?_cons_succ] at h
      show ((ncells x).toList ++ ntc ns)[(j + 1) * 8 + i]? = _
      rw [List.getElem?_append_right (by rw [hl]; omega), hl, show (j + 1) * 8 + i - 8 = j * 8 + i by omega]
      exact ih h
theorem ntc_one (ns : List Nd) : ∀ u ∈ ntc ns, u.oneCell' = true := by
  intro u hu
  simp only [ntc, List.mem_flatMap] at hu
  obtain ⟨n, _, hu⟩ := hu
  simp only [List.mem_cons, List.not_mem_nil, or_false] at hu
  rcases hu with rfl | rfl | rfl | rfl | rfl | rfl | rfl | rfl <;> rfl

/-- The slice at A reads as the nodes ns. -/
def RdN (w : World) (A : Option Addr) (cap : Nat) (ns : List Nd) : Prop :=
  ns.length ≤ cap ∧ (ns ≠ [] → ∃ b o, A = some ⟨b, o, none⟩ ∧ b < w.heap.size ∧ ∀ q u, (ntc ns)[q]? = some u → w.cell? ⟨b, o + q, none⟩ = some u)
section
variable {w w' : World} {A : Option Addr} {cap : Nat} {ns : List Nd}
theorem RdN.nil (w : World) : RdN w none 0 [] := ⟨by simp, fun h => absurd rfl h⟩
theorem RdN.keep (h : RdN w A cap ns) (hs : Stp w w') : RdN w' A cap ns := by
  refine ⟨h.1, fun hn => ?_⟩
  obtain ⟨b, o, e, hb, hc⟩ := h.2 hn
  exact ⟨b, o, e, Nat.lt_of_lt_of_le hb hs.size, fun q u hq => (hs.cell (p := ⟨b, o + q, none⟩) hb).trans (hc q u hq)⟩
/-- One node: its cells. -/
theorem RdN.at_ (h : RdN w A cap ns) {j : Nat} {n : Nd} (hj : ns[j]? = some n) : ∃ b o, A = some ⟨b, o, none⟩ ∧ b < w.heap.size ∧ ∀ i u, (ncells n)[i]? = some u → w.cell? ⟨b, o + (j * 8 + i), none⟩ = some u := by
  obtain ⟨b, o, e, hb, hc⟩ := h.2 (by rintro rfl; simp at hj)
  refine ⟨b, o, e, hb, fun i u hi => hc _ u ?_⟩
  have hi8 : i < 8 := (Array.getElem?_eq_some_iff.1 hi).1
  rw [ntc_at hj hi8]
  exact hi
/-- The eight cells of a node that lies in a row. -/
theorem RdN.cells (h : RdN w A cap ns) {j : Nat} {n : Nd} (hj : ns[j]? = some n) : ∃ b o, A = some ⟨b, o, none⟩ ∧ b < w.heap.size ∧
    w.cell? ⟨b, o + j * 8, none⟩ = some (.string ⟨n.path.toArray⟩) ∧ w.cell? ⟨b, o + j * 8 + 1, none⟩ = some (.string ⟨n.link.toArray⟩) ∧ w.cell? ⟨b, o + j * 8 + 2, none⟩ = some (.int .u8 (n.kind.toNat : Int)) ∧ w.cell? ⟨b, o + j * 8 + 3, none⟩ = some (.int .i64 n.mode) ∧
    w.cell? ⟨b, o + j * 8 + 4, none⟩ = some (.int .i64 n.uid) ∧ w.cell? ⟨b, o + j * 8 + 5, none⟩ = some (.int .i64 n.gid) ∧ w.cell? ⟨b, o + j * 8 + 6, none⟩ = some (.int .i64 n.time) ∧ w.cell? ⟨b, o + j * 8 + 7, none⟩ = some (.string ⟨n.data.toArray⟩) := by
  obtain ⟨b, o, e, hb, hc⟩ := h.at_ hj
  refine ⟨b, o, e, hb, hc 0 _ rfl, ?_, ?_, ?_, ?_, ?_, ?_, ?_⟩
  · rw [Nat.add_assoc]; exact hc 1 _ rfl
  · rw [Nat.add_assoc]; exact hc 2 _ rfl
  · rw [Nat.add_assoc]; exact hc 3 _ rfl
  · rw [Nat.add_assoc]; exact hc 4 _ rfl
  · rw [Nat.add_assoc]; exact hc 5 _ rfl
  · rw [Nat.add_assoc]; exact hc 6 _ rfl
  · rw [Nat.add_assoc]; exact hc 7 _ rfl
theorem RdN.take (h : RdN w A cap ns) (k : Nat) : RdN w A cap (ns.take k) := by
  refine ⟨by have := h.1; rw [List.length_take]; omega, fun hn => ?_⟩
  obtain ⟨b, o, e, hb, hc⟩ := h.2 (by rintro rfl; simp at hn)
  refine ⟨b, o, e, hb, fun q u hq => hc q u ?_⟩
  have e2 : ntc ns = ntc (ns.take k) ++ ntc (ns.drop k) := by rw [← ntc_append, List.take_append_drop]
  rw [e2, List.getElem?_append_left (List.getElem?_eq_some_iff.1 hq).1]
  exact hq
/-- A row of the call's own. -/
theorem RdN.of_row {lo : Nat} {e : TypeId} {v : Value} (h : w.ownsRow lo e 8 v ns.length (ntc ns)) : ∃ A cap, v = .slice A ns.length cap ∧ RdN w A cap ns := by
  obtain ⟨hl, ⟨rfl, hn⟩ | ⟨g, cap, cur, rfl, hb, hg, hn, hc, hs, ht⟩⟩ := h
  · obtain rfl : ns = [] := List.eq_nil_of_length_eq_zero hn
    exact ⟨none, 0, rfl, RdN.nil w⟩
  · refine ⟨_, cap, rfl, hn, fun _ => ⟨g, 0, rfl, lt_of_block hg, fun q u hq => ?_⟩⟩
    rw [Nat.zero_add, cell_of_row w g q cur _ _ hg]
    rw [← ht, List.getElem?_take] at hq
    split at hq
    · simpa using hq
    · cases hq
end
theorem lit_cells (x : Nd) (w : World) (t : TypeId) : ∀ (j : Nat) (u : Value), (ncells x).toList[j]? = some u → (w.alloc (.cells (ncells x) t)).cell? ((⟨w.heap.size, 0, none⟩ : Addr).add j) = some u := by
  intro j u hj
  rw [Addr.add_lit, Nat.zero_add, World.cell?_alloc_new]
  rw [Array.getElem?_toList] at hj
  exact hj
theorem lit_one (x : Nd) : ∀ u ∈ (ncells x).toList, u.oneCell' = true := by simp [Value.oneCell']
theorem row_keep {w w' : World} {lo size n : Nat} {e : TypeId} {v : Value} {xs : List Value} (h : w.ownsRow lo e size v n xs) (hs : Stp w w') : w'.ownsRow lo e size v n xs :=
  h.kept (row := none) ⟨hs.os, hs.tape, hs.output, hs.size, fun j hj _ => hs.block j hj⟩ (by cases v.ownBlock <;> simp)
theorem row_stp {w0 w w' : World} {lo size n : Nat} {e : TypeId} {v : Value} {xs : List Value} (h : w.ownsRow lo e size v n xs) (h0 : Stp w0 w) (hlo : w0.heap.size ≤ lo) (hg : w.grownBy w' v.ownBlock) : Stp w0 w' :=
  Below.grown h0 hg h0.size (fun j hj => Nat.le_trans hlo (h.lt j hj).1)
end Go.Proofs.YtieefnnfnimflaaGreat.Node
