/-
  Contracts of the document's answers for paths (package reelkeeperref02): no statement is proved here.
  Contracts of the document's answers for paths (package reelkeeperref02): Parts, Parent, Below, Join, Split, Texts: no statement is proved here.
-/
import Derived.Test.YtagkdodjffhlmaaPathK
namespace Go.Proofs.Ytagkdodjffhlmaa.Path
open Go.RowKit Go.Shelf Go.Proofs.Ytagkdodjffhlmaa.Base Go.Proofs.Ytagkdodjffhlmaa.PathM

/-- A text ahead of the first part. -/
def addF (s : L) : List L → List L
  | [] => [s]
  | p :: ps => (s ++ p) :: ps
theorem addF_nil {xs : List L} (h : xs ≠ []) : addF [] xs = xs := by
  cases xs with
  | nil => exact absurd rfl h
  | cons p ps => rfl
theorem addF_slash (s r : L) : addF s (pcs (47 :: r)) = [s] ++ addF [] (pcs r) := by rw [pcs_slash, addF_nil (pcs_ne r)]; simp [addF]
theorem addF_step {c : UInt8} (h : c ≠ 47) (s r : L) : addF s (pcs (c :: r)) = addF (s ++ [c]) (pcs r) := by
  obtain ⟨p, ps, h1, h2⟩ := pcs_cons h r
  rw [h1, h2]
  simp [addF]

theorem cut_lh (p : L) (k : Nat) (c : UInt8) (h : p[k]? = some c) (w : World) : (Instr.slice 9 (.string ⟨p.toArray⟩) (some (.int .i64 (k : Int))) (some (.int .i64 ((k : Int) + 1))) none).run Try.prog w = .ok (.string ⟨#[c]⟩) w := by
  obtain ⟨hl, hc⟩ := List.getElem?_eq_some_iff.1 h
  have hs : (ByteArray.mk p.toArray).size = p.length := by simp [ByteArray.size]
  rw [run_slice_string (P := Try.prog) w 9 _ .i64 .i64 k ((k : Int) + 1) Try.underlying9 (by omega) (by omega) (by rw [hs]; omega)]
  have e : (ByteArray.mk p.toArray).extract k (k + 1) = ⟨#[c]⟩ := by
    have e2 : ((ByteArray.mk p.toArray).extract k (k + 1)).data.toList = [c] := by
      rw [ByteArray.data_extract, Array.toList_extract, List.extract_eq_take_drop, List.drop_eq_getElem_cons hl, hc]
      simp
    exact ba_eq e2
  rw [Int.toNat_natCast, show ((k : Int) + 1).toNat = k + 1 by omega, e]

end Go.Proofs.Ytagkdodjffhlmaa.Path

namespace Go.Proofs.Ytagkdodjffhlmaa.Path
open Go.RowKit Go.Shelf Go.Proofs.Ytagkdodjffhlmaa.Base Go.Proofs.Ytagkdodjffhlmaa.PathM

theorem prefB_take (q p : L) : prefB (q ++ [47]) p = (p.take (q.length + 1) == q ++ [47]) := by
  rw [prefB, Bool.eq_iff_iff, List.isPrefixOf_iff_prefix, beq_iff_eq, List.prefix_iff_eq_take, List.length_append, List.length_singleton]
  exact eq_comm
theorem prefB_short {q p : L} (h : ¬ q.length < p.length) : prefB (q ++ [47]) p = false := by
  rw [prefB, Bool.eq_false_iff]
  intro hp
  have := (List.isPrefixOf_iff_prefix.1 hp).length_le
  rw [List.length_append, List.length_singleton] at this
  omega

theorem firstCut_of {a b : L} (h : (47 : UInt8) ∉ a) : firstCut (a ++ 47 :: b) = some (a, b) := by
  induction a with
  | nil => rfl
  | cons c a ih =>
    simp only [List.mem_cons, not_or] at h
    rw [List.cons_append, firstCut, if_neg (fun e => h.1 e.symm), ih h.2]
theorem firstCut_one {a : L} (h : (47 : UInt8) ∉ a) : firstCut a = none := by
  induction a with
  | nil => rfl
  | cons c a ih =>
    simp only [List.mem_cons, not_or] at h
    rw [firstCut, if_neg (fun e => h.1 e.symm), ih h.2]

end Go.Proofs.Ytagkdodjffhlmaa.Path

