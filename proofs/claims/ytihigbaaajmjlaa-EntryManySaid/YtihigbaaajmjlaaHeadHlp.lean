/-
  What the statements' walks share: no statement is proved here.
-/
import Derived.Test.YtihigbaaajmjlaaHeadEq
import Derived.Test.YtihigbaaajmjlaaHeadM3
namespace Go.Proofs.Ytihigbaaajmjlaa.Head
open Go.RowKit Go.Proofs.Ytihigbaaajmjlaa.Base Go.Proofs.Ytihigbaaajmjlaa.NumM Go.Proofs.Ytihigbaaajmjlaa.Num

theorem noGuard : Try.prog.eqGuardType Try.prog.depth 27 = false := by kernel_rfl
theorem putB_yes {h : Hd} (hm : mayH h = true) : putB h = blk h := by unfold putB; rw [if_pos hm]
theorem putB_no {h : Hd} (hm : mayH h = false) : putB h = [] := by unfold putB; rw [if_neg (by simp [hm])]
theorem byte_at {w : World} {A : Option Addr} {c : Nat} {l : L} (h : RdA w A c (bs l)) {j : Nat} {x : UInt8} (hx : l[j]? = some x) : ∃ b o, A = some ⟨b, o, none⟩ ∧ w.cell? ⟨b, o + j, none⟩ = some (.int .u8 (x.toNat : Int)) := by
  have hj := (List.getElem?_eq_some_iff.1 hx).1
  obtain ⟨b, o, rfl, hc⟩ := h.at_ (j := j) (by rw [bs_length]; exact hj)
  exact ⟨b, o, rfl, hc j _ (by rw [bs_at hj, ← (List.getElem?_eq_some_iff.1 hx).2])⟩
theorem hget_n (l : L) (A : Option Addr) (n c : Nat) (w : World) (ha : RdA w A c (bs l)) (hn : l.length = n) :
    Calls Try.prog 22 #[.slice A n c] w fun e w' => e = .returned (.tuple #[hv (getH l), .int .i64 (codeB l)]) ∧ Stp w w' := by
  subst hn
  exact hget_s l A c w ha
theorem sum_n (l : L) (A : Option Addr) (n c : Nat) (w : World) (ha : RdA w A c (bs l)) (hn : l.length = n) (hl : l.length < 9223372036854775808) :
    Calls Try.prog 82 #[.slice A n c] w fun e w' => e = .returned (.int .i64 (sumI l)) ∧ Stp w w' := by
  subst hn
  exact sum_s l A c w ha hl
theorem zeros_cells (n : Nat) : (bs (zeros n)).toArray = Array.replicate n (.int .u8 0) := by
  unfold zeros bs
  rw [List.map_replicate]
  rfl
/-- A row of the call's own, as a slice that is read. -/
theorem own_rdA {w : World} {lo g n cap : Nat} {l : L} (h : Base.Own w lo 5 (.slice (some ⟨g, 0, none⟩) n cap) (bs l)) (hn : l.length = n) : RdA w (some ⟨g, 0, none⟩) cap (bs l) := by
  subst hn
  have := h.rd
  unfold RdA
  rwa [bs_length]
theorem own_cell {w : World} {lo g n cap : Nat} {l : L} (h : Base.Own w lo 5 (.slice (some ⟨g, 0, none⟩) n cap) (bs l)) (hn : l.length = n) {i : Nat} {x : UInt8} (hx : l[i]? = some x) : w.cell? ⟨g, i, none⟩ = some (.int .u8 (x.toNat : Int)) := by
  obtain ⟨b, o, e, hc⟩ := byte_at (own_rdA h hn) hx
  simp only [Option.some.injEq, Addr.mk.injEq, and_true] at e
  obtain ⟨rfl, rfl⟩ := e
  rwa [Nat.zero_add] at hc
theorem stp_set {w w1 : World} {g : Nat} (hs : Stp w w1) (hg : w.heap.size ≤ g) (k : Nat) (v : Value) : Stp w (w1.setCell ⟨g, k, none⟩ v) := set_stp hs hg k v
end Go.Proofs.Ytihigbaaajmjlaa.Head
