/-
  The document's block of a header: no statement is proved here.
  The document's own answers for package head: guess; no statement is proved here.
  The document's own answers for package head: Get; no statement is proved here.
-/
import Derived.Test.YtagkdodjffhlmaaHeadRefE
import Derived.Test.YtagkdodjffhlmaaHeadRefN
import Derived.Test.YtagkdodjffhlmaaBlockRef
namespace Go.Proofs.Ytagkdodjffhlmaa.Head
open Go.RowKit Go.Proofs.Ytagkdodjffhlmaa.Base Go.Proofs.Ytagkdodjffhlmaa.NumM Go.Proofs.Ytagkdodjffhlmaa.Num

end Go.Proofs.Ytagkdodjffhlmaa.Head

namespace Go.Proofs.Ytagkdodjffhlmaa.Head
open Go.RowKit Go.Proofs.Ytagkdodjffhlmaa.Base Go.Proofs.Ytagkdodjffhlmaa.NumM Go.Proofs.Ytagkdodjffhlmaa.Num

theorem rd_head {w : World} {b o c : Nat} {l : L} (h : RdA w (some ⟨b, o, none⟩) c (bs l)) (hn : 100 ≤ l.length) : Rd w w.heap.size (.slice (some ⟨b, o, none⟩) 100 c) (bs (sub l 0 100)) := by
  have := rd_sub h (i := 0) (n := 100) (by omega)
  rwa [Nat.add_zero, Nat.sub_zero] at this
theorem slice_hd (b o n c : Nat) (hc : 100 ≤ c) (w : World) : (Instr.slice 40 (.slice (some ⟨b, o, none⟩) n c) none (some (.int .i64 100)) none).run Try.prog w = .ok (.slice (some ⟨b, o, none⟩) 100 c) w := by
  have he : Try.prog.elem 40 = 5 := by kernel_rfl
  have hs : (sizeOf 5).run Try.prog w = .ok 1 w := by
    have hi : (Try.prog.info? 5).map (·.size) = some 1 := by kernel_rfl
    cases hq : Try.prog.info? 5 with
    | none => simp [hq] at hi
    | some i =>
      have : i.size = 1 := by simpa [hq] using hi
      simp [sizeOf, typeInfo, hq, this]
  rw [run_slice_h (P := Try.prog) w 40 _ _ _ (by rw [he]; exact Try.underlying40) .i64 100 (by omega) (by omega), he, hs]
  simp only [Result.andThen_ok, sliced]
  simp
  intro _
  rw [Addr.add_lit, Nat.add_zero]
theorem slice_lit (b o n c i m : Nat) (lo hj : Int) (h1 : lo = (i : Int)) (h2 : hj = (i : Int) + (m : Int)) (hi : i + m ≤ c) (hm : 0 < m) (w : World) : (Instr.slice 40 (.slice (some ⟨b, o, none⟩) n c) (some (.int .i64 lo)) (some (.int .i64 hj)) none).run Try.prog w = .ok (.slice (some ⟨b, o + i, none⟩) m (c - i)) w := by
  subst h1 h2
  exact slice_lh b o n c i m hi hm w

/-- The header while it is read. -/
def gR (b : L) (t : UInt8) (m : Bool) (k : Nat) : Hd :=
  { name := upto (sub b 0 100), pre := cond m [] (if 5 < k then upto (sub b 345 155) else []), link := upto (sub b 157 100), ty := t,
    mode := if 0 < k then getV (sub b 100 8) else 0, uid := if 1 < k then getV (sub b 108 8) else 0, gid := if 2 < k then getV (sub b 116 8) else 0, size := if 3 < k then getV (sub b 124 12) else 0, time := if 4 < k then getV (sub b 136 12) else 0,
    off := cond m (if 5 < k then getV (sub b 369 12) else 0) 0, real := cond m (if 6 < k then getV (sub b 483 12) else 0) 0 }
theorem gR_end (b : L) (t : UInt8) (ht : (sub b 156 1).headD 0 = t) : (t = 77 → gR b t true 7 = guessH b) ∧ (t ≠ 77 → gR b t false 6 = guessH b) := by
  unfold guessH gR
  rw [ht]
  constructor
  · intro h; simp [h]
  · intro h; simp [h]
theorem gR_0 {w : World} {g : Nat} {ty : TypeId} {b : L} {t : UInt8} {m : Bool} (h : Blk w g ty (hcells (gR b t m 0))) : Blk (w.setCell ⟨g, 3, none⟩ (.int .i64 (getV (sub b 100 8)))) g ty (hcells (gR b t m 1)) := h.put 3 (.int .i64 (getV (sub b 100 8)))
theorem gR_1 {w : World} {g : Nat} {ty : TypeId} {b : L} {t : UInt8} {m : Bool} (h : Blk w g ty (hcells (gR b t m 1))) : Blk (w.setCell ⟨g, 4, none⟩ (.int .i64 (getV (sub b 108 8)))) g ty (hcells (gR b t m 2)) := h.put 4 (.int .i64 (getV (sub b 108 8)))
theorem gR_2 {w : World} {g : Nat} {ty : TypeId} {b : L} {t : UInt8} {m : Bool} (h : Blk w g ty (hcells (gR b t m 2))) : Blk (w.setCell ⟨g, 5, none⟩ (.int .i64 (getV (sub b 116 8)))) g ty (hcells (gR b t m 3)) := h.put 5 (.int .i64 (getV (sub b 116 8)))
theorem gR_3 {w : World} {g : Nat} {ty : TypeId} {b : L} {t : UInt8} {m : Bool} (h : Blk w g ty (hcells (gR b t m 3))) : Blk (w.setCell ⟨g, 6, none⟩ (.int .i64 (getV (sub b 124 12)))) g ty (hcells (gR b t m 4)) := h.put 6 (.int .i64 (getV (sub b 124 12)))
theorem gR_4 {w : World} {g : Nat} {ty : TypeId} {b : L} {t : UInt8} {m : Bool} (h : Blk w g ty (hcells (gR b t m 4))) : Blk (w.setCell ⟨g, 7, none⟩ (.int .i64 (getV (sub b 136 12)))) g ty (hcells (gR b t m 5)) := h.put 7 (.int .i64 (getV (sub b 136 12)))
theorem gR_5m {w : World} {g : Nat} {ty : TypeId} {b : L} {t : UInt8} (h : Blk w g ty (hcells (gR b t true 5))) : Blk (w.setCell ⟨g, 9, none⟩ (.int .i64 (getV (sub b 369 12)))) g ty (hcells (gR b t true 6)) := h.put 9 (.int .i64 (getV (sub b 369 12)))

theorem fin_m {w : World} {g : Nat} {ty : TypeId} {b : L} {t : UInt8} {H : Hd} (h : Blk w g ty (hcells (gR b t true 6))) (e : gR b t true 7 = H) : w.cell? ⟨g, 0, none⟩ = some (.string ⟨H.name.toArray⟩) ∧ w.cell? ⟨g, 1, none⟩ = some (.string ⟨H.pre.toArray⟩) ∧ w.cell? ⟨g, 2, none⟩ = some (.string ⟨H.link.toArray⟩) ∧ w.cell? ⟨g, 3, none⟩ = some (.int .i64 H.mode) ∧ w.cell? ⟨g, 4, none⟩ = some (.int .i64 H.uid) ∧ w.cell? ⟨g, 5, none⟩ = some (.int .i64 H.gid) ∧ w.cell? ⟨g, 6, none⟩ = some (.int .i64 H.size) ∧ w.cell? ⟨g, 7, none⟩ = some (.int .i64 H.time) ∧ w.cell? ⟨g, 8, none⟩ = some (.int .u8 (H.ty.toNat : Int)) ∧ w.cell? ⟨g, 9, none⟩ = some (.int .i64 H.off) ∧ getV (sub b 483 12) = H.real := by
  subst e
  obtain ⟨x0, x1, x2, x3, x4, x5, x6, x7, x8, x9, x10⟩ := hd_cells h
  refine ⟨?_, ?_, ?_, ?_, ?_, ?_, ?_, ?_, ?_, ?_, ?_⟩
  · simpa [gR] using x0
  · simpa [gR] using x1
  · simpa [gR] using x2
  · simpa [gR] using x3
  · simpa [gR] using x4
  · simpa [gR] using x5
  · simpa [gR] using x6
  · simpa [gR] using x7
  · simpa [gR] using x8
  · simpa [gR] using x9
  · simp [gR]
theorem fin_n {w : World} {g : Nat} {ty : TypeId} {b : L} {t : UInt8} {H : Hd} (h : Blk w g ty (hcells (gR b t false 5))) (e : gR b t false 6 = H) : w.cell? ⟨g, 0, none⟩ = some (.string ⟨H.name.toArray⟩) ∧ w.cell? ⟨g, 2, none⟩ = some (.string ⟨H.link.toArray⟩) ∧ w.cell? ⟨g, 3, none⟩ = some (.int .i64 H.mode) ∧ w.cell? ⟨g, 4, none⟩ = some (.int .i64 H.uid) ∧ w.cell? ⟨g, 5, none⟩ = some (.int .i64 H.gid) ∧ w.cell? ⟨g, 6, none⟩ = some (.int .i64 H.size) ∧ w.cell? ⟨g, 7, none⟩ = some (.int .i64 H.time) ∧ w.cell? ⟨g, 8, none⟩ = some (.int .u8 (H.ty.toNat : Int)) ∧ w.cell? ⟨g, 9, none⟩ = some (.int .i64 H.off) ∧ w.cell? ⟨g, 10, none⟩ = some (.int .i64 H.real) ∧ upto (sub b 345 155) = H.pre := by
  subst e
  obtain ⟨x0, x1, x2, x3, x4, x5, x6, x7, x8, x9, x10⟩ := hd_cells h
  refine ⟨?_, ?_, ?_, ?_, ?_, ?_, ?_, ?_, ?_, ?_, ?_⟩
  · simpa [gR] using x0
  · simpa [gR] using x2
  · simpa [gR] using x3
  · simpa [gR] using x4
  · simpa [gR] using x5
  · simpa [gR] using x6
  · simpa [gR] using x7
  · simpa [gR] using x8
  · simpa [gR] using x9
  · simpa [gR] using x10
  · simp [gR]

end Go.Proofs.Ytagkdodjffhlmaa.Head

namespace Go.Proofs.Ytagkdodjffhlmaa.Head
open Go.RowKit Go.Proofs.Ytagkdodjffhlmaa.Base Go.Proofs.Ytagkdodjffhlmaa.NumM Go.Proofs.Ytagkdodjffhlmaa.Num

set_option linter.unusedSimpArgs false
end Go.Proofs.Ytagkdodjffhlmaa.Head

