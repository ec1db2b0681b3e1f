/-
  The statements' example, awake: no statement is proved here.
-/
import Derived.Test.YtaknnkcfoafkdaaTapeI
import Derived.Deep.RegionLaw
import Derived.Deep.Cut
namespace Go.Proofs.Ytaknnkcfoafkdaa.Tape
open Go.RowKit Go.Proofs.Ytaknnkcfoafkdaa.Str Go.Proofs.Ytaknnkcfoafkdaa.Base Go.Proofs.Ytaknnkcfoafkdaa.BlockM Go.Proofs.Ytaknnkcfoafkdaa.RecM Go.Proofs.Ytaknnkcfoafkdaa.TapeM

theorem mk_zs {zs : Array Value} (hzs : Array.replicate 512 (Value.int .u8 0) = zs) (W : World) :
    (Instr.makeSlice 25 (.int .i64 512) (.int .i64 512)).run Try.prog W = .ok (.slice (some ⟨W.heap.size, 0, none⟩) 512 512) (W.alloc (.cells zs 5)) := by
  rw [← hzs]
  exact run_make_blk (P := Try.prog) W 25 5 (.int .u8 0) 1 Try.underlying25 byte_info1 rfl .i64 .i64 512 (by omega) (by unfold maxLen; omega)
/-- What make lays. -/
theorem mk_at {zs : Array Value} {z : L} (hzs : Array.replicate 512 (Value.int .u8 0) = zs) (hz : noughts 512 = z) (W : World) : RdA (W.alloc (.cells zs 5)) (some ⟨W.heap.size, 0, none⟩) 512 (bs z) := by
  subst hzs
  exact blk_z hz (Blk.new W 5 (Array.replicate 512 (.int .u8 0)))

theorem far_fill {w W2 w9 : World} {g p : Nat} {c : Int} {A A2 : Option Addr} {n k k2 : Nat} {m : Bool} {ls : List L} (hb : Blk W2 g 41 (tcs c A n k m)) (hc : Clear g W2 A k ls) (h0 : Stp w W2) (hk : Stp W2 w9) (hp : W2.heap.size ≤ p) :
    Blk (fillT w9 p 1 A2 1 k2 false) g 41 (tcs c A n k m) ∧ Clear g (fillT w9 p 1 A2 1 k2 false) A k ls ∧ Stp w (fillT w9 p 1 A2 1 k2 false) := by
  have h := fillt_stp 1 A2 1 k2 false hk hp
  exact ⟨hb.keep h hb.lt, hc.keep h, Stp.trans h0 h⟩

end Go.Proofs.Ytaknnkcfoafkdaa.Tape
