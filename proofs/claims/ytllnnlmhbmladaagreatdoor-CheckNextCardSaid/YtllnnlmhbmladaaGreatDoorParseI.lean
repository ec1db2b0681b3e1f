/-
  What the walks of package parse's laws ask of its code, the chapter's example, and has a state few bytes: no statement is proved here.
  A state's cells, free to be written, and stored one behind another: no statement is proved here.
  The walk of the statement ParseStays over package parse's contracts: the statement itself is proved in a text of its own.
-/
import Derived.Test.YtllnnlmhbmladaaGreatDoorParseM
import Derived.Test.YtllnnlmhbmladaaGreatDoorEvs
import Derived.Test.YtllnnlmhbmladaaGreatDoorLongTx
import Derived.Test.YtllnnlmhbmladaaGreatDoorBlockK
import Derived.Test.YtllnnlmhbmladaaGreatDoorEntryI
import Derived.BigQuiet
import Derived.Deep.QuietTactic
namespace Go.Proofs.YtllnnlmhbmladaaGreatDoor.Parse
open Go.RowKit Go.Proofs.YtllnnlmhbmladaaGreatDoor.Str Go.Proofs.YtllnnlmhbmladaaGreatDoor.Base Go.Proofs.YtllnnlmhbmladaaGreatDoor.Node Go.Proofs.YtllnnlmhbmladaaGreatDoor.Long
open Go.Proofs.YtllnnlmhbmladaaGreatDoor.Tree (oneB)

/-- A state that lies in a block. -/
theorem st_cells {w : World} {g : Nat} {t : TypeId} {s : St} (hb : Blk w g t (scells s)) :
    w.cell? ⟨g, 0, none⟩ = some (.int .i64 s.phase) ∧ w.cell? ⟨g, 1, none⟩ = some (.string ⟨s.node.path.toArray⟩) ∧ w.cell? ⟨g, 2, none⟩ = some (.string ⟨s.node.link.toArray⟩) ∧ w.cell? ⟨g, 3, none⟩ = some (.int .u8 (s.node.kind.toNat : Int)) ∧ w.cell? ⟨g, 4, none⟩ = some (.int .i64 s.node.mode) ∧
    w.cell? ⟨g, 5, none⟩ = some (.int .i64 s.node.uid) ∧ w.cell? ⟨g, 6, none⟩ = some (.int .i64 s.node.gid) ∧ w.cell? ⟨g, 7, none⟩ = some (.int .i64 s.node.time) ∧ w.cell? ⟨g, 8, none⟩ = some (.string ⟨s.node.data.toArray⟩) ∧ w.cell? ⟨g, 9, none⟩ = some (.int .i64 s.size) ∧ w.cell? ⟨g, 10, none⟩ = some (.int .i64 s.left) ∧
    w.cell? ⟨g, 11, none⟩ = some (.string ⟨s.text.toArray⟩) ∧ w.cell? ⟨g, 12, none⟩ = some (.string ⟨s.name.toArray⟩) ∧ w.cell? ⟨g, 13, none⟩ = some (.string ⟨s.link.toArray⟩) := by
  refine ⟨?_, ?_, ?_, ?_, ?_, ?_, ?_, ?_, ?_, ?_, ?_, ?_, ?_, ?_⟩ <;> (rw [hb.cell]; rfl)

/-- Has a state few bytes? -/
def fewS (s : St) : Bool := fewN s.node && (decide (s.text.length ≤ 400) && (decide (s.name.length ≤ 400) && decide (s.link.length ≤ 400)))
set_option maxRecDepth 100000 in
set_option maxHeartbeats 1000000 in
theorem fews_s (s : St) (w : World) : Calls Tryz.prog 7 #[sv s] w fun e w' => e = .returned (.bool (fewS s)) ∧ Stp w w' := by
  have h0 := Stp.alloc (Stp.refl w) (.cells (scells s) 25)
  have Hb := Lib.hid (Blk.new w 25 (scells s))
  obtain ⟨q0, q1, q2, q3, q4, q5, q6, q7, q8, q9, q10, q11, q12, q13⟩ := st_cells Hb.out
  obtain ⟨F, hF⟩ : ∃ x, fewN s.node = x := ⟨_, rfl⟩
  have HF := Lib.hid hF
  unfold fewS
  rw [hF]
  clear hF
  go_enter Tryz.func7, Tryz.ntmps7
  go_wp2_with (go_at_call 16; (with_reducible refine (Long.few_s s.node _).mono ?_); rintro e w1 ⟨rfl, hs⟩; rw [HF.out]; replace Hb := Lib.hid (Hb.out.keep hs Hb.out.lt); replace h0 := Stp.trans h0 hs; clear hs q0 q1 q2 q3 q4 q5 q6 q7 q8 q9 q10 q11 q12 q13; obtain ⟨q0, q1, q2, q3, q4, q5, q6, q7, q8, q9, q10, q11, q12, q13⟩ := st_cells Hb.out)
  all_goals go_ret
  all_goals refine ⟨congrArg (fun b => Ending.returned (.bool b)) ?_, h0⟩
  all_goals rw [Bool.eq_iff_iff]
  all_goals simp only [Bool.and_eq_true, decide_eq_true_eq]
  all_goals first | omega | (simp_all; done) | (simp_all; omega)

/-! ### the chapter's example -/
theorem zero_sv : Value.agg #[.int .i64 0, .string ⟨#[]⟩, .string ⟨#[]⟩, .int .u8 0, .int .i64 0, .int .i64 0, .int .i64 0, .int .i64 0, .string ⟨#[]⟩, .int .i64 0, .int .i64 0, .string ⟨#[]⟩, .string ⟨#[]⟩, .string ⟨#[]⟩] = sv zeroS := rfl
end Go.Proofs.YtllnnlmhbmladaaGreatDoor.Parse

namespace Go.Proofs.YtllnnlmhbmladaaGreatDoor.Ends
open Go.RowKit Go.Proofs.YtllnnlmhbmladaaGreatDoor.Str Go.Proofs.YtllnnlmhbmladaaGreatDoor.Base Go.Proofs.YtllnnlmhbmladaaGreatDoor.Node Go.Proofs.YtllnnlmhbmladaaGreatDoor.Parse

end Go.Proofs.YtllnnlmhbmladaaGreatDoor.Ends

namespace Go.Proofs.YtllnnlmhbmladaaGreatDoor.Parse
open Go.RowKit Go.Proofs.YtllnnlmhbmladaaGreatDoor.Str Go.Proofs.YtllnnlmhbmladaaGreatDoor.Base Go.Proofs.YtllnnlmhbmladaaGreatDoor.Node Go.Proofs.YtllnnlmhbmladaaGreatDoor.Long
open Go.Proofs.YtllnnlmhbmladaaGreatDoor.Tree (oneB)

end Go.Proofs.YtllnnlmhbmladaaGreatDoor.Parse

