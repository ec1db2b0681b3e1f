/-
  The contract of package head's Get: no statement is proved here.
-/
import Derived.Test.YtcgdeeinnfkgkaaHeadGuess
namespace Go.Proofs.Ytcgdeeinnfkgkaa.Head
open Go.RowKit Go.Proofs.Ytcgdeeinnfkgkaa.Base Go.Proofs.Ytcgdeeinnfkgkaa.NumM Go.Proofs.Ytcgdeeinnfkgkaa.Num

/-- The cells of a header that is zero, and that they can be stored into. -/
theorem zy {w : World} {g : Nat} {t : TypeId} (hb : Blk w g t (hcells zeroH)) :
    ((w.cell? ⟨g, 0, none⟩ = some (.string ⟨#[]⟩) ∧ w.cell? ⟨g, 1, none⟩ = some (.string ⟨#[]⟩) ∧ w.cell? ⟨g, 2, none⟩ = some (.string ⟨#[]⟩) ∧ w.cell? ⟨g, 3, none⟩ = some (.int .i64 0) ∧ w.cell? ⟨g, 4, none⟩ = some (.int .i64 0) ∧ w.cell? ⟨g, 5, none⟩ = some (.int .i64 0) ∧
    w.cell? ⟨g, 6, none⟩ = some (.int .i64 0) ∧ w.cell? ⟨g, 7, none⟩ = some (.int .i64 0) ∧ w.cell? ⟨g, 8, none⟩ = some (.int .u8 0) ∧ w.cell? ⟨g, 9, none⟩ = some (.int .i64 0) ∧ w.cell? ⟨g, 10, none⟩ = some (.int .i64 0)) ∧
    (w.frozen? ⟨g, 0, none⟩ = false ∧ w.frozen? ⟨g, 1, none⟩ = false ∧ w.frozen? ⟨g, 2, none⟩ = false ∧ w.frozen? ⟨g, 3, none⟩ = false ∧ w.frozen? ⟨g, 4, none⟩ = false ∧ w.frozen? ⟨g, 5, none⟩ = false ∧ w.frozen? ⟨g, 6, none⟩ = false ∧ w.frozen? ⟨g, 7, none⟩ = false ∧ w.frozen? ⟨g, 8, none⟩ = false ∧ w.frozen? ⟨g, 9, none⟩ = false ∧ w.frozen? ⟨g, 10, none⟩ = false)) := by
  refine ⟨⟨?_, ?_, ?_, ?_, ?_, ?_, ?_, ?_, ?_, ?_, ?_⟩, ⟨hb.free 0, hb.free 1, hb.free 2, hb.free 3, hb.free 4, hb.free 5, hb.free 6, hb.free 7, hb.free 8, hb.free 9, hb.free 10⟩⟩ <;> (rw [hb.cell]; rfl)

theorem small_guess {l : L} (h : l.length = 512) : SmallH (guessH l) := by
  have hu : ∀ x : L, (upto x).length ≤ x.length := fun x => by
    have := congrArg List.length (upto_take x)
    rw [List.length_take] at this
    omega
  have h1 := hu (sub l 0 100)
  have h2 := hu (sub l 157 100)
  have h3 := hu (sub l 345 155)
  rw [sub_length (by omega)] at h1 h2 h3
  constructor <;> unfold guessH <;> simp only
  · omega
  · split
    · simp
    · omega
  · omega
  · exact (getV_range _).2
  · exact (getV_range _).2
  · exact (getV_range _).2
  · exact (getV_range _).2
  · exact (getV_range _).2
  · split
    · exact (getV_range _).2
    · omega
  · split
    · exact (getV_range _).2
    · omega
theorem blk_length {h : Hd} (hm : mayH h = true) (hs : SmallH h) : (blk h).length = 512 := by
  have h1 : (layAll (zeros 512) (txts h)).length = 512 := by rw [layAll_length (by rw [zeros_length]; exact ps_room hm), zeros_length]
  have h2 : (layAll (layAll (zeros 512) (txts h)) (numsL h)).length = 512 := by rw [layAll_length (by rw [h1]; exact nu_room hm hs), h1]
  have h3 : (rawH h).length = 512 := by
    unfold rawH
    rw [layAll_append, layAll_append]
    show (lay (lay _ 156 [h.ty]) 257 magic).length = 512
    rw [lay_length (by rw [lay_length (by rw [h2]; simp), h2]; decide), lay_length (by rw [h2]; simp), h2]
  unfold blk
  rw [lay_length (by rw [sumT_length, h3]; omega), h3]
theorem putB_eq {l : L} {h : Hd} (hl : l.length = 512) : (putB h == l) = decide (mayH h = true ∧ blk h = l) := by
  unfold putB
  by_cases hm : mayH h = true
  · rw [if_pos hm, Bool.eq_iff_iff, beq_iff_eq, decide_eq_true_eq]
    exact ⟨fun e => ⟨hm, e⟩, fun e => e.2⟩
  · rw [if_neg hm, Bool.eq_iff_iff, beq_iff_eq, decide_eq_true_eq]
    exact ⟨fun e => by rw [← e] at hl; simp at hl, fun e => absurd e.1 hm⟩
theorem slice148 (b o n c : Nat) (hc : 156 ≤ c) (w : World) : (Instr.slice 35 (.slice (some ⟨b, o, none⟩) n c) (some (.int .i64 148)) (some (.int .i64 156)) none).run Try.prog w = .ok (.slice (some ⟨b, o + 148, none⟩) 8 (c - 148)) w :=
  slice_lh b o n c 148 8 hc (by omega) w
theorem sliceAt148 (b o n c : Nat) (hc : 156 ≤ c) (w : World) : (Instr.sliceAt 35 (.slice (some ⟨b, o, none⟩) n c) (some (.int .i64 148)) (some (.int .i64 156)) none).run Try.prog w = .ok (.slice (some ⟨b, o + 148, none⟩) 8 (c - 148)) w :=
  sliceAt_lh b o n c 148 8 hc (by omega) w

end Go.Proofs.Ytcgdeeinnfkgkaa.Head
