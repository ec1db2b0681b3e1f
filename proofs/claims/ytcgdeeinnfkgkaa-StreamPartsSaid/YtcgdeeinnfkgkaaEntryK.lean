/-
  Contracts of package entry's own functions but Put: no statement is proved here.
-/
import Derived.Test.YtcgdeeinnfkgkaaEntryI
import Derived.Test.YtcgdeeinnfkgkaaNode
import Derived.Test.YtcgdeeinnfkgkaaLongK
import Derived.Test.YtcgdeeinnfkgkaaHeadGet
namespace Go.Proofs.Ytcgdeeinnfkgkaa.Entry
open Go.RowKit Go.Proofs.Ytcgdeeinnfkgkaa.Str Go.Proofs.Ytcgdeeinnfkgkaa.Base Go.Proofs.Ytcgdeeinnfkgkaa.Node Go.Proofs.Ytcgdeeinnfkgkaa.Head Go.Proofs.Ytcgdeeinnfkgkaa.Long
open Go.Proofs.Ytcgdeeinnfkgkaa.Tree (oneB)

/-- An entry as a value: the cells of a struct in a struct lie flat. -/
abbrev ev (n : Nd) : Value := nv n
def ofV (n : Nd) : Nd := if oneB n = true then n else zeroN
theorem ofV_yes {n : Nd} (h : oneB n = true) : ofV n = n := by rw [ofV, if_pos h]
theorem ofV_no {n : Nd} (h : oneB n = false) : ofV n = zeroN := by rw [ofV, if_neg (by simp [h])]

set_option maxRecDepth 100000 in
set_option maxHeartbeats 2000000 in
theorem of_s (n : Nd) (hn : SmallN n) (w : World) :
    Calls Try.prog 26 #[nv n] w fun e w' => e = .returned (.tuple #[ev (ofV n), .bool (oneB n)]) ∧ Stp w w' := by
  have h1 := Stp.alloc (Stp.refl w) (.cells (ncells n) 32)
  have h0 := Stp.alloc h1 (.cells (ncells zeroN) 53)
  have hw1 := h1.size
  have Hn := Lib.hid hn
  have Hb := Lib.hid ((Blk.new w 32 (ncells n)).alloc (.cells (ncells zeroN) 53))
  obtain ⟨gz, hgz⟩ : ∃ x, (w.alloc (.cells (ncells n) 32)).heap.size = x := ⟨_, rfl⟩
  have Hz0 := Blk.new (w.alloc (.cells (ncells n) 32)) 53 (ncells zeroN)
  rw [hgz] at Hz0 hw1
  have Hz := Lib.hid Hz0
  obtain ⟨q0, q1, q2, q3, q4, q5, q6, q7⟩ := nd_cells (Blk.new w 32 (ncells n))
  clear hn Hz0 h1
  obtain ⟨o, ho⟩ : ∃ o, oneB n = o := ⟨_, rfl⟩
  obtain ⟨z, hz⟩ : ∃ z, ofV n = z := ⟨_, rfl⟩
  have hzz : z = if o = true then n else zeroN := by rw [← hz, ← ho]; rfl
  rw [ho, hz]
  have Ho := Lib.hid ho
  have Hzz := Lib.hid hzz
  clear ho hz hzz
  go_enter Try.func26, Try.ntmps26
  go_wp2_with (go_at_call 35; go_loud ((with_reducible refine (Tree.tone_s n Hn.out _).mono ?_); rintro e w1 ⟨rfl, hs⟩; rw [Ho.out]; replace h0 := Stp.trans h0 hs; replace Hb := Lib.hid (Hb.out.keep hs Hb.out.lt); replace Hz := Lib.hid (Hz.out.keep hs Hz.out.lt); clear hs q0 q1 q2 q3 q4 q5 q6 q7; obtain ⟨q0, q1, q2, q3, q4, q5, q6, q7⟩ := nd_cells Hb.out; obtain ⟨⟨z0, z1, z2, z3, z4, z5, z6, z7⟩, y0, y1, y2, y3, y4, y5, y6, y7⟩ := nzy Hz.out))
  · have ho : o = false := by simpa using ‹(!o) = true›
    subst ho
    have hz := Hzz.out
    rw [if_neg (by decide)] at hz
    subst hz
    have hf := filln_blk zeroN Hz.out
    have hst := filln_stp zeroN h0 hw1
    change bodyPost _ _ _ _ _ (fillN w1 gz zeroN)
    generalize fillN w1 gz zeroN = W at hf hst ⊢
    clear z0 z1 z2 z3 z4 z5 z6 z7 y0 y1 y2 y3 y4 y5 y6 y7
    obtain ⟨z0, z1, z2, z3, z4, z5, z6, z7⟩ := nd_cells hf
    refine bodyPost_ret (v := .tuple #[ev zeroN, .bool false]) (by simp [results, Try.results26, go_sem, *]) rfl ⟨rfl, hst⟩
  · have ho : o = true := by simpa using ‹(!o) = false›
    subst ho
    have hz := Hzz.out
    rw [if_pos rfl] at hz
    subst hz
    have hf := filln_blk z Hz.out
    have hst := filln_stp z h0 hw1
    change bodyPost _ _ _ _ _ (fillN w1 gz z)
    generalize fillN w1 gz z = W at hf hst ⊢
    clear z0 z1 z2 z3 z4 z5 z6 z7 y0 y1 y2 y3 y4 y5 y6 y7
    obtain ⟨z0, z1, z2, z3, z4, z5, z6, z7⟩ := nd_cells hf
    refine bodyPost_ret (v := .tuple #[ev z, .bool true]) (by simp [results, Try.results26, go_sem, *]) rfl ⟨rfl, hst⟩

set_option maxRecDepth 100000 in
set_option maxHeartbeats 4000000 in
theorem header_s (n : Nd) (hn : SmallN n) (w : World) :
    Calls Try.prog 28 #[nv n] w fun e w' => e = .returned (hv (headE n)) ∧ Stp w w' := by
  have h1 := Stp.alloc (Stp.refl w) (.cells (ncells n) 51)
  have h0 := Stp.alloc h1 (.cells (hcells zeroH) 59)
  have hw1 := h1.size
  have Hn := Lib.hid hn
  have Hb := Lib.hid ((Blk.new w 51 (ncells n)).alloc (.cells (hcells zeroH) 59))
  obtain ⟨gz, hgz⟩ : ∃ x, (w.alloc (.cells (ncells n) 51)).heap.size = x := ⟨_, rfl⟩
  have Hz0 := Blk.new (w.alloc (.cells (ncells n) 51)) 59 (hcells zeroH)
  rw [hgz] at Hz0 hw1
  have Hz := Lib.hid Hz0
  obtain ⟨q0, q1, q2, q3, q4, q5, q6, q7⟩ := nd_cells Hb.out
  obtain ⟨H, hH⟩ : ∃ H, headE n = H := ⟨_, rfl⟩
  have HH := Lib.hid hH
  rw [hH]
  clear hn Hz0 h1 hH
  go_enter Try.func28, Try.ntmps28
  go_wp2_with (go_at_call 50; go_loud ((with_reducible refine (names_s n Hn.out _).mono ?_); rintro e w1 ⟨rfl, hs⟩; replace h0 := Stp.trans h0 hs; replace Hb := Lib.hid (Hb.out.keep hs Hb.out.lt); replace Hz := Lib.hid (Hz.out.keep hs Hz.out.lt); clear hs q0 q1 q2 q3 q4 q5 q6 q7; obtain ⟨q0, q1, q2, q3, q4, q5, q6, q7⟩ := nd_cells Hb.out; obtain ⟨⟨z0, z1, z2, z3, z4, z5, z6, z7, z8, z9, z10⟩, y0, y1, y2, y3, y4, y5, y6, y7, y8, y9, y10⟩ := zy Hz.out))
  have hH2 := HH.out
  have hf := fill_blk H Hz.out
  have hst := fill_stp H h0 hw1
  subst hH2
  change bodyPost _ _ _ _ _ (fillW w1 gz (headE n))
  generalize fillW w1 gz (headE n) = W at hf hst ⊢
  clear z0 z1 z2 z3 z4 z5 z6 z7 z8 z9 z10 y0 y1 y2 y3 y4 y5 y6 y7 y8 y9 y10
  obtain ⟨z0, z1, z2, z3, z4, z5, z6, z7, z8, z9, z10⟩ := hd_cells hf
  refine bodyPost_ret (v := hv (headE n)) (by simp [results, Try.results28, go_sem, *]) rfl ⟨rfl, hst⟩

theorem zero_small : SmallN zeroN := by constructor <;> simp [zeroN]
theorem of_small {n : Nd} (hn : SmallN n) : SmallN (ofV n) := by
  unfold ofV
  split
  · exact hn
  · exact zero_small
theorem data_of (n : Nd) : BlockM.manyN (ofV n).data.length = dataE n := by
  unfold ofV dataE
  split
  · rfl
  · rfl

set_option maxRecDepth 100000 in
set_option maxHeartbeats 2000000 in
theorem edata_s (n : Nd) (hn : SmallN n) (w : World) :
    Calls Try.prog 21 #[nv n] w fun e w' => e = .returned (.int .i64 (dataE n : Int)) ∧ Stp w w' := by
  have h0 := Stp.alloc (Stp.refl w) (.cells (ncells n) 32)
  have Hn := Lib.hid hn
  have Hb := Lib.hid (Blk.new w 32 (ncells n))
  obtain ⟨q0, q1, q2, q3, q4, q5, q6, q7⟩ := nd_cells Hb.out
  have Hd := Lib.hid (data_of n)
  have Hz := Lib.hid (of_small hn)
  obtain ⟨z, hz⟩ : ∃ z, ofV n = z := ⟨_, rfl⟩
  rw [hz] at Hd Hz
  have Ho := Lib.hid hz
  clear hn hz
  go_enter Try.func21, Try.ntmps21
  go_wp2_with (first
    | (go_at_call 26; (with_reducible refine (of_s n Hn.out _).mono ?_); rintro e w1 ⟨rfl, hs⟩; rw [Ho.out]; replace h0 := Stp.trans h0 hs; clear hs)
    | (go_at_call 33; (with_reducible refine (Block.many_s (z.data.length : Int) _ (by have := Hz.out.data; omega) (by omega)).mono ?_); rintro e w2 ⟨rfl, hs⟩; rw [BlockM.manyV_nat, Hd.out]; replace h0 := Stp.trans (Stp.alloc h0 _) hs; clear hs))
  all_goals go_ret
  all_goals exact ⟨rfl, h0⟩
end Go.Proofs.Ytcgdeeinnfkgkaa.Entry
