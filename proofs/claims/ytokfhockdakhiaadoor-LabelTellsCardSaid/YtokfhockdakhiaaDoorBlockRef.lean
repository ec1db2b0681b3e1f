/-
  Contracts of the document's answers for blocks (package reelkeeperref03): May, Zero, Many, Same, Zeros, Cut, Text: no statement is proved here.
  Contracts of the document's answers for blocks (package reelkeeperref03): Zeros, Cut, Text: no statement is proved here.
-/
import Derived.Test.YtokfhockdakhiaaDoorBlockK
namespace Go.Proofs.YtokfhockdakhiaaDoor.Block
open Go.RowKit Go.Shelf Go.Proofs.YtokfhockdakhiaaDoor.Base Go.Proofs.YtokfhockdakhiaaDoor.BlockM Go.Proofs.YtokfhockdakhiaaDoor.Str

set_option maxRecDepth 100000 in
theorem rzero_s (l : L) (A : Option Addr) (c : Nat) (w : World) (ha : RdA w A c (bs l)) (hl : l.length < 9223372036854775808) :
    Calls Tryd.prog 43 #[.slice A l.length c] w fun e w' => e = .returned (.bool (zeroV l)) ∧ Stp w w' := by
  obtain ⟨r, hr⟩ : ∃ r, zeroV l = r := ⟨_, rfl⟩
  rw [hr]
  have Hr := Lib.hid hr
  clear hr
  go_enter Tryd.func43, Tryd.ntmps43
  go_wp2_with fail
  go_loopw [3] (fun i wr => ∃ k : Nat, k ≤ l.length ∧ i = .int .i64 k ∧ Stp w wr ∧ Hid (zeroV (l.take k) = true)) (fun i _ => l.length - (intOf i).toNat)
  case atStart => exact ⟨0, by omega, rfl, Stp.refl w, Lib.hid (by simp [zeroV])⟩
  case round =>
    obtain ⟨k, hk, rfl, h0, Hk⟩ := hrel
    by_cases hlt : k < l.length
    · obtain ⟨x, hl1⟩ : ∃ x, l[k]? = some x := ⟨_, List.getElem?_eq_getElem hlt⟩
      obtain ⟨b, o, rfl, hcell⟩ := (ha.keep h0).at_ (j := k) (by rw [bs_length]; exact hlt)
      have ca := hcell k (.int .u8 (x.toNat : Int)) (by rw [bs_at hlt, ← (List.getElem?_eq_some_iff.1 hl1).2])
      have Hs := Lib.hid (zeroV_step hl1 Hk.out)
      have Hl1 := Lib.hid hl1
      clear hl1 hcell
      by_cases h5 : x = 0
      · have g : ((x.toNat : Int) != 0) = false := by simp [h5]
        have H5 := Lib.hid h5
        clear h5
        go_wp2_with fail
        go_roundw
        case rel => exact ⟨k + 1, by omega, by go_num, h0, Lib.hid (by rw [Hs.out]; exact decide_eq_true H5.out)⟩
        case measure => simp [intOf]; omega
      · have g : ((x.toNat : Int) != 0) = true := by
          rw [bne_iff_ne]
          intro h
          exact h5 (UInt8.toNat_inj.1 (by show x.toNat = 0; omega))
        have H5 := Lib.hid h5
        clear h5
        go_wp2_with fail
        go_ret
        refine ⟨?_, h0⟩
        rw [← Hr.out, zeroV_no Hl1.out H5.out]
        rfl
    · obtain rfl : k = l.length := by omega
      go_wp2_with fail
      go_ret
      refine ⟨?_, h0⟩
      have h := Hk.out
      rw [List.take_length] at h
      rw [← Hr.out, h]
      rfl

end Go.Proofs.YtokfhockdakhiaaDoor.Block

namespace Go.Proofs.YtokfhockdakhiaaDoor.Block
open Go.RowKit Go.Shelf Go.Proofs.YtokfhockdakhiaaDoor.Base Go.Proofs.YtokfhockdakhiaaDoor.BlockM Go.Proofs.YtokfhockdakhiaaDoor.Str

/-- A row of the call's own that holds slices of blocks. -/
theorem blk_not_own {W : World} {g lo : Nat} {t e : TypeId} {cs : Array Value} {v : Value} {xs : List Value} (h : Blk W g t cs) (hte : t ≠ e) (hv : Base.Own W lo e v xs) : some g ≠ v.ownBlock := by
  rcases hv with ⟨rfl, _⟩ | ⟨g', cap, cur, fz, rfl, _, hg, _⟩
  · simp [Value.ownBlock]
  · simp only [Value.ownBlock]
    intro e'
    cases e'
    unfold Blk at h
    rw [hg] at h
    cases h
    exact hte rfl
theorem gathered_own {W : World} {lo : Nat} {v : Value} {ys : List Handed} {bl : List L} (hr : Base.Own W lo 22 v (ys.map val)) (hh : ∀ x ∈ ys, Holds x W) (he : ys.map (·.2) = bl) (h5 : ∀ b ∈ bl, b.length = 512) :
    ∃ A cap, v = .slice A bl.length cap ∧ RdL W A cap bl := by
  obtain ⟨A, cap, h1, h2⟩ := gathered hr.rd hh he h5
  exact ⟨A, cap, h1, h2.rdL⟩

/-- What is gathered so far. -/
structure Gath (lo : Nat) (w wr : World) (v : Value) (ys : List Handed) : Prop where
  own : Base.Own wr lo 22 v (ys.map val)
  held : ∀ x ∈ ys, Holds x wr
  below : Below lo w wr
theorem Gath.start (w : World) : Gath w.heap.size w w (.slice none 0 0) [] := ⟨Base.Own.nil _ _ _, by simp, Below.refl _ _⟩
/-- New memory is laid. -/
theorem Gath.grown {lo : Nat} {w wr w1 : World} {v : Value} {ys : List Handed} (h : Gath lo w wr v ys) (hlo : lo ≤ wr.heap.size) (hg : wr.grownBy w1 none) : Gath lo w w1 v ys :=
  ⟨h.own.grown hg (by simp; cases hv : v.ownBlock <;> simp), fun x hx => Blk.grown (h.held x hx) hg (by simp), h.below.grown hg hlo (by simp)⟩
/-- Nothing that was there is written. -/
theorem Gath.step {lo : Nat} {w wr w1 : World} {v : Value} {ys : List Handed} (h : Gath lo w wr v ys) (hlo : lo ≤ wr.heap.size) (hs : Stp wr w1) : Gath lo w w1 v ys :=
  ⟨h.own.keep hs, fun x hx => Blk.keep (h.held x hx) hs (Blk.lt (h.held x hx)), h.below.trans (Below.mono hs hlo)⟩
/-- One more is gathered: append of a literal of one slice. -/
theorem Gath.more {lo : Nat} {w wr w1 : World} {v v1 : Value} {ys : List Handed} {x : Handed} {o : Obj} (h : Gath lo w wr v ys) (hx : Holds x wr) (hlo : lo ≤ wr.heap.size)
    (hv : Base.Own w1 lo 22 v1 (ys.map val ++ [.slice (some ⟨x.1, 0, none⟩) 512 512])) (hg : (wr.alloc o).grownBy w1 v.ownBlock) : Gath lo w w1 v1 (ys ++ [x]) := by
  refine ⟨by rw [List.map_append]; exact hv, fun y hy => ?_, (h.below.alloc hlo o).grown hg (by simp; omega) (fun j hj => (h.own.lt j hj).1)⟩
  have hy' : Holds y wr := by
    rcases List.mem_append.1 hy with h' | h'
    · exact h.held y h'
    · rw [List.mem_singleton.1 h']
      exact hx
  exact Blk.grown (Blk.alloc hy' o) hg (blk_not_own hy' (by decide) h.own)

theorem noughts_arr (k : Nat) : (bs (noughts k)).toArray = Array.replicate k (Value.int .u8 0) := by simp [noughts, bs]
theorem replicate_snoc_eq {k : Nat} : List.replicate k (noughts 512) ++ [noughts 512] = List.replicate (k + 1) (noughts 512) := by rw [List.replicate_succ']

/-- The first j bytes of a block are there. -/
def part (r : L) (j : Nat) : L := r.take j ++ noughts (512 - j)
theorem part_start (r : L) : part r 0 = noughts 512 := rfl
theorem part_length {r : L} {j : Nat} (h1 : j ≤ 512) (h2 : j ≤ r.length) : (part r j).length = 512 := by rw [part, List.length_append, List.length_take, noughts_length]; omega
theorem part_set {r : L} {j : Nat} {c : UInt8} (h1 : j < 512) (hc : r[j]? = some c) : (part r j).set j c = part r (j + 1) := by
  have hj : j < r.length := (List.getElem?_eq_some_iff.1 hc).1
  obtain ⟨q, hq⟩ : ∃ q, 512 - j = q + 1 := ⟨511 - j, by omega⟩
  rw [part, part, hq, noughts, List.replicate_succ, List.set_append_right _ _ (by rw [List.length_take]; omega), List.length_take, Nat.min_eq_left (by omega), Nat.sub_self, List.set_cons_zero, List.take_add_one, hc,
    show 512 - (j + 1) = q by omega]
  simp [noughts]
theorem part_end {r : L} {j : Nat} (h : ¬ (j < 512 ∧ j < r.length)) (h1 : j ≤ 512) (h2 : j ≤ r.length) : part r j = blk r := by
  rw [part, blk]
  by_cases hj : j = 512
  · subst hj
    rw [show 512 - r.length = 0 by omega]
  · rw [List.take_of_length_le (by omega), List.take_of_length_le (by omega), show j = r.length by omega]

end Go.Proofs.YtokfhockdakhiaaDoor.Block

