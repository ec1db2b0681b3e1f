/-
  Contracts of the document's answers for blocks (package reelkeeperref03): May, Zero, Many, Same, Zeros, Cut, Text: no statement is proved here.
  Contracts of the document's answers for blocks (package reelkeeperref03): Zeros, Cut, Text: no statement is proved here.
-/
import Derived.Test.YthjdejjejlhioaaGreatDoorBlockK
namespace Go.Proofs.YthjdejjejlhioaaGreatDoor.Block
open Go.RowKit Go.Shelf Go.Proofs.YthjdejjejlhioaaGreatDoor.Base Go.Proofs.YthjdejjejlhioaaGreatDoor.BlockM Go.Proofs.YthjdejjejlhioaaGreatDoor.Str

set_option maxRecDepth 100000 in
set_option maxHeartbeats 1000000 in
theorem rsame_s (ls ms : List L) (A B : Option Addr) (c d : Nat) (w : World) (ha : RdL w A c ls) (hb : RdL w B d ms) (hl : ls.length < 9223372036854775808) (hm : ms.length < 9223372036854775808) :
    Calls Tryz.prog 15 #[.slice A ls.length c, .slice B ms.length d] w fun e w' => e = .returned (.bool (ls == ms)) ∧ Stp w w' := by
  have h0 := Stp.refl w
  by_cases hlen : ls.length = ms.length
  · have g0 : ((ls.length : Int) != (ms.length : Int)) = false := by simp [hlen]
    rw [← hlen]
    rw [← hlen] at g0
    obtain ⟨r, hr⟩ : ∃ r, (ls == ms) = r := ⟨_, rfl⟩
    rw [hr]
    have Hr := Lib.hid hr
    have Hlen := Lib.hid hlen
    clear hr hlen
    go_enter Tryz.func15, Tryz.ntmps15
    go_wp2_with fail
    go_loopw [5] (fun i wr => ∃ k : Nat, k ≤ ls.length ∧ i = .int .i64 k ∧ Stp w wr ∧ Hid (ls.take k = ms.take k)) (fun i _ => ls.length - (intOf i).toNat)
    case atStart => exact ⟨0, by omega, rfl, Stp.refl w, Lib.hid (by simp)⟩
    case round =>
      obtain ⟨k, hk, rfl, h0, Hk⟩ := hrel
      by_cases hlt : k < ls.length
      · obtain ⟨l, hl1⟩ : ∃ l, ls[k]? = some l := ⟨_, List.getElem?_eq_getElem hlt⟩
        obtain ⟨m, hm1⟩ : ∃ m, ms[k]? = some m := ⟨_, List.getElem?_eq_getElem (by rw [← Hlen.out]; exact hlt)⟩
        obtain ⟨b, o, A1, c1, rfl, ca, ra⟩ := (ha.keep h0).at_ hl1
        obtain ⟨b', o', B1, d1, rfl, cb, rb⟩ := (hb.keep h0).at_ hm1
        have hd : Stp wr wr.drew := Below.drew (Below.refl _ wr)
        have cv1 := str_rd (ra.keep hd)
        have cv2 := str_rd (rb.keep hd)
        have h1 := Stp.trans h0 hd
        clear hd
        have Hs := Lib.hid (take_succ_eq hl1 hm1 Hk.out)
        clear hl1 hm1 ra rb
        have i0 : (0 : Int) ≤ (k : Int) := by omega
        have i1 : (k : Int) < (ls.length : Int) := by omega
        cases he : (l == m)
        · have He := Lib.hid he
          have e : r = false := by
            rw [← Hr.out, beq_eq_false_iff_ne]
            rintro rfl
            have h := Hs.out.1 rfl
            have h2 := He.out
            rw [h] at h2
            simp at h2
          have E := Lib.hid e
          clear e
          go_wp2_with fail
          go_region
          all_goals go_wp2_with fail
          all_goals go_ret
          all_goals exact ⟨by rw [E.out]; rfl, h1⟩
        · have He := Lib.hid he
          go_wp2_with fail
          go_region
          all_goals go_wp2_with fail
          all_goals go_roundw
          all_goals first
            | exact ⟨k + 1, by omega, by go_num, h1, Lib.hid (Hs.out.2 (by simpa using He.out))⟩
            | (simp [intOf]; omega)
      · obtain rfl : k = ls.length := by omega
        go_wp2_with fail
        go_ret
        refine ⟨?_, h0⟩
        have e : r = true := by
          have h := Hk.out
          rw [List.take_length, Hlen.out, List.take_length] at h
          rw [← Hr.out, h]
          simp
        rw [e]
        rfl
  · have g0 : ((ls.length : Int) != (ms.length : Int)) = true := by simp; omega
    have e : (ls == ms) = false := by
      rw [beq_eq_false_iff_ne]
      rintro rfl
      exact hlen rfl
    rw [e]
    clear e
    go_enter Tryz.func15, Tryz.ntmps15
    go_wp2_with fail
    go_ret
    exact ⟨rfl, h0⟩
end Go.Proofs.YthjdejjejlhioaaGreatDoor.Block

namespace Go.Proofs.YthjdejjejlhioaaGreatDoor.Block
open Go.RowKit Go.Shelf Go.Proofs.YthjdejjejlhioaaGreatDoor.Base Go.Proofs.YthjdejjejlhioaaGreatDoor.BlockM Go.Proofs.YthjdejjejlhioaaGreatDoor.Str

/-- A row of the call's own that holds slices of blocks. -/
theorem blk_not_own {W : World} {g lo : Nat} {t e : TypeId} {cs : Array Value} {v : Value} {xs : List Value} (h : Blk W g t cs) (hte : t ≠ e) (hv : Base.Own W lo e v xs) : some g ≠ v.ownBlock := by
  rcases hv with ⟨rfl, _⟩ | ⟨g', cap, cur, fz, rfl, _, hg, _⟩
  · simp [Value.ownBlock]
  · simp only [Value.ownBlock]
    intro e'
    cases e'
    unfold Blk at h
    rw [hg] at h
    cases h
    exact hte rfl
/-- What is gathered so far. -/
structure Gath (lo : Nat) (w wr : World) (v : Value) (ys : List Handed) : Prop where
  own : Base.Own wr lo 57 v (ys.map val)
  held : ∀ x ∈ ys, Holds x wr
  below : Below lo w wr
theorem Gath.start (w : World) : Gath w.heap.size w w (.slice none 0 0) [] := ⟨Base.Own.nil _ _ _, by simp, Below.refl _ _⟩
/-- New memory is laid. -/
theorem Gath.grown {lo : Nat} {w wr w1 : World} {v : Value} {ys : List Handed} (h : Gath lo w wr v ys) (hlo : lo ≤ wr.heap.size) (hg : wr.grownBy w1 none) : Gath lo w w1 v ys :=
  ⟨h.own.grown hg (by simp; cases hv : v.ownBlock <;> simp), fun x hx => Blk.grown (h.held x hx) hg (by simp), h.below.grown hg hlo (by simp)⟩
/-- Nothing that was there is written. -/
theorem Gath.step {lo : Nat} {w wr w1 : World} {v : Value} {ys : List Handed} (h : Gath lo w wr v ys) (hlo : lo ≤ wr.heap.size) (hs : Stp wr w1) : Gath lo w w1 v ys :=
  ⟨h.own.keep hs, fun x hx => Blk.keep (h.held x hx) hs (Blk.lt (h.held x hx)), h.below.trans (Below.mono hs hlo)⟩
/-- One more is gathered: append of a literal of one slice. -/
theorem Gath.more {lo : Nat} {w wr w1 : World} {v v1 : Value} {ys : List Handed} {x : Handed} {o : Obj} (h : Gath lo w wr v ys) (hx : Holds x wr) (hlo : lo ≤ wr.heap.size)
    (hv : Base.Own w1 lo 57 v1 (ys.map val ++ [.slice (some ⟨x.1, 0, none⟩) 512 512])) (hg : (wr.alloc o).grownBy w1 v.ownBlock) : Gath lo w w1 v1 (ys ++ [x]) := by
  refine ⟨by rw [List.map_append]; exact hv, fun y hy => ?_, (h.below.alloc hlo o).grown hg (by simp; omega) (fun j hj => (h.own.lt j hj).1)⟩
  have hy' : Holds y wr := by
    rcases List.mem_append.1 hy with h' | h'
    · exact h.held y h'
    · rw [List.mem_singleton.1 h']
      exact hx
  exact Blk.grown (Blk.alloc hy' o) hg (blk_not_own hy' (by decide) h.own)

/-- The first j bytes of a block are there. -/
def part (r : L) (j : Nat) : L := r.take j ++ noughts (512 - j)
end Go.Proofs.YthjdejjejlhioaaGreatDoor.Block

