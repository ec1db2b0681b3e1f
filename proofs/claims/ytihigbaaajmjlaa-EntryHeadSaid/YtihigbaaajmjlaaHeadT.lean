/-
  Contracts of package head: the lists of a header's texts and numbers: no statement is proved here.
-/
import Derived.Test.YtihigbaaajmjlaaProg
import Derived.Test.YtihigbaaajmjlaaStr
import Derived.Test.YtihigbaaajmjlaaNumAll
import Derived.Laws.StructEq
import Derived.BigRegion
namespace Go.Proofs.Ytihigbaaajmjlaa.Head
open Go.RowKit Go.Proofs.Ytihigbaaajmjlaa.Base

/-- Cells that lie one behind another from the head of a block on. -/
def RdC (w : World) (g : Nat) (cs : List Value) : Prop := g < w.heap.size ∧ ∀ j u, cs[j]? = some u → w.cell? ⟨g, j, none⟩ = some u
theorem RdC.of_blk {w : World} {g : Nat} {t : TypeId} {cs : Array Value} (h : Blk w g t cs) : RdC w g cs.toList := ⟨h.lt, fun j u hj => by rw [h.cell j]; simpa using hj⟩
theorem RdC.keep {w w' : World} {g : Nat} {cs : List Value} (h : RdC w g cs) (hs : Stp w w') : RdC w' g cs := ⟨Nat.lt_of_lt_of_le h.1 hs.size, fun j u hj => (hs.cell (p := ⟨g, j, none⟩) h.1).trans (h.2 j u hj)⟩
theorem RdC.grown {w w' : World} {g : Nat} {row : Option Nat} {cs : List Value} (h : RdC w g cs) (hs : w.grownBy w' row) (hn : some g ≠ row) : RdC w' g cs := by
  refine ⟨Nat.lt_of_lt_of_le h.1 hs.size, fun j u hj => ?_⟩
  have := h.2 j u hj
  unfold World.cell? at this ⊢
  rwa [hs.block g h.1 hn]

/-- A row of a header's list: a place, a number, a pointer to a part of the header. -/
def rowC (hb : Nat) (r : Int × Int × Nat) : List Value := [.int .i64 r.1, .int .i64 r.2.1, .pointer (some ⟨hb, r.2.2, none⟩)]
def rowsC (hb : Nat) (l : List (Int × Int × Nat)) : List Value := l.flatMap (rowC hb)
def txM : List (Int × Int × Nat) := [(0, 100, 0), (157, 100, 2)]
def txN : List (Int × Int × Nat) := [(0, 100, 0), (157, 100, 2), (345, 155, 1)]
def nuN : List (Int × Int × Nat) := [(100, 8, 3), (108, 8, 4), (116, 8, 5), (124, 12, 6), (136, 12, 7)]
def nuM : List (Int × Int × Nat) := [(100, 8, 3), (108, 8, 4), (116, 8, 5), (124, 12, 6), (136, 12, 7), (369, 12, 9), (483, 12, 10)]

theorem RdC.new (w : World) (g : Nat) (hg : g = w.heap.size) (cs : Array Value) (t : TypeId) (fr : Nat × Nat) (l : List Value) (z : Array Value) (h : cs = l.toArray ++ z) : RdC (w.alloc (.cells cs t fr)) g l := by
  subst hg h
  refine ⟨by simp, fun j u hj => ?_⟩
  rw [World.cell?_alloc_mark]
  have hjl := (List.getElem?_eq_some_iff.1 hj).1
  rw [Array.getElem?_append_left (by simpa using hjl)]
  simpa using hj
theorem RdC.new2 (w : World) (g : Nat) (hg : g = w.heap.size) (A B z : Array Value) (t : TypeId) (fr : Nat × Nat) (l : List Value) (h : A.toList ++ B.toList = l) : RdC (w.alloc (.cells (A ++ (B ++ z)) t fr)) g l :=
  RdC.new w g hg _ t fr l z (by rw [← h]; apply Array.ext'; simp)
theorem RdC.drew {w : World} {g : Nat} {l : List Value} (h : RdC w g l) : RdC w.drew g l := h
theorem stp_drew {w w1 : World} (h : Stp w w1) : Stp w w1.drew := ⟨h.os, h.tape, h.output, h.size, h.block⟩
theorem stp_alloc {w w1 : World} (h : Stp w w1) (o : Obj) : Stp w (w1.alloc o) := Stp.alloc h o
theorem stp_grown {w w1 w2 : World} (h : Stp w w1) (hg : w1.grownBy w2 none) : Stp w w2 :=
  Stp.trans h ⟨hg.os, hg.tape, hg.output, hg.size, fun k hk => hg.block k hk (by simp)⟩

set_option maxHeartbeats 2000000 in
set_option maxRecDepth 100000 in
theorem texts_m (hb : Nat) (w : World) (h8 : w.cell? ⟨hb, 8, none⟩ = some (.int .u8 77)) :
    Calls Try.prog 48 #[.pointer (some ⟨hb, 0, none⟩)] w fun e w' => ∃ g cap, e = .returned (.slice (some ⟨g, 0, none⟩) 2 cap) ∧ w.heap.size ≤ g ∧ RdC w' g (rowsC hb txM) ∧ Stp w w' := by
  have hlt : hb < w.heap.size := World.block_lt_of_cell? w _ h8
  go_enter Try.func48, Try.ntmps48
  go_wp2_with fail
  go_region
  go_wp2_with fail
  go_ret
  exact ⟨_, _, rfl, Nat.le_refl _, RdC.of_blk (Blk.new w _ _), Stp.drewN (Stp.alloc (Stp.refl w) _) 1⟩

set_option maxHeartbeats 2000000 in
set_option maxRecDepth 100000 in
theorem texts_n (hb : Nat) (w : World) (c : UInt8) (hc : c ≠ 77) (h8 : w.cell? ⟨hb, 8, none⟩ = some (.int .u8 (c.toNat : Int))) :
    Calls Try.prog 48 #[.pointer (some ⟨hb, 0, none⟩)] w fun e w' => ∃ g cap, e = .returned (.slice (some ⟨g, 0, none⟩) 3 cap) ∧ w.heap.size ≤ g ∧ RdC w' g (rowsC hb txN) ∧ Stp w w' := by
  have hlt : hb < w.heap.size := World.block_lt_of_cell? w _ h8
  have hcc : ((c.toNat : Int) == 77) = false := by
    rw [beq_eq_false_iff_ne]
    intro h
    exact hc (UInt8.toNat_inj.1 (by show c.toNat = 77; omega))
  have Hc := Lib.hid hc
  clear hc
  have hnf : ¬ (281474976710656 < Builtin.nextslicecap 3 2 * Try.t74.bytes) := by decide +kernel
  go_enter Try.func48, Try.ntmps48
  go_wp2_with fail
  go_region
  go_wp2_with fail
  go_ret
  refine ⟨_, _, rfl, by omega, ?_, ?_⟩
  · repeat' refine RdC.drew ?_
    exact RdC.new2 _ _ (by simp) _ _ _ _ _ _ rfl
  · repeat' first | exact Stp.refl _ | refine stp_drew ?_ | refine stp_alloc ?_ _

set_option maxHeartbeats 2000000 in
set_option maxRecDepth 100000 in
theorem numbers_n (hb : Nat) (w : World) (c : UInt8) (hc : c ≠ 77) (h8 : w.cell? ⟨hb, 8, none⟩ = some (.int .u8 (c.toNat : Int))) :
    Calls Try.prog 50 #[.pointer (some ⟨hb, 0, none⟩)] w fun e w' => ∃ g cap, e = .returned (.slice (some ⟨g, 0, none⟩) 5 cap) ∧ w.heap.size ≤ g ∧ RdC w' g (rowsC hb nuN) ∧ Stp w w' := by
  have hlt : hb < w.heap.size := World.block_lt_of_cell? w _ h8
  have hcc : ((c.toNat : Int) == 77) = false := by
    rw [beq_eq_false_iff_ne]
    intro h
    exact hc (UInt8.toNat_inj.1 (by show c.toNat = 77; omega))
  have Hc := Lib.hid hc
  clear hc
  go_enter Try.func50, Try.ntmps50
  go_wp2_with fail
  go_region
  go_wp2_with fail
  go_ret
  exact ⟨_, _, rfl, Nat.le_refl _, RdC.of_blk (Blk.new w _ _), Stp.drewN (Stp.alloc (Stp.refl w) _) 1⟩

set_option maxHeartbeats 2000000 in
set_option maxRecDepth 100000 in
theorem numbers_m (hb : Nat) (w : World) (h8 : w.cell? ⟨hb, 8, none⟩ = some (.int .u8 77)) :
    Calls Try.prog 50 #[.pointer (some ⟨hb, 0, none⟩)] w fun e w' => ∃ g cap, e = .returned (.slice (some ⟨g, 0, none⟩) 7 cap) ∧ w.heap.size ≤ g ∧ RdC w' g (rowsC hb nuM) ∧ Stp w w' := by
  have hlt : hb < w.heap.size := World.block_lt_of_cell? w _ h8
  have hnf : ¬ (281474976710656 < Builtin.nextslicecap 7 5 * Try.t80.bytes) := by decide +kernel
  go_enter Try.func50, Try.ntmps50
  go_wp2_with fail
  go_region
  go_wp2_with fail
  go_region
  go_wp2_with fail
  go_ret
  refine ⟨_, _, rfl, by omega, ?_, ?_⟩
  · repeat' refine RdC.drew ?_
    exact RdC.new2 _ _ (by simp) _ _ _ _ _ _ rfl
  · repeat' first | exact Stp.refl _ | refine stp_drew ?_ | refine stp_alloc ?_ _
end Go.Proofs.Ytihigbaaajmjlaa.Head
