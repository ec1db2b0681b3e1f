/-
  What the library's functions on slices of bytes return at this program's numbers (bytes.Equal, slices.EqualFunc over it), and package block's May, Same, Zero, Many: no statement is proved here.
  A range over a function whose elements bear content (each is handed on with a fact on the world in which it is handed on): a law over any program; no statement is proved here.
  Contracts of package block's iterator over the blocks of a text, and of list that ranges over it: no statement is proved here.
  What strings.Builder's methods return at this program's numbers (Write, String), at a builder that the call has laid itself: no statement is proved here.
  Contracts of package block: Cut, Zeros, join, Text: no statement is proved here.
  The statements' helpers for blocks (long, Few, awake): no statement is proved here.
-/
import Derived.Test.YtgjdbbhfgfodlaaGreatProg
import Derived.Test.YtgjdbbhfgfodlaaGreatBase
import Derived.Test.YtgjdbbhfgfodlaaGreatBlockM
import Derived.WalkKit
import Derived.IntWalk
import Derived.RangeFuncNested
import Derived.RangeFuncBound
import Derived.RangeFuncCalls
import Derived.RangeFuncLeaves
import Derived.RangeFuncBox
import Derived.Shelf.Abstract
import Derived.Shelf.RegionOpen
import Derived.OwnWalkIn
import Derived.TacticsInMore
import Derived.LoopNIn
import Derived.LoopIn
import Derived.Lib.Builder
import Derived.Lib.UnsafeStr
import Derived.Laws.Externs
import Derived.Laws.Entries
import Derived.BigQuiet
import Derived.Deep.QuietTactic
namespace Go.Proofs.YtgjdbbhfgfodlaaGreat.Block
open Go.RowKit Go.Proofs.YtgjdbbhfgfodlaaGreat.Base Go.Proofs.YtgjdbbhfgfodlaaGreat.BlockM

theorem str_rd {w : World} {A : Option Addr} {c : Nat} {l : L} (h : RdA w A c (bs l)) :
    (convert 36 9 (.slice A l.length c)).run Tryz.prog w = .ok (.string ⟨l.toArray⟩) w := by
  have h' := h
  unfold RdA at h'
  rw [bs_length] at h'
  exact run_string_rd (P := Tryz.prog) w 36 9 5 Tryz.underlying36 Tryz.underlying5 Tryz.underlying9 _ _ _ h'

set_option maxRecDepth 100000 in
theorem equal_s (l m : L) (A B : Option Addr) (c d : Nat) (w : World) (ha : RdA w A c (bs l)) (hb : RdA w B d (bs m)) :
    Calls Tryz.prog 79 #[.slice A l.length c, .slice B m.length d] w fun e w' => e = .returned (.bool (l == m)) ∧ Stp w w' := by
  have h0 := Stp.refl w
  have c1 := str_rd ha
  have c2 := str_rd hb
  go_enter Tryz.func79, Tryz.ntmps79
  go_wp2_with fail
  go_ret
  exact ⟨rfl, h0⟩

/-! ### package block -/
theorem zeroV_step {l : L} {k : Nat} {x : UInt8} (hl : l[k]? = some x) (h : zeroV (l.take k) = true) : zeroV (l.take (k + 1)) = decide (x = 0) := by
  unfold zeroV at h ⊢
  rw [List.take_add_one, hl, List.all_append, h]
  simp
theorem zeroV_no {l : L} {k : Nat} {x : UInt8} (hl : l[k]? = some x) (h : x ≠ 0) : zeroV l = false := by
  rw [Bool.eq_false_iff]
  intro hm
  simp only [zeroV, List.all_eq_true, decide_eq_true_eq] at hm
  exact h (hm x (List.mem_of_getElem? hl))

set_option maxRecDepth 100000 in
theorem zero_s (l : L) (A : Option Addr) (c : Nat) (w : World) (ha : RdA w A c (bs l)) (hl : l.length < 9223372036854775808) :
    Calls Tryz.prog 64 #[.slice A l.length c] w fun e w' => e = .returned (.bool (zeroV l)) ∧ Stp w w' := by
  obtain ⟨r, hr⟩ : ∃ r, zeroV l = r := ⟨_, rfl⟩
  rw [hr]
  have Hr := Lib.hid hr
  clear hr
  go_enter Tryz.func64, Tryz.ntmps64
  go_wp2_with fail
  go_loopw [7] (fun i wr => ∃ k : Nat, k ≤ l.length ∧ i = .int .i64 k ∧ Stp w wr ∧ Hid (zeroV (l.take k) = true)) (fun i _ => l.length - (intOf i).toNat)
  case atStart => exact ⟨0, by omega, rfl, Stp.refl w, Lib.hid (by simp [zeroV])⟩
  case round =>
    obtain ⟨k, hk, rfl, h0, Hk⟩ := hrel
    by_cases hlt : k < l.length
    · obtain ⟨x, hl1⟩ : ∃ x, l[k]? = some x := ⟨_, List.getElem?_eq_getElem hlt⟩
      obtain ⟨b, o, rfl, hcell⟩ := (ha.keep h0).at_ (j := k) (by rw [bs_length]; exact hlt)
      have ca := hcell k (.int .u8 (x.toNat : Int)) (by rw [bs_at hlt, ← (List.getElem?_eq_some_iff.1 hl1).2])
      have Hs := Lib.hid (zeroV_step hl1 Hk.out)
      have Hl1 := Lib.hid hl1
      clear hl1 hcell
      by_cases h5 : x = 0
      · have g : ((x.toNat : Int) != 0) = false := by simp [h5]
        have H5 := Lib.hid h5
        clear h5
        go_wp2_with fail
        go_roundw
        case rel => exact ⟨k + 1, by omega, by go_num, h0, Lib.hid (by rw [Hs.out]; exact decide_eq_true H5.out)⟩
        case measure => simp [intOf]; omega
      · have g : ((x.toNat : Int) != 0) = true := by
          rw [bne_iff_ne]
          intro h
          exact h5 (UInt8.toNat_inj.1 (by show x.toNat = 0; omega))
        have H5 := Lib.hid h5
        clear h5
        go_wp2_with fail
        go_ret
        refine ⟨?_, h0⟩
        rw [← Hr.out, zeroV_no Hl1.out H5.out]
        rfl
    · obtain rfl : k = l.length := by omega
      go_wp2_with fail
      go_ret
      refine ⟨?_, h0⟩
      have h := Hk.out
      rw [List.take_length] at h
      rw [← Hr.out, h]
      rfl
end Go.Proofs.YtgjdbbhfgfodlaaGreat.Block

namespace Go.Proofs.YtgjdbbhfgfodlaaGreat.Range
open Go.RowKit Go.Proofs.YtgjdbbhfgfodlaaGreat.Base

variable {F : Fence} {n : Nat} {P : Program}

end Go.Proofs.YtgjdbbhfgfodlaaGreat.Range

namespace Go.Proofs.YtgjdbbhfgfodlaaGreat.Block
open Go.RowKit Go.Shelf Go.Proofs.YtgjdbbhfgfodlaaGreat.Base Go.Proofs.YtgjdbbhfgfodlaaGreat.BlockM Go.Proofs.YtgjdbbhfgfodlaaGreat.Range Go.Proofs.YtgjdbbhfgfodlaaGreat.Str

attribute [local go_sem] Oper.semAt_some

theorem byte_info : (Tryz.prog.info? 5).map (fun i => (i.zero, i.size, i.bytes)) = some (some (.int .u8 0), 1, 1) := by kernel_rfl
/-- A block that is handed on: the number of its memory, and its bytes. -/
abbrev Handed := Nat × L
def Holds (x : Handed) (W : World) : Prop := Blk W x.1 5 (bs x.2).toArray
def val (x : Handed) : Value := .slice (some ⟨x.1, 0, none⟩) 512 512

theorem blk_not_row {W : World} {g : Nat} {t e : TypeId} {cs : Array Value} (h : Blk W g t cs) (hte : t ≠ e) {base size k : Nat} {v : Value} {xs : List Value} (hr : W.ownsRow base e size v k xs) : some g ≠ v.ownBlock := by
  obtain ⟨_, ⟨rfl, _⟩ | ⟨g', cap, cur, rfl, _, hg, _⟩⟩ := hr
  · simp [Value.ownBlock]
  · simp only [Value.ownBlock]
    rintro e'
    cases e'
    unfold Blk at h
    rw [hg] at h
    cases h
    exact hte rfl
/-- The slice at A holds slices of whole blocks of bytes, of 512 bytes each, that hold the texts ls. -/
def RdH (w : World) (A : Option Addr) (cap : Nat) (ls : List L) : Prop :=
  ∃ ys : List Handed, ys.map (·.2) = ls ∧ (∀ b ∈ ls, b.length = 512) ∧ RdA w A cap (ys.map val) ∧ ∀ x ∈ ys, Holds x w
theorem RdH.keep {w w' : World} {A : Option Addr} {cap : Nat} {ls : List L} (h : RdH w A cap ls) (hs : Stp w w') : RdH w' A cap ls := by
  obtain ⟨ys, h1, h2, h3, h4⟩ := h
  exact ⟨ys, h1, h2, h3.keep hs, fun x hx => Blk.keep (h4 x hx) hs (Blk.lt (h4 x hx))⟩
end Go.Proofs.YtgjdbbhfgfodlaaGreat.Block

namespace Go.Proofs.YtgjdbbhfgfodlaaGreat.Builder
open Go.RowKit Go.Proofs.YtgjdbbhfgfodlaaGreat.Base

theorem byte_info : (Tryz.prog.info? 5).map (fun i => (i.zero, i.size, i.bytes)) = some (some (.int .u8 0), 1, 1) := by kernel_rfl
theorem byte_cells : Tryz.prog.cellsOf 5 = 1 := by kernel_rfl

end Go.Proofs.YtgjdbbhfgfodlaaGreat.Builder

namespace Go.Proofs.YtgjdbbhfgfodlaaGreat.Block
open Go.RowKit Go.Shelf Go.Proofs.YtgjdbbhfgfodlaaGreat.Base Go.Proofs.YtgjdbbhfgfodlaaGreat.BlockM Go.Proofs.YtgjdbbhfgfodlaaGreat.Str

end Go.Proofs.YtgjdbbhfgfodlaaGreat.Block

namespace Go.Proofs.YtgjdbbhfgfodlaaGreat.Block
open Go.RowKit Go.Shelf Go.Proofs.YtgjdbbhfgfodlaaGreat.Base Go.Proofs.YtgjdbbhfgfodlaaGreat.BlockM Go.Proofs.YtgjdbbhfgfodlaaGreat.Str

/-- k bytes, the first i of them 1, the others 0. -/
def ones (k i : Nat) : L := List.replicate i 1 ++ noughts (k - i)
/-- At most 60 blocks, of at most 600 bytes each? -/
def fewV (ls : List L) : Bool := decide (ls.length ≤ 60) && ls.all fun b => decide (b.length ≤ 600)
theorem fewV_iff {ls : List L} : fewV ls = true ↔ ls.length ≤ 60 ∧ ∀ b ∈ ls, b.length ≤ 600 := by simp [fewV]

set_option maxRecDepth 100000 in
set_option maxHeartbeats 1000000 in
theorem few_s (ls : List L) (A : Option Addr) (c : Nat) (w : World) (ha : RdL w A c ls) (hl : ls.length < 9223372036854775808) (hls : ∀ l ∈ ls, l.length < 9223372036854775808) :
    Calls Tryz.prog 6 #[.slice A ls.length c] w fun e w' => e = .returned (.bool (fewV ls)) ∧ Stp w w' := by
  obtain ⟨r, hr⟩ : ∃ r, fewV ls = r := ⟨_, rfl⟩
  rw [hr]
  have Hr := Lib.hid hr
  have Hls := Lib.hid hls
  clear hr hls
  go_enter Tryz.func6, Tryz.ntmps6
  go_wp2_with fail
  go_loopw [3] (fun i wr => ∃ k : Nat, k ≤ ls.length ∧ k ≤ 61 ∧ i = .int .i64 k ∧ Stp w wr ∧ Hid (∀ b ∈ ls.take k, b.length ≤ 600)) (fun i _ => ls.length - (intOf i).toNat)
  case atStart => exact ⟨0, by omega, by omega, rfl, Stp.refl w, Lib.hid (by simp)⟩
  case round =>
    obtain ⟨k, hk, hk61, rfl, h0, Hk⟩ := hrel
    by_cases hlt : k < ls.length
    · have g1 : decide ((k : Int) < (ls.length : Int)) = true := decide_eq_true (by omega)
      by_cases h60 : k ≤ 60
      · have g2 : decide ((k : Int) ≤ 60) = true := decide_eq_true (by omega)
        obtain ⟨l, hl1⟩ : ∃ l, ls[k]? = some l := ⟨_, List.getElem?_eq_getElem hlt⟩
        have hll := Hls.out l (List.mem_of_getElem? hl1)
        obtain ⟨b, o, A1, c1, rfl, ca, ra⟩ := (ha.keep h0).at_ hl1
        have Hl1 := Lib.hid hl1
        clear hl1 ra
        by_cases h6 : l.length ≤ 600
        · have g3 : decide ((600 : Int) < (l.length : Int)) = false := decide_eq_false (by omega)
          have H6 := Lib.hid h6
          clear h6
          go_wp2_with fail
          go_roundw
          case rel =>
            refine ⟨k + 1, by omega, by omega, by go_num, h0, Lib.hid ?_⟩
            rw [List.take_add_one, Hl1.out]
            intro b hb
            rcases List.mem_append.1 hb with h | h
            · exact Hk.out b h
            · rw [show b = l by simpa using h]
              exact H6.out
          case measure => simp [intOf]; omega
        · have g3 : decide ((600 : Int) < (l.length : Int)) = true := decide_eq_true (by omega)
          have H6 := Lib.hid h6
          clear h6
          go_wp2_with fail
          go_ret
          refine ⟨?_, h0⟩
          have e : r = false := by
            rw [← Hr.out, Bool.eq_false_iff]
            intro h
            exact H6.out ((fewV_iff.1 h).2 l (List.mem_of_getElem? Hl1.out))
          rw [e]
          rfl
      · have g2 : decide ((k : Int) ≤ 60) = false := decide_eq_false (by omega)
        have g4 : decide ((ls.length : Int) ≤ 60) = false := decide_eq_false (by omega)
        go_wp2_with fail
        go_ret
        refine ⟨?_, h0⟩
        have e : r = false := by
          rw [← Hr.out, Bool.eq_false_iff]
          intro h
          have := (fewV_iff.1 h).1
          omega
        rw [e]
        rfl
    · obtain rfl : k = ls.length := by omega
      have e : r = decide (ls.length ≤ 60) := by
        rw [← Hr.out, Bool.eq_iff_iff, fewV_iff, decide_eq_true_eq]
        refine ⟨fun h => h.1, fun h => ⟨h, fun b hb => Hk.out b ?_⟩⟩
        rw [List.take_length]
        exact hb
      have He := Lib.hid e
      have e2 : decide ((ls.length : Int) ≤ 60) = decide (ls.length ≤ 60) := decide_eq_decide.2 (by omega)
      clear Hr e
      go_wp2_with fail
      go_ret
      exact ⟨by rw [He.out]; first | rfl | (rw [← e2]; rfl), h0⟩

end Go.Proofs.YtgjdbbhfgfodlaaGreat.Block

