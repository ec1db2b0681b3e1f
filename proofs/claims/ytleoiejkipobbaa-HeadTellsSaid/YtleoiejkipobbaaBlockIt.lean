/-
  Contracts of package block's iterator over the blocks of a text, and of list that ranges over it: no statement is proved here.
-/
import Derived.RangeFuncNested
import Derived.RangeFuncBound
import Derived.RangeFuncCalls
import Derived.RangeFuncLeaves
import Derived.RangeFuncBox
import Derived.Shelf.Abstract
import Derived.Shelf.RegionOpen
import Derived.WalkKit
import Derived.OwnWalkIn
import Derived.TacticsInMore
import Derived.LoopNIn
import Derived.LoopIn
import Derived.Test.YtleoiejkipobbaaBlockLib
import Derived.Test.YtleoiejkipobbaaRange
import Derived.Test.YtleoiejkipobbaaStr
namespace Go.Proofs.Ytleoiejkipobbaa.Block
open Go.RowKit Go.Shelf Go.Proofs.Ytleoiejkipobbaa.Base Go.Proofs.Ytleoiejkipobbaa.BlockM Go.Proofs.Ytleoiejkipobbaa.Range Go.Proofs.Ytleoiejkipobbaa.Str

attribute [local go_sem] Oper.semAt_some

theorem byte_info : (Try.prog.info? 5).map (fun i => (i.zero, i.size, i.bytes)) = some (some (.int .u8 0), 1, 1) := by kernel_rfl
theorem byte_size : (Try.prog.info? 5).map (·.size) = some 1 := by kernel_rfl
theorem bytes_info : (Try.prog.info? 24).map (fun i => (i.zero, i.size, i.bytes)) = some (some (.slice none 0 0), 1, 24) := by kernel_rfl

/-- A block that is handed on: the number of its memory, and its bytes. -/
abbrev Handed := Nat × L
def Holds (x : Handed) (W : World) : Prop := Blk W x.1 5 (bs x.2).toArray
def hand (x : Handed) : Array Value := #[.slice (some ⟨x.1, 0, none⟩) 512 512]

theorem filled (s : L) : (bs (s.take 512) ++ (Array.replicate 512 (Value.int .u8 0)).toList.drop (min s.length 512)) = bs (blk s) := by
  rw [Array.toList_replicate, List.drop_replicate, blk, bs_append]
  congr 1
  rw [noughts, bs, List.map_replicate, show 512 - min s.length 512 = 512 - s.length by omega]
  rfl
theorem filled_arr (s : L) : ((bs (s.take 512) ++ (Array.replicate 512 (Value.int .u8 0)).toList.drop (min s.length 512)).toArray) = (bs (blk s)).toArray := by rw [filled]
theorem drop_on (s : L) (k : Nat) : (s.drop (512 * k)).drop (min (s.drop (512 * k)).length 512) = s.drop (512 * (k + 1)) := by
  rw [List.drop_drop]
  by_cases h : 512 ≤ (s.drop (512 * k)).length
  · rw [Nat.min_eq_right h]
    congr 1
  · rw [List.length_drop] at h ⊢
    rw [List.drop_of_length_le (by omega), List.drop_of_length_le (by omega)]

theorem new_row {w w2 : World} {o : Obj} (h : (w.alloc o).grownBy w2 (some w.heap.size)) : w.grownBy w2 none :=
  ⟨h.os, h.tape, h.output, Nat.le_trans (by simp) h.size, fun k hk _ => (h.block k (by simp; omega) (by simp; omega)).trans (Below.heap_alloc w o k hk)⟩

set_option maxRecDepth 100000 in
set_option maxHeartbeats 1000000 in
/-- The iterator: the first n blocks of the text, in order, or the first of them, where a round has said no more. -/
theorem blocks1_in (m : Nat) (hm : 1 ≤ m) (l Bs Bn : Nat) (s : L) (n : Nat) (hs : s.length ≤ 9223372036854775807) (hn : n < 9223372036854775808) (J Jx : List Handed → World → Prop)
    (hJ : ∀ pre W W', J pre W → W.grownBy W' none → J pre W')
    (hY : ∀ pre x W, J pre W → Holds x W → pre.length < n → YieldAt Fence.wide (m - 1) Try.prog l (hand x) W fun e W' =>
      (e = .returned (.bool true) ∧ J (pre ++ [x]) W' ∧ True) ∨ (e = .returned (.bool false) ∧ Jx (pre ++ [x]) W'))
    (W : World) (hBs : W.cell? ⟨Bs, 0, none⟩ = some (.string ⟨s.toArray⟩)) (hBn : W.cell? ⟨Bn, 0, none⟩ = some (.int .i64 (n : Int))) (h0 : J [] W) :
    CallsIn Fence.wide m Try.prog 96 #[.func (.yield l) #[] #[], .pointer (some ⟨Bs, 0, none⟩), .pointer (some ⟨Bn, 0, none⟩)] W fun e W' => (∃ v, e = .returned v) ∧
      ((∃ ys, ys.map (·.2) = blks n s ∧ J ys W') ∨ (∃ pre, pre.map (·.2) <+: blks n s ∧ Jx pre W')) := by
  refine callsIn_of_wp Try.func96 rfl trivial ?_ rfl
  simp only [Try.ntmps96, List.size_toArray, List.length_cons, List.length_nil, Nat.reduceAdd, Nat.reduceSub, Array.replicate_succ, Array.replicate_zero, List.push_toArray, List.append_toArray, List.nil_append, List.cons_append]
  gi_wp2
  gi_loopw [4, 8] (fun r i wr => ∃ (k : Nat) (pre : List Handed), k ≤ n ∧ i = .int .i64 k ∧ r = .string ⟨(s.drop (512 * k)).toArray⟩ ∧ Hid (pre.map (·.2) = blks k s) ∧ pre.length = k ∧ J pre wr)
    (fun _ i _ => n - (intOf i).toNat)
  case atStart => exact ⟨0, [], by omega, rfl, by simp, Lib.hid rfl, rfl, h0⟩
  case round =>
    obtain ⟨k, pre, hk, rfl, rfl, Hp, hpl, hJs⟩ := hrel
    by_cases hlt : k < n
    · obtain ⟨rest, hrest⟩ : ∃ rest, s.drop (512 * k) = rest := ⟨_, rfl⟩
      have Hon : Hid (rest.drop (min rest.length 512) = s.drop (512 * (k + 1))) := Lib.hid (by rw [← hrest]; exact drop_on s k)
      rw [hrest]
      have Hrest := Lib.hid hrest
      have hcut := cut_l rest (min rest.length 512) (by omega)
      have hrl : rest.length ≤ 9223372036854775807 := by rw [← hrest, List.length_drop]; omega
      clear hrest
      gi_wp2_with (first
        | (gi_at_make; refine wpListIn_make_blk _ rfl (.const (.int .i64 512)) (.const (.int .i64 512)) 24 rfl 5 (.int .u8 0) 1 Try.underlying24 byte_info rfl .i64 .i64 512 512 rfl rfl rfl (by decide) (by unfold maxLen; omega) ?_)
        | (refine wpListIn_copy_str _ rfl (.tmp 12) (.tmp 13) 24 9 rfl 5 Try.underlying24 byte_size wr.heap.size 512 512 5 (Array.replicate 512 (.int .u8 0)) rest rfl rfl (Blk.new wr _ _) (by simp) ?_; intro w2 hb2 hg2; obtain ⟨fn, tmps, assign, body, hy, hR⟩ := hY pre (wr.heap.size, blk rest) w2 (hJ _ _ _ hJs (new_row hg2)) (by rw [filled_arr] at hb2; exact hb2) (by omega); dsimp only [hand] at hy))
      refine hR.mono ?_
      rintro e W3 (⟨rfl, hJ3, _⟩ | ⟨rfl, hJx3⟩)
      · gi_wp2
        go_roundw
        case rel => exact ⟨k + 1, pre ++ [(wr.heap.size, blk rest)], by omega, by go_num, by rw [Hon.out], Lib.hid (by rw [List.map_append, Hp.out, blks_snoc, Hrest.out]; rfl), by simp [hpl], hJ3⟩
        case measure => simp [intOf]; omega
      · gi_wp2
        refine bodyPost_ret (results_none rfl _ _ _) rfl ?_
        refine ⟨⟨_, rfl⟩, .inr ⟨pre ++ [(wr.heap.size, blk rest)], ?_, hJx3⟩⟩
        rw [List.map_append, Hp.out, ← Hrest.out]
        have h := blks_add (k + 1) (n - (k + 1)) s
        rw [show k + 1 + (n - (k + 1)) = n by omega, blks_snoc] at h
        exact ⟨_, h.symm⟩
    · obtain rfl : k = n := by omega
      gi_wp2
      go_end0
      exact ⟨⟨_, rfl⟩, .inl ⟨pre, Hp.out, hJs⟩⟩

/-- What blocks answers, in the form of the law. -/
theorem blocks_seq (m : Nat) (hm : 1 ≤ m) (Bs Bn : Nat) (s : L) (n : Nat) (hs : s.length ≤ 9223372036854775807) (hn : n < 9223372036854775808) (w : World) (hls : Bs < w.heap.size) (hln : Bn < w.heap.size)
    (hBs : w.cell? ⟨Bs, 0, none⟩ = some (.string ⟨s.toArray⟩)) (hBn : w.cell? ⟨Bn, 0, none⟩ = some (.int .i64 (n : Int))) :
    SeqC Fence.wide m Try.prog 96 #[.pointer (some ⟨Bs, 0, none⟩), .pointer (some ⟨Bn, 0, none⟩)] hand Holds (fun _ _ => True) (fun ys => ys.map (·.2) = blks n s) (fun pre => pre.map (·.2) <+: blks n s) n w := fun l J Jx W hW hJ _ hY h0 =>
  blocks1_in m hm l Bs Bn s n hs hn J Jx (fun pre A B h hg => hJ pre A B none h hg (fun r e => by cases e)) hY W ((hW.cell (p := ⟨Bs, 0, none⟩) hls).trans hBs) ((hW.cell (p := ⟨Bn, 0, none⟩) hln).trans hBn) h0

set_option maxRecDepth 100000 in
/-- blocks: the text and the number are boxed; the function value captures the boxes. -/
theorem blocks_any (s : ByteArray) (n : Int) (w : World) :
    Calls Try.prog 86 #[.string s, .int .i64 n] w fun e w' => e = .returned (.func (.func 96) #[] #[.pointer (some ⟨w.heap.size, 0, none⟩), .pointer (some ⟨w.heap.size + 1, 0, none⟩)]) ∧
      w' = (w.alloc (.cells #[.string s] 9)).alloc (.cells #[.int .i64 n] 3) := by
  have hmf : ∀ (fn : Fn) (first cap : Array Value) (w : World), (Instr.makeFunc fn first cap).run Try.prog w = .ok (.func fn first cap) w := fun _ _ _ _ => rfl
  go_enter Try.func86, Try.ntmps86
  go_wp2_with fail
  go_ret
  exact ⟨rfl, rfl⟩

def val (x : Handed) : Value := .slice (some ⟨x.1, 0, none⟩) 512 512

theorem blk_not_row {W : World} {g : Nat} {t e : TypeId} {cs : Array Value} (h : Blk W g t cs) (hte : t ≠ e) {base size k : Nat} {v : Value} {xs : List Value} (hr : W.ownsRow base e size v k xs) : some g ≠ v.ownBlock := by
  obtain ⟨_, ⟨rfl, _⟩ | ⟨g', cap, cur, rfl, _, hg, _⟩⟩ := hr
  · simp [Value.ownBlock]
  · simp only [Value.ownBlock]
    rintro e'
    cases e'
    unfold Blk at h
    rw [hg] at h
    cases h
    exact hte rfl
theorem blk_not_box {W : World} {g b : Nat} {t e : TypeId} {cs : Array Value} {v : Value} (h : Blk W g t cs) (hte : t ≠ e) (hb : Boxed W b e v) : g ≠ b := by
  rintro rfl
  unfold Blk at h
  rw [show W.heap[g]? = _ from hb] at h
  cases h
  exact hte rfl
theorem holds_own (B : Nat) : OwnFrom B (fun (pre : List Handed) W => ∀ x ∈ pre, Holds x W) := fun _ _ _ _ hs hg hr x hx =>
  (grownBy_keeps_cells hg (fun r e => (hr r e).2) (hs x hx) rfl).trans (hs x hx)
theorem holds_own1 (B : Nat) (x : Handed) : OwnFrom B (fun (_ : Unit) W => Holds x W) := fun _ _ _ _ hs hg hr =>
  (grownBy_keeps_cells hg (fun r e => (hr r e).2) hs rfl).trans hs

/-- The slice at A holds slices of whole blocks of bytes, of 512 bytes each, that hold the texts ls. -/
def RdH (w : World) (A : Option Addr) (cap : Nat) (ls : List L) : Prop :=
  ∃ ys : List Handed, ys.map (·.2) = ls ∧ (∀ b ∈ ls, b.length = 512) ∧ RdA w A cap (ys.map val) ∧ ∀ x ∈ ys, Holds x w
theorem RdH.keep {w w' : World} {A : Option Addr} {cap : Nat} {ls : List L} (h : RdH w A cap ls) (hs : Stp w w') : RdH w' A cap ls := by
  obtain ⟨ys, h1, h2, h3, h4⟩ := h
  exact ⟨ys, h1, h2, h3.keep hs, fun x hx => Blk.keep (h4 x hx) hs (Blk.lt (h4 x hx))⟩
theorem RdH.rdL {w : World} {A : Option Addr} {cap : Nat} {ls : List L} (h : RdH w A cap ls) : RdL w A cap ls := by
  obtain ⟨ys, he, h5, hA, hh⟩ := h
  have hlen : ys.length = ls.length := by rw [← he, List.length_map]
  refine ⟨ys.map val, by rw [List.length_map, hlen], hA, fun j l hj => ?_⟩
  rw [← he, List.getElem?_map] at hj
  obtain ⟨x, hx, rfl⟩ := Option.map_eq_some_iff.1 hj
  have hm := List.mem_of_getElem? hx
  have hb : Blk w x.1 5 (bs x.2).toArray := hh x hm
  have hx5 : x.2.length = 512 := h5 _ (by rw [← he]; exact List.mem_map_of_mem hm)
  refine ⟨val x, by rw [List.getElem?_map, hx]; rfl, ?_⟩
  have h := (Base.Own.of_blk (lo := 0) hb (Nat.zero_le _) (n := 512) (by simp [bs_length, hx5]) (by unfold maxLen; omega)).rd
  simpa [val] using h

/-- What was handed on, gathered in a slice, reads as the blocks. -/
theorem gathered {W : World} {v : Value} {ys : List Handed} {bl : List L} (hr : Rd W W.heap.size v (ys.map val)) (hh : ∀ x ∈ ys, Holds x W) (he : ys.map (·.2) = bl) (h5 : ∀ b ∈ bl, b.length = 512) :
    ∃ A cap, v = .slice A bl.length cap ∧ RdH W A cap bl := by
  have hlen : ys.length = bl.length := by rw [← he, List.length_map]
  obtain ⟨A, cap, rfl, hA⟩ := RdA.of hr
  rw [List.length_map]
  exact ⟨A, cap, by rw [hlen], ys, he, h5, hA, hh⟩

set_option maxRecDepth 100000 in
set_option maxHeartbeats 2000000 in
theorem list_h (s : L) (n Bs Bn : Nat) (w : World) (hs : s.length ≤ 9223372036854775807) (hn : n ≤ 1000000) (hls : Bs < w.heap.size) (hln : Bn < w.heap.size)
    (hBs : w.cell? ⟨Bs, 0, none⟩ = some (.string ⟨s.toArray⟩)) (hBn : w.cell? ⟨Bn, 0, none⟩ = some (.int .i64 (n : Int))) :
    Calls Try.prog 85 #[.func (.func 96) #[] #[.pointer (some ⟨Bs, 0, none⟩), .pointer (some ⟨Bn, 0, none⟩)]] w fun e w' => ∃ A cap, e = .returned (.slice A n cap) ∧ RdH w' A cap (blks n s) ∧ Stp w w' := by
  obtain ⟨i0, hi, hz0, hz1, hz2⟩ := info_parts bytes_info
  refine (callsIn_wide (n := 3)).1 ?_
  refine callsIn_of_wp_marks Try.func85 rfl trivial ?_ rfl
  simp only [Try.ntmps85, List.size_toArray, List.length_cons, List.length_nil, Nat.reduceAdd, Nat.reduceSub, Array.replicate_succ, Array.replicate_zero, List.push_toArray, List.append_toArray, List.nil_append, List.cons_append]
  gi_wp2
  have bO := Boxed.new w 37 (.slice none 0 0)
  have hB0 : Below w.heap.size w (w.alloc (.cells #[.slice none 0 0] 37)) := (Below.refl _ w).alloc (Nat.le_refl _) _
  refine range_c rfl (by omega) (gf := 96) (lb := #[.pointer (some ⟨Bs, 0, none⟩), .pointer (some ⟨Bn, 0, none⟩)]) rfl trivial (enters_of Try.func96 (by kernel_rfl) rfl)
    (blocks_seq _ (by omega) Bs Bn s n hs (by omega) (w.alloc (.cells #[.slice none 0 0] 37)) (by simp; omega) (by simp; omega) ((hB0.cell (p := ⟨Bs, 0, none⟩) hls).trans hBs) ((hB0.cell (p := ⟨Bn, 0, none⟩) hln).trans hBn)) (Below.refl _ _)
    (fun _ _ => trivial) (fun _ _ _ _ _ _ _ _ => trivial) (fun _ => rfl)
    (fun pre W => ((∃ v, Boxed W w.heap.size 37 v ∧ W.ownsRow w.heap.size 24 1 v pre.length (pre.map val) ∧ True) ∧ ∀ x ∈ pre, Holds x W) ∧ Below w.heap.size w W)
    (fun _ _ _ => False)
    (OwnFrom.and (OwnFrom.and (Go.Own.from (holdsRow_own w.heap.size w.heap.size 37 24 1 (fun pre : List Handed => pre.length) (fun pre => pre.map val) (fun _ _ => True)) _) (holds_own _)) (ownFrom_below (Nat.le_refl _) (by simp)))
    (fun _ _ _ _ _ hs _ _ => hs)
    ⟨⟨⟨_, bO, World.ownsRow_nil _ _ _ _, trivial⟩, by simp⟩, hB0⟩
    (fun x a' W => a' = { tmps := #[.func (.func 96) #[] #[.pointer (some ⟨Bs, 0, none⟩), .pointer (some ⟨Bn, 0, none⟩)], undef, .slice none 0 0, .pointer (some ⟨w.heap.size, 0, none⟩), val x, .func (.func 96) #[] #[.pointer (some ⟨Bs, 0, none⟩), .pointer (some ⟨Bn, 0, none⟩)], val x, undef, undef, undef, undef, undef], defers := [] } ∧ Holds x W)
    (fun x a' => OwnFrom.and (fun _ _ _ _ h _ _ => h) (holds_own1 _ x)) ?assign ?body ?done ?stop
  case assign =>
    intro l pre x W K hi hc hK
    have hK' := hK _ W (KeepsFrom.refl _ _) trivial hi ⟨rfl, hc⟩
    clear hK
    simp only [val] at hK'
    simp only [hand]
    gi_wp2
    exact hK'
  case body =>
    rintro l pre x a' W hwl hl ⟨⟨⟨v, hv, hrow, _⟩, hh⟩, hB⟩ ⟨rfl, hx⟩ hlt
    have hc := hv.cell
    simp only [val]
    gi_wp2_with (gi_at_builtin; refine wpListIn_append_own _ rfl _ _ 37 rfl w.heap.size 24 i0 (.slice none 0 0) 1 24 Try.underlying37 hi hz0 hz1 hz2 rfl (by decide) _ _ _ rfl (hrow.alloc _) ⟨W.heap.size, 0, none⟩ 1 1 [.slice (some ⟨x.1, 0, none⟩) 512 512] rfl rfl (cell_one_new _ _ _) (by simp [Value.oneCell']) (by unfold maxLen; omega) (by omega) (by have := hB.size; simp; omega) ?_; intro v' w4 hown' hgrow _; obtain ⟨g', cap', rfl⟩ := ownsRow_succ hown'; obtain ⟨hv1, hv2, hr2, hk2, hb2⟩ := hv.appended (by decide) hrow hB.size (Nat.le_refl _) hown' hgrow; have hc1 := hv1.cell; have hf1 := hv1.frozen)
    refine ⟨hk2.from _, trivial, ⟨⟨_, hv2, by rw [List.length_append, List.map_append]; exact hr2, trivial⟩, fun y hy => ?_⟩, hB.trans hb2⟩
    have hy' : Holds y W := by
      rcases List.mem_append.1 hy with h | h
      · exact hh y h
      · rw [List.mem_singleton.1 h]
        exact hx
    exact (((Blk.alloc hy' _).grown hgrow (blk_not_row hy' (by decide) hrow)).far (p := ⟨w.heap.size, 0, none⟩) (blk_not_box hy' (by decide) hv) _)
  case done =>
    rintro D ys W hD hys ⟨⟨⟨v, hv, hrow, _⟩, hh⟩, hB⟩ hK
    have hc := hv.cell
    have Hys := Lib.hid hys
    clear hys
    gi_wp2
    refine ⟨by simp, .inl ⟨_, _, rfl, run_takeDeferred hK, ?_⟩⟩
    have hrow2 := ownsRow_putObj hrow (.deferred none) hK rfl
    have hh2 : ∀ x ∈ ys, Holds x (W.putObj D (.deferred none)) := fun x hx => (holds_own 0).putObj (.deferred none) hh (Nat.zero_le _) hK rfl x hx
    obtain ⟨A, cap, rfl, hr⟩ := gathered (rd_of_row hrow2) hh2 Hys.out (fun b hb => blks_mem hb)
    rw [blks_length]
    exact ⟨_, results_tmp rfl _ _ _, A, cap, rfl, hr, hB.trans (belowK_b (w := w) (Nat.le_refl _) W D _ _ (by simp at hD; omega) hK rfl rfl)⟩
  case stop =>
    rintro D c pre W _ _ h _
    exact h.elim
end Go.Proofs.Ytleoiejkipobbaa.Block
