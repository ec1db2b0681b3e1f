/-
  Contracts of package block's list and Zeros that tell, too, that the row is a new one: no statement is proved here.
  A stream's blocks with their nodes, as package stream hands them on: plain functions over lists of nodes; no Go, and no statement, is proved here.
  Contracts of package stream's iterator over a tree's blocks (its closure that hands on one node's blocks, and the iterator): no statement is proved here.
  What the walks of package stream's laws ask of its code, and the chapter's example: no statement is proved here.
  Contracts of package stream: All, Many, Starts, Where, over its iterator: no statement is proved here. Contract of package stream's All, over its iterator: no statement is proved here. Contracts of package stream's Starts and Where, over its iterator, and of all four calls: no statement is proved here. Contract of package stream's Where, over its iterator, and all four calls' contracts together: no statement is proved here.
-/
import Derived.Test.YtllnnlmhbmladaaGreatDoorBase
import Derived.Test.YtllnnlmhbmladaaGreatDoorRangeO
import Derived.RangeFuncNested
import Derived.RangeFuncBound
import Derived.RangeFuncCalls
import Derived.RangeFuncLeaves
import Derived.RangeFuncBox
import Derived.TacticsInMore
import Derived.Test.YtllnnlmhbmladaaGreatDoorBlockK
import Derived.Test.YtllnnlmhbmladaaGreatDoorStreamM
import Derived.Test.YtllnnlmhbmladaaGreatDoorEntryK2
import Derived.Test.YtllnnlmhbmladaaGreatDoorTreeS
import Derived.Test.YtllnnlmhbmladaaGreatDoorNodes
import Derived.OwnWalkIn
import Derived.LoopNIn
import Derived.LoopIn
import Derived.BigQuiet
import Derived.Deep.QuietTactic
import Derived.Deep.Cut
import Derived.Test.YtllnnlmhbmladaaGreatDoorBlockRef
namespace Go.Proofs.YtllnnlmhbmladaaGreatDoor.Block
open Go.RowKit Go.Shelf Go.Proofs.YtllnnlmhbmladaaGreatDoor.Base Go.Proofs.YtllnnlmhbmladaaGreatDoor.BlockM Go.Proofs.YtllnnlmhbmladaaGreatDoor.Range Go.Proofs.YtllnnlmhbmladaaGreatDoor.Str

attribute [local go_sem] Oper.semAt_some

set_option maxRecDepth 100000 in
set_option maxHeartbeats 2000000 in
theorem list_f (s : L) (n Bs Bn : Nat) (w : World) (hn1 : 1 ≤ n) (hs : s.length ≤ 9223372036854775807) (hn : n ≤ 1000000) (hls : Bs < w.heap.size) (hln : Bn < w.heap.size)
    (hBs : w.cell? ⟨Bs, 0, none⟩ = some (.string ⟨s.toArray⟩)) (hBn : w.cell? ⟨Bn, 0, none⟩ = some (.int .i64 (n : Int))) :
    Calls Tryz.prog 62 #[.func (.func 99) #[] #[.pointer (some ⟨Bs, 0, none⟩), .pointer (some ⟨Bn, 0, none⟩)]] w fun e w' => ∃ g cap, e = .returned (.slice (some ⟨g, 0, none⟩) n cap) ∧ w.heap.size ≤ g ∧ RdL w' (some ⟨g, 0, none⟩) cap (blks n s) ∧ Stp w w' := by
  obtain ⟨i0, hi, hz0, hz1, hz2⟩ := info_parts bytes_info
  refine (callsIn_wide (n := 3)).1 ?_
  refine callsIn_of_wp_marks Tryz.func62 rfl trivial ?_ rfl
  simp only [Tryz.ntmps62, List.size_toArray, List.length_cons, List.length_nil, Nat.reduceAdd, Nat.reduceSub, Array.replicate_succ, Array.replicate_zero, List.push_toArray, List.append_toArray, List.nil_append, List.cons_append]
  gi_wp2
  have bO := Boxed.new w 36 (.slice none 0 0)
  have hB0 : Below w.heap.size w (w.alloc (.cells #[.slice none 0 0] 36)) := (Below.refl _ w).alloc (Nat.le_refl _) _
  refine range_c rfl (by omega) (gf := 99) (lb := #[.pointer (some ⟨Bs, 0, none⟩), .pointer (some ⟨Bn, 0, none⟩)]) rfl trivial (enters_of Tryz.func99 (by kernel_rfl) rfl)
    (blocks_seq _ (by omega) Bs Bn s n hs (by omega) (w.alloc (.cells #[.slice none 0 0] 36)) (by simp; omega) (by simp; omega) ((hB0.cell (p := ⟨Bs, 0, none⟩) hls).trans hBs) ((hB0.cell (p := ⟨Bn, 0, none⟩) hln).trans hBn)) (Below.refl _ _)
    (fun _ _ => trivial) (fun _ _ _ _ _ _ _ _ => trivial) (fun _ => rfl)
    (fun pre W => ((∃ v, Boxed W w.heap.size 36 v ∧ W.ownsRow w.heap.size 46 1 v pre.length (pre.map val) ∧ True) ∧ ∀ x ∈ pre, Holds x W) ∧ Below w.heap.size w W)
    (fun _ _ _ => False)
    (OwnFrom.and (OwnFrom.and (Go.Own.from (holdsRow_own w.heap.size w.heap.size 36 46 1 (fun pre : List Handed => pre.length) (fun pre => pre.map val) (fun _ _ => True)) _) (holds_own _)) (ownFrom_below (Nat.le_refl _) (by simp)))
    (fun _ _ _ _ _ hs _ _ => hs)
    ⟨⟨⟨_, bO, World.ownsRow_nil _ _ _ _, trivial⟩, by simp⟩, hB0⟩
    (fun x a' W => a' = { tmps := #[.func (.func 99) #[] #[.pointer (some ⟨Bs, 0, none⟩), .pointer (some ⟨Bn, 0, none⟩)], undef, .slice none 0 0, .pointer (some ⟨w.heap.size, 0, none⟩), val x, .func (.func 99) #[] #[.pointer (some ⟨Bs, 0, none⟩), .pointer (some ⟨Bn, 0, none⟩)], val x, undef, undef, undef, undef, undef], defers := [] } ∧ Holds x W)
    (fun x a' => OwnFrom.and (fun _ _ _ _ h _ _ => h) (holds_own1 _ x)) ?assign ?body ?done ?stop
  case assign =>
    intro l pre x W K hi hc hK
    have hK' := hK _ W (KeepsFrom.refl _ _) trivial hi ⟨rfl, hc⟩
    clear hK
    simp only [val] at hK'
    simp only [hand]
    gi_wp2
    exact hK'
  case body =>
    rintro l pre x a' W hwl hl ⟨⟨⟨v, hv, hrow, _⟩, hh⟩, hB⟩ ⟨rfl, hx⟩ hlt
    have hc := hv.cell
    simp only [val]
    gi_wp2_with (gi_at_builtin; refine wpListIn_append_own _ rfl _ _ 36 rfl w.heap.size 46 i0 (.slice none 0 0) 1 24 Tryz.underlying36 hi hz0 hz1 hz2 rfl (by decide) _ _ _ rfl (hrow.alloc _) ⟨W.heap.size, 0, none⟩ 1 1 [.slice (some ⟨x.1, 0, none⟩) 512 512] rfl rfl (cell_one_new _ _ _) (by simp [Value.oneCell']) (by unfold maxLen; omega) (by omega) (by have := hB.size; simp; omega) ?_; intro v' w4 hown' hgrow _; obtain ⟨g', cap', rfl⟩ := ownsRow_succ hown'; obtain ⟨hv1, hv2, hr2, hk2, hb2⟩ := hv.appended (by decide) hrow hB.size (Nat.le_refl _) hown' hgrow; have hc1 := hv1.cell; have hf1 := hv1.frozen)
    refine ⟨hk2.from _, trivial, ⟨⟨_, hv2, by rw [List.length_append, List.map_append]; exact hr2, trivial⟩, fun y hy => ?_⟩, hB.trans hb2⟩
    have hy' : Holds y W := by
      rcases List.mem_append.1 hy with h | h
      · exact hh y h
      · rw [List.mem_singleton.1 h]
        exact hx
    exact (((Blk.alloc hy' _).grown hgrow (blk_not_row hy' (by decide) hrow)).far (p := ⟨w.heap.size, 0, none⟩) (blk_not_box hy' (by decide) hv) _)
  case done =>
    rintro D ys W hD hys ⟨⟨⟨v, hv, hrow, _⟩, hh⟩, hB⟩ hK
    have hc := hv.cell
    have Hys := Lib.hid hys
    clear hys
    gi_wp2
    refine ⟨by simp, .inl ⟨_, _, rfl, run_takeDeferred hK, ?_⟩⟩
    have hrow2 := ownsRow_putObj hrow (.deferred none) hK rfl
    have hh2 : ∀ x ∈ ys, Holds x (W.putObj D (.deferred none)) := fun x hx => (holds_own 0).putObj (.deferred none) hh (Nat.zero_le _) hK rfl x hx
    have hyl : ys.length = n := by rw [← List.length_map (·.2), Hys.out, blks_length]
    obtain ⟨A, cap, rfl, hr⟩ := gathered (rd_of_row hrow2) hh2 Hys.out (fun b hb => blks_mem hb)
    obtain ⟨-, ⟨e1, e2⟩ | ⟨g, cap', cur, e1, hbg, -⟩⟩ := hrow2
    · omega
    · simp only [Value.slice.injEq] at e1
      obtain ⟨rfl, -, rfl⟩ := e1
      rw [blks_length]
      exact ⟨_, results_tmp rfl _ _ _, g, cap, rfl, hbg, hr.rdL, hB.trans (belowK_b (w := w) (Nat.le_refl _) W D _ _ (by simp at hD; omega) hK rfl rfl)⟩
  case stop =>
    rintro D c pre W _ _ h _
    exact h.elim
set_option maxRecDepth 100000 in
theorem zeros_f (k : Nat) (g0 : 1 ≤ k) (g3 : k ≤ 400) (w : World) :
    Calls Tryz.prog 47 #[.int .i64 (k : Int)] w fun e w' => ∃ g cap, e = .returned (.slice (some ⟨g, 0, none⟩) k cap) ∧ w.heap.size ≤ g ∧ RdL w' (some ⟨g, 0, none⟩) cap (blks k []) ∧ Stp w w' := by
  have h0 := Stp.refl w
  have g1 : decide ((k : Int) < 1) = false := decide_eq_false (by omega)
  have g2 : decide ((400 : Int) < (k : Int)) = false := decide_eq_false (by omega)
  go_enter Tryz.func47, Tryz.ntmps47
  go_wp2_with fail
  refine (blocks_any _ _ _).mono ?_
  rintro e w2 ⟨rfl, rfl⟩
  have b1 := Boxed.new w 9 (.string ⟨#[]⟩)
  have b2 := Boxed.new (w.alloc (.cells #[.string ⟨#[]⟩] 9)) 3 (.int .i64 (k : Int))
  have b1' := b1.alloc (.cells #[.int .i64 (k : Int)] 3)
  rw [World.size_alloc] at b2
  have h1 : Stp w ((w.alloc (.cells #[.string ⟨#[]⟩] 9)).alloc (.cells #[.int .i64 (k : Int)] 3)) := (h0.alloc _).alloc _
  go_wp2_with fail
  refine (list_f [] k w.heap.size (w.heap.size + 1) _ g0 (by simp) (by omega) (by simp; omega) (by simp) b1'.cell b2.cell).mono ?_
  rintro e w3 ⟨A, cap, rfl, hA, hr, hs3⟩
  replace hA := Nat.le_trans h1.size hA
  replace h1 := Stp.trans h1 hs3
  clear hs3
  go_wp2_with fail
  go_ret
  exact ⟨A, cap, rfl, hA, hr, h1⟩
end Go.Proofs.YtllnnlmhbmladaaGreatDoor.Block

namespace Go.Proofs.YtllnnlmhbmladaaGreatDoor.Stream
open Go.Proofs.YtllnnlmhbmladaaGreatDoor.Node Go.Proofs.YtllnnlmhbmladaaGreatDoor.Head Go.Proofs.YtllnnlmhbmladaaGreatDoor.Long Go.Proofs.YtllnnlmhbmladaaGreatDoor.Entry
open Go.Proofs.YtllnnlmhbmladaaGreatDoor.Tree (oneB mayT)

/-- A block, with its place, its node's number, and which one of its node's bytes' blocks it is. -/
structure Pt where
  at_ : Nat
  node : Nat
  data : Int
  b : L
def dataOf (len d i : Nat) : Int := if (i : Int) - ((len : Int) - (d : Int)) < -1 then -1 else (i : Int) - ((len : Int) - (d : Int))
def ptsOf (node : Nat) (ls : List L) (d at0 : Nat) : List Pt := ls.mapIdx fun i b => ⟨at0 + i, node, dataOf ls.length d i, b⟩
def nodesP (t : List Nd) (k : Nat) : List Pt := (List.range k).flatMap fun j => ptsOf j (putE (t.getD j zeroN)) (dataE (t.getD j zeroN)) (startN t j)
def partsS (t : List Nd) : List Pt := if mayT t = true then nodesP t t.length ++ ptsOf t.length endsV 0 (startN t t.length) else []

theorem ptsOf_length (node : Nat) (ls : List L) (d at0 : Nat) : (ptsOf node ls d at0).length = ls.length := by simp [ptsOf]
theorem ptsOf_at {node : Nat} {ls : List L} {d at0 i : Nat} {b : L} (h : ls[i]? = some b) : (ptsOf node ls d at0)[i]? = some ⟨at0 + i, node, dataOf ls.length d i, b⟩ := by
  unfold ptsOf
  rw [List.getElem?_mapIdx, h]
  rfl
theorem ptsOf_step {node : Nat} {ls : List L} {d at0 i : Nat} {b : L} (h : ls[i]? = some b) : (ptsOf node ls d at0).take (i + 1) = (ptsOf node ls d at0).take i ++ [⟨at0 + i, node, dataOf ls.length d i, b⟩] := by
  rw [List.take_add_one, ptsOf_at h]
  rfl
theorem ptsOf_b (node : Nat) (ls : List L) (d at0 : Nat) : (ptsOf node ls d at0).map (·.b) = ls := by
  refine List.ext_getElem? fun i => ?_
  unfold ptsOf
  rw [List.getElem?_map, List.getElem?_mapIdx]
  cases ls[i]? <;> rfl
theorem nodesP_step {t : List Nd} {k : Nat} {n : Nd} (h : t[k]? = some n) : nodesP t (k + 1) = nodesP t k ++ ptsOf k (putE n) (dataE n) (startN t k) := by
  unfold nodesP
  rw [List.range_succ, List.flatMap_append, List.flatMap_singleton]
  have e : t.getD k zeroN = n := by rw [List.getD_eq_getElem?_getD, h]; rfl
  rw [e]
theorem nodesP_b (t : List Nd) : ∀ k, k ≤ t.length → (nodesP t k).map (·.b) = blocksT (t.take k)
  | 0, _ => rfl
  | k + 1, h => by
    obtain ⟨n, hn⟩ : ∃ n, t[k]? = some n := ⟨_, List.getElem?_eq_getElem (by omega)⟩
    rw [nodesP_step hn, List.map_append, nodesP_b t k (by omega), ptsOf_b, blocks_step hn]
theorem nodesP_length (t : List Nd) (k : Nat) (h : k ≤ t.length) : (nodesP t k).length = startN t k := by
  rw [startN, ← nodesP_b t k h, List.length_map]
theorem parts_yes {t : List Nd} (h : mayT t = true) : partsS t = nodesP t t.length ++ ptsOf t.length endsV 0 (startN t t.length) := by rw [partsS, if_pos h]
theorem parts_no {t : List Nd} (h : mayT t = false) : partsS t = [] := by rw [partsS, if_neg (by simp [h])]
theorem parts_b (t : List Nd) : (partsS t).map (·.b) = allS t := by
  cases h : mayT t
  · rw [parts_no h, allS_no h]
    rfl
  · rw [parts_yes h, allS_yes h, List.map_append, nodesP_b t _ (Nat.le_refl _), ptsOf_b, List.take_length]
theorem parts_length (t : List Nd) : (partsS t).length = (allS t).length := by rw [← parts_b, List.length_map]
theorem nodes_pre {t : List Nd} (h : mayT t = true) {k : Nat} (hk : k ≤ t.length) : nodesP t k <+: partsS t := by
  rw [parts_yes h]
  refine List.IsPrefix.trans ?_ (List.prefix_append _ _)
  have key : ∀ j, k + j ≤ t.length → nodesP t k <+: nodesP t (k + j) := by
    intro j hj
    induction j with
    | zero => exact List.prefix_refl _
    | succ j ih =>
      obtain ⟨n, hn⟩ : ∃ n, t[k + j]? = some n := ⟨_, List.getElem?_eq_getElem (by omega)⟩
      rw [show k + (j + 1) = k + j + 1 by omega, nodesP_step hn]
      exact (ih (by omega)).trans (List.prefix_append _ _)
  have := key (t.length - k) (by omega)
  rwa [show k + (t.length - k) = t.length by omega] at this
theorem all_le {t : List Nd} : (allS t).length ≤ 402 := by
  cases h : mayT t
  · rw [allS_no h]; simp
  · have := blocks_le t
    have := may_len h
    rw [allS_yes h, List.length_append, endsV_length]
    omega
theorem put_512 {n : Nd} {b : L} (h : b ∈ putE n) : b.length = 512 := BlockM.mayV_iff.1 (putE_may n) b h
theorem ends_512 {b : L} (h : b ∈ endsV) : b.length = 512 := BlockM.blks_mem h

/-! ### each consumer's answer -/
theorem nodesP_at {t : List Nd} {k j : Nat} {p : Pt} (hk : k ≤ t.length) (ht : mayT t = true) (h : (nodesP t k)[j]? = some p) : p.at_ = j ∧ ((p.node : Int), p.data) = whereS t j := by
  induction k with
  | zero => simp [nodesP] at h
  | succ k ih =>
    obtain ⟨n, hn⟩ : ∃ n, t[k]? = some n := ⟨_, List.getElem?_eq_getElem (by omega)⟩
    rw [nodesP_step hn] at h
    by_cases hj : j < (nodesP t k).length
    · rw [List.getElem?_append_left hj] at h
      exact ih (by omega) h
    · rw [List.getElem?_append_right (by omega)] at h
      have hl := nodesP_length t k (by omega)
      rw [hl] at h hj
      have hjl : j - startN t k < (putE n).length := by
        have := (List.getElem?_eq_some_iff.1 h).1
        rwa [ptsOf_length] at this
      rw [ptsOf_at (List.getElem?_eq_getElem hjl)] at h
      simp only [Option.some.injEq] at h
      subst h
      refine ⟨by simp only; omega, ?_⟩
      have hs := start_step hn
      have hle := start_le t (k + 1)
      have hal := all_length ht
      rw [start_end] at hal
      have e : whereS t (j : Int) = ((k : Int), ownV n (j - startN t k)) := by
        unfold whereS
        rw [if_pos ⟨by omega, by omega⟩, Int.toNat_natCast]
        exact whereL_in hn (by omega) (by omega)
      rw [e]
      simp only [Prod.mk.injEq, true_and]
      have hd := data_le n
      unfold dataOf ownV
      split <;> split <;> omega
theorem parts_at {t : List Nd} {j : Nat} {p : Pt} (h : (partsS t)[j]? = some p) : p.at_ = j ∧ ((p.node : Int), p.data) = whereS t j := by
  cases ht : mayT t
  · rw [parts_no ht] at h; simp at h
  · rw [parts_yes ht] at h
    have hl := nodesP_length t t.length (Nat.le_refl _)
    by_cases hj : j < (nodesP t t.length).length
    · rw [List.getElem?_append_left hj] at h
      exact nodesP_at (Nat.le_refl _) ht h
    · rw [List.getElem?_append_right (by omega)] at h
      rw [hl] at h hj
      have hjl : j - startN t t.length < endsV.length := by
        have := (List.getElem?_eq_some_iff.1 h).1
        rwa [ptsOf_length] at this
      rw [ptsOf_at (List.getElem?_eq_getElem hjl)] at h
      simp only [Option.some.injEq] at h
      subst h
      refine ⟨by simp only; omega, ?_⟩
      have hal := all_length ht
      rw [endsV_length] at hjl
      have e : whereS t (j : Int) = ((t.length : Int), -1) := by
        unfold whereS
        rw [if_pos ⟨by omega, by omega⟩, Int.toNat_natCast]
        exact whereL_out (by omega)
      rw [e]
      simp only [Prod.mk.injEq, true_and]
      unfold dataOf
      rw [endsV_length]
      split <;> omega
/-- A part at the place that is asked for. -/
theorem where_hit {t : List Nd} {pre : List Pt} {x : Pt} (h : pre ++ [x] <+: partsS t) {i : Int} (hi : (x.at_ : Int) = i) : ((x.node : Int), x.data) = whereS t i := by
  obtain ⟨r, hr⟩ := h
  have e : (partsS t)[pre.length]? = some x := by rw [← hr]; simp
  obtain ⟨h1, h2⟩ := parts_at e
  rw [h2, ← hi, h1]
theorem where_miss {t : List Nd} {i : Int} (h : ∀ p ∈ partsS t, (p.at_ : Int) ≠ i) : whereS t i = (-1, -1) := by
  unfold whereS
  refine if_neg ?_
  rintro ⟨h0, h1⟩
  have hlt : i.toNat < (partsS t).length := by rw [parts_length]; omega
  obtain ⟨p, hp⟩ : ∃ p, (partsS t)[i.toNat]? = some p := ⟨_, List.getElem?_eq_getElem hlt⟩
  refine h p (List.mem_of_getElem? hp) ?_
  rw [(parts_at hp).1]
  omega

end Go.Proofs.YtllnnlmhbmladaaGreatDoor.Stream

namespace Go.Proofs.YtllnnlmhbmladaaGreatDoor.Stream
open Go.RowKit Go.Shelf Go.Proofs.YtllnnlmhbmladaaGreatDoor.Str Go.Proofs.YtllnnlmhbmladaaGreatDoor.Base Go.Proofs.YtllnnlmhbmladaaGreatDoor.Node Go.Proofs.YtllnnlmhbmladaaGreatDoor.Entry Go.Proofs.YtllnnlmhbmladaaGreatDoor.RangeO
open Go.Proofs.YtllnnlmhbmladaaGreatDoor.Tree (oneB mayT)

attribute [local go_sem] Oper.semAt_some

/-- An element that is handed on: a block with its place, and where its bytes lie. -/
abbrev El := Pt × Option Addr × Nat
def encE (x : El) : Array Value := #[.agg #[.int .i64 (x.1.at_ : Int), .int .i64 (x.1.node : Int), .int .i64 x.1.data, .slice x.2.1 512 x.2.2]]
def HasE (D : Prop) (x : El) (X : World) : Prop := x.1.b.length = 512 ∧ (D → RdA X x.2.1 x.2.2 (bs x.1.b))
def IntBox (o : Obj) : Prop := ∃ y : Int, o = .cells #[.int .i64 y] 3 (0, 0)

theorem cell_rnd {O : Nat → Prop} {W X : World} (h : Rnd O W X) {a : Addr} {v : Value} (hc : W.cell? a = some v) (hn : ¬ O a.block) : X.cell? a = some v :=
  (World.cell?_of_block (h.block a.block (World.block_lt_of_cell? W a hc) hn)).trans hc
theorem rd_rnd {O : Nat → Prop} {W X : World} (h : Rnd O W X) {A : Option Addr} {c : Nat} {xs : List Value} (hr : RdA W A c xs) (hn : ∀ b o, A = some ⟨b, o, none⟩ → xs ≠ [] → ¬ O b) : RdA X A c xs := by
  obtain ⟨A', cap, h1, h2, h3⟩ := hr
  simp only [Value.slice.injEq] at h1
  obtain ⟨rfl, -, rfl⟩ := h1
  refine ⟨A, c, rfl, h2, fun hx => ?_⟩
  obtain ⟨b, o, rfl, hb, hu⟩ := h3 hx
  exact ⟨b, o, rfl, Nat.lt_of_lt_of_le hb h.size, fun j u hj => cell_rnd h (hu j u hj) (hn b o rfl hx)⟩
/-- The block of a row of bytes holds a byte. -/
theorem rd_byte {W : World} {b o c : Nat} {l : L} (hr : RdA W (some ⟨b, o, none⟩) c (bs l)) (hl : l ≠ []) : ∃ i x, W.cell? ⟨b, i, none⟩ = some (.int .u8 x) := by
  have h0 : 0 < l.length := List.length_pos_iff.2 hl
  obtain ⟨b', o', e, hu⟩ := hr.at_ (j := 0) (by rw [bs_length]; exact h0)
  simp only [Option.some.injEq, Addr.mk.injEq, and_true] at e
  obtain ⟨rfl, rfl⟩ := e
  exact ⟨_, _, hu 0 _ (bs_at h0)⟩
theorem stp_cell {W X : World} (h : Stp W X) {a : Addr} {v : Value} (hc : W.cell? a = some v) : X.cell? a = W.cell? a := h.cell (World.block_lt_of_cell? W a hc)
theorem boxed_kept {W X : World} {B : Nat} {t : TypeId} {v : Value} (h : Boxed W B t v) (hs : Stp W X) : Boxed X B t v := (hs.block B h.lt).trans h
theorem no3 {p q r : Prop} (h : ¬ p ∧ ¬ q ∧ ¬ r) : ¬ (p ∨ q ∨ r) := fun e => e.elim h.1 fun e => e.elim h.2.1 h.2.2
theorem ne_of_512 {l : L} (h : l.length = 512) : l ≠ [] := by rintro rfl; simp at h

theorem sme_box {O : Nat → Prop} {B ab : Nat} {W : World} {v : Int} (h : Boxed W ab 3 (.int .i64 v)) (hB : B ≤ ab) (hO : ¬ O ab) (u : Int) : Sme IntBox O B W (W.setCell ⟨ab, 0, none⟩ (.int .i64 u)) :=
  ⟨rfl, rfl, rfl, by show _ ≤ (W.heap.modify _ _).size; rw [Array.size_modify]; exact Nat.le_refl _, fun k hk => by
    by_cases e : k = ab
    · subst e
      exact .inr ⟨hB, hO, _, _, h, h.set _, ⟨_, rfl⟩, ⟨_, rfl⟩⟩
    · exact .inl (Below.heap_setCell W _ _ k e)⟩

/-- What the caller keeps, and what its rounds say. -/
structure Caller (l m B N : Nat) (D : Prop) (J Jx : (Nat → Prop) → List El → World → Prop) : Prop where
  stay : ∀ O s X Y, J O s X → Sme IntBox O B X Y → J O s Y
  stayx : ∀ O s X Y, Jx O s X → Sme IntBox O B X Y → Jx O s Y
  lt : ∀ O s X, J O s X → ∀ k, O k → k < X.heap.size
  free : D → ∀ O s X, J O s X → ∀ k i x, O k → X.cell? ⟨k, i, none⟩ ≠ some (.int .u8 x)
  recd : ∀ O s X, J O s X → ∀ i, X.cell? ⟨l, i, none⟩ = none
  round : ∀ O pre x X, J O pre X → HasE D x X → pre.length < N → YieldAt Fence.wide m Tryz.prog l (encE x) X fun e Y =>
    (e = .returned (.bool true) ∧ ∃ O', J O' (pre ++ [x]) Y ∧ (∀ k, O' k → O k ∨ X.heap.size ≤ k) ∧ Rnd (fun k => O k ∨ k = l) X Y) ∨ (e = .returned (.bool false) ∧ ∃ O', Jx O' (pre ++ [x]) Y)

theorem yield_any {m m' l : Nat} {args : Array Value} {W : World} {R : Ending → World → Prop} (h : YieldAt Fence.wide m Tryz.prog l args W R) : YieldAt Fence.wide m' Tryz.prog l args W R := by
  obtain ⟨fn, tmps, assign, body, hy, h1, h2⟩ := h
  exact ⟨fn, tmps, assign, body, hy, h1, fun c cs _ => h2 c cs (room_wide _)⟩

set_option maxRecDepth 100000 in
set_option maxHeartbeats 1000000 in
/-- One node's blocks, handed on. -/
theorem hand_in (n : Nat) (hn : 1 ≤ n) {l m B N : Nat} {D : Prop} {J Jx : (Nat → Prop) → List El → World → Prop} (hC : Caller l m B N D J Jx) (yb ab g o cap len node d at0 : Nat) (ls : List L) (O : Nat → Prop) (pre : List El) (W : World)
    (hlen : ls.length = len) (hsm : at0 + len ≤ 1000000) (hd : d ≤ len) (h512 : ∀ b ∈ ls, b.length = 512) (hN : pre.length + len ≤ N)
    (hyb : W.cell? ⟨yb, 0, none⟩ = some (.func (.yield l) #[] #[])) (hyO : ¬ O yb ∧ yb ≠ l ∧ yb ≠ ab) (hab : Boxed W ab 3 (.int .i64 (at0 : Int))) (haO : ¬ O ab ∧ ab ≠ l ∧ B ≤ ab) (hgO : ¬ O g ∧ g ≠ l ∧ g ≠ ab)
    (hL : ∀ i b, ls[i]? = some b → ∃ A1 c1, W.cell? ⟨g, o + i, none⟩ = some (.slice A1 512 c1) ∧ RdA W A1 c1 (bs b)) (hJ : J O pre W) :
    CallsIn Fence.wide n Tryz.prog 67 #[.int .i64 (node : Int), .slice (some ⟨g, o, none⟩) len cap, .int .i64 (d : Int), .pointer (some ⟨yb, 0, none⟩), .pointer (some ⟨ab, 0, none⟩)] W fun e Y =>
      (e = .returned (.bool true) ∧ ∃ O' xs, xs.map (·.1) = ptsOf node ls d at0 ∧ J O' (pre ++ xs) Y ∧ Boxed Y ab 3 (.int .i64 ((at0 + len : Nat) : Int)) ∧ (∀ k, O' k → O k ∨ W.heap.size ≤ k) ∧ Rnd (fun j => O j ∨ j = l ∨ j = ab) W Y) ∨
      (e = .returned (.bool false) ∧ ∃ O' xs, xs.map (·.1) <+: ptsOf node ls d at0 ∧ Jx O' (pre ++ xs) Y) := by
  have hcap : True := trivial
  refine callsIn_of_wp Tryz.func67 rfl trivial ?_ rfl
  simp only [Tryz.ntmps67, List.size_toArray, List.length_cons, List.length_nil, Nat.reduceAdd, Nat.reduceSub, Array.replicate_succ, Array.replicate_zero, List.push_toArray, List.append_toArray, List.nil_append, List.cons_append]
  have HC := Lib.hid hC
  have HyO := Lib.hid hyO
  have HaO := Lib.hid haO
  have HgO := Lib.hid hgO
  have HL := Lib.hid hL
  have Hyb := Lib.hid hyb
  have Hlen := Lib.hid hlen
  have H5 := Lib.hid h512
  have HJ0 := Lib.hid hJ
  have Hab := Lib.hid hab
  obtain ⟨z, hz⟩ : ∃ z : Int, (len : Int) - (d : Int) = z := ⟨_, rfl⟩
  have hw : IntKind.i64.wrap ((len : Int) - (d : Int)) = z := by rw [IntKind.wrap_i64]; omega
  clear hC hyO haO hgO hL hyb hlen h512 hJ hab
  gi_wp2
  gi_loopw [18] (fun i wr => ∃ (k : Nat) (O' : Nat → Prop) (xs : List El), k ≤ len ∧ i = .int .i64 (k : Int) ∧ Hid (xs.map (·.1) = (ptsOf node ls d at0).take k) ∧ Hid (J O' (pre ++ xs) wr) ∧ Hid (Boxed wr ab 3 (.int .i64 ((at0 + k : Nat) : Int))) ∧
    Hid (∀ j, O' j → O j ∨ W.heap.size ≤ j) ∧ Hid (Rnd (fun j => O j ∨ j = l ∨ j = ab) W wr)) (fun i _ => len - (intOf i).toNat)
  case atStart => exact ⟨0, O, [], by omega, rfl, Lib.hid (by simp), Lib.hid (by simpa using HJ0.out), Hab, Lib.hid (fun _ h => .inl h), Lib.hid (Rnd.refl W)⟩
  case round =>
    obtain ⟨k, O', xs, hk, rfl, Hx, HJ, Hb, Hs, HR⟩ := hrel
    by_cases hlt : k < len
    · obtain ⟨b, hb⟩ : ∃ b, ls[k]? = some b := ⟨_, List.getElem?_eq_getElem (by have := Hlen.out; omega)⟩
      obtain ⟨A1, c1, hcell, hrd⟩ := HL.out k b hb
      have hb5 := H5.out b (List.mem_of_getElem? hb)
      have q0 : wr.cell? ⟨g, o + k, none⟩ = some (.slice A1 512 c1) := cell_rnd HR.out hcell (no3 HgO.out)
      have q1 : wr.cell? ⟨yb, 0, none⟩ = some (.func (.yield l) #[] #[]) := cell_rnd HR.out Hyb.out (no3 HyO.out)
      have q2 := Hb.out.cell
      have hE : HasE D ((⟨at0 + k, node, dataOf len d k, b⟩, A1, c1) : El) wr := ⟨hb5, fun hD => rd_rnd HR.out hrd (fun b1 o1 e hx => by
        subst e
        obtain ⟨i, x, hx⟩ := rd_byte hrd (ne_of_512 hb5)
        rintro (h | h | h)
        · exact HC.out.free hD O pre W HJ0.out b1 i x h hx
        · subst h
          rw [HC.out.recd O pre W HJ0.out i] at hx
          cases hx
        · subst h
          have hb' : Blk W b1 3 #[.int .i64 (at0 : Int)] := Hab.out
          rw [hb'.cell i] at hx
          have hm := Array.mem_of_getElem? hx
          simp at hm)⟩
      have hxl : xs.length = k := by
        have := congrArg List.length Hx.out
        rw [List.length_map, List.length_take, ptsOf_length, Hlen.out] at this
        omega
      obtain ⟨fn, tmps, assign, body, hy, hR2⟩ := yield_any (m' := n - 1) (HC.out.round O' (pre ++ xs) _ wr HJ.out hE (by rw [List.length_append, hxl]; omega))
      dsimp only [encE] at hy
      obtain ⟨p, hp⟩ : ∃ p : Int, ((at0 + k : Nat) : Int) = p := ⟨_, rfl⟩
      obtain ⟨q, hq⟩ : ∃ q : Int, dataOf len d k = q := ⟨_, rfl⟩
      rw [hp] at q2
      rw [hp, hq] at hy
      have hw2 : IntKind.i64.wrap ((k : Int) - z) = (k : Int) - z := by rw [IntKind.wrap_i64]; omega
      have hmx : max ((k : Int) - z) (-1) = q := by rw [← hq, ← hz]; unfold dataOf; split <;> omega
      have Hp := Lib.hid hp
      have Hk := Lib.hid (show (ptsOf node ls d at0).take (k + 1) = (ptsOf node ls d at0).take k ++ [⟨at0 + k, node, dataOf len d k, b⟩] by rw [ptsOf_step hb, Hlen.out])
      have hw3 : IntKind.i64.wrap (p + 1) = p + 1 := by rw [IntKind.wrap_i64]; omega
      clear hb hcell hrd hb5 hE hxl hp hq
      gi_wp2
      refine hR2.mono ?_
      rintro e Y (⟨rfl, O2, hJ2, hs2, hR3⟩ | ⟨rfl, O2, hJ2⟩)
      · have hb2 : Boxed Y ab 3 (.int .i64 p) := by
          have := Hb.out
          rw [Hp.out] at this
          refine hR3.same this ?_
          have h1 := HaO.out
          have h2 := Hab.out.lt
          rintro (h | h)
          · rcases Hs.out _ h with h | h
            · exact h1.1 h
            · omega
          · exact h1.2.1 h
        have q3 := hb2.cell
        have q4 := hb2.frozen
        have Hb2 := Lib.hid hb2
        have HJ2 := Lib.hid hJ2
        have Hs2 := Lib.hid hs2
        have HR3 := Lib.hid hR3
        clear hb2 hJ2 hs2 hR3
        gi_wp2
        go_roundw
        case rel =>
          have hsub : ∀ j, O2 j → O j ∨ W.heap.size ≤ j := fun j hj => by
            rcases Hs2.out j hj with h | h
            · exact Hs.out j h
            · exact .inr (Nat.le_trans HR.out.size h)
          have hno : ¬ O2 ab := fun h => by
            have h2 := Hab.out.lt
            rcases hsub _ h with h | h
            · exact HaO.out.1 h
            · omega
          refine ⟨k + 1, O2, xs ++ [(⟨at0 + k, node, dataOf len d k, b⟩, A1, c1)], by omega, by go_num, Lib.hid ?_, Lib.hid ?_, Lib.hid ?_, Lib.hid hsub, Lib.hid ?_⟩
          · rw [List.map_append, Hx.out, Hk.out]
            rfl
          · rw [← List.append_assoc]
            exact HC.out.stay O2 _ Y _ HJ2.out (sme_box Hb2.out HaO.out.2.2 hno _)
          · rw [show ((at0 + (k + 1) : Nat) : Int) = p + 1 by rw [← Hp.out]; omega]
            exact Hb2.out.set _
          · refine Rnd.setCell (HR.out.trans HR3.out fun j hj => ?_) (.inl (.inr (.inr rfl))) _
            rcases hj with h | h
            · exact (Hs.out j h).imp .inl id
            · exact .inl (.inr (.inl h))
        case measure => simp [intOf]; omega
      · gi_wp2
        refine bodyPost_ret (results_tmp rfl _ _ _) rfl ?_
        refine .inr ⟨rfl, O2, xs ++ [(⟨at0 + k, node, dataOf len d k, b⟩, A1, c1)], ?_, by rw [← List.append_assoc]; exact hJ2⟩
        rw [List.map_append, Hx.out]
        exact Hk.out ▸ List.take_prefix (k + 1) _
    · obtain rfl : k = len := by omega
      gi_wp2
      refine bodyPost_ret (results_tmp rfl _ _ _) rfl ?_
      refine .inl ⟨rfl, O', xs, ?_, HJ.out, Hb.out, Hs.out, HR.out⟩
      rw [Hx.out, ← Hlen.out]
      exact List.take_of_length_le (by rw [ptsOf_length]; omega)

/-- What a row of blocks of the iterator's own holds. -/
theorem rows_at {W : World} {lo : Nat} {e : TypeId} {v : Value} {ls : List L} (h : Base.Rows W lo e v ls) (hne : ls ≠ []) (h5 : ∀ b ∈ ls, b.length = 512) :
    ∃ g cap, v = .slice (some ⟨g, 0, none⟩) ls.length cap ∧ lo ≤ g ∧ g < W.heap.size ∧ AllSl W v ∧ ∀ i b, ls[i]? = some b → ∃ A1 c1, W.cell? ⟨g, 0 + i, none⟩ = some (.slice A1 512 c1) ∧ RdA W A1 c1 (bs b) := by
  obtain ⟨us, h1, h2, h3, h4⟩ := h
  obtain ⟨g, cap, rfl, hl, hlt⟩ := h1.form (by rintro rfl; exact hne (List.eq_nil_of_length_eq_zero (by simpa using h3.symm)))
  refine ⟨g, cap, by rw [h3], hl, hlt, h2, fun i b hb => ?_⟩
  obtain ⟨u, hu, hr⟩ := h4 i b hb
  have hc : W.cell? ⟨g, i, none⟩ = some u := by
    obtain ⟨A, c, he, _, hc⟩ := h1.rd
    obtain ⟨b', o, rfl, _, hu'⟩ := hc (by rintro rfl; simp at hu)
    simp only [Value.slice.injEq, Option.some.injEq, Addr.mk.injEq, and_true] at he
    obtain ⟨⟨rfl, rfl⟩, -, -⟩ := he
    have := hu' i u hu
    rwa [Nat.zero_add] at this
  obtain ⟨A1, c1, rfl, hA⟩ := RdA.of hr
  rw [bs_length, h5 b (List.mem_of_getElem? hb)] at hc
  exact ⟨A1, c1, by rw [Nat.zero_add]; exact hc, hA⟩
theorem at_keep {W X : World} {g o : Nat} {ls : List L} (h : ∀ i b, ls[i]? = some b → ∃ A1 c1, W.cell? ⟨g, o + i, none⟩ = some (.slice A1 512 c1) ∧ RdA W A1 c1 (bs b)) (hs : Stp W X) :
    ∀ i b, ls[i]? = some b → ∃ A1 c1, X.cell? ⟨g, o + i, none⟩ = some (.slice A1 512 c1) ∧ RdA X A1 c1 (bs b) := fun i b hb => by
  obtain ⟨A1, c1, h1, h2⟩ := h i b hb
  exact ⟨A1, c1, (stp_cell hs h1).trans h1, h2.keep hs⟩
theorem rdL_at {W : World} {g cap : Nat} {ls : List L} (h : RdL W (some ⟨g, 0, none⟩) cap ls) (h5 : ∀ b ∈ ls, b.length = 512) :
    ∀ i b, ls[i]? = some b → ∃ A1 c1, W.cell? ⟨g, 0 + i, none⟩ = some (.slice A1 512 c1) ∧ RdA W A1 c1 (bs b) := fun i b hb => by
  obtain ⟨b', o, A1, c1, e, hc, hr⟩ := h.at_ hb
  simp only [Option.some.injEq, Addr.mk.injEq, and_true] at e
  obtain ⟨rfl, rfl⟩ := e
  rw [h5 b (List.mem_of_getElem? hb)] at hc
  exact ⟨A1, c1, hc, hr⟩

theorem zeros_2 (w : World) : Calls Tryz.prog 47 #[.int .i64 2] w fun e w' => ∃ g cap, e = .returned (.slice (some ⟨g, 0, none⟩) 2 cap) ∧ w.heap.size ≤ g ∧ RdL w' (some ⟨g, 0, none⟩) cap endsV ∧ Stp w w' :=
  Block.zeros_f 2 (by omega) (by omega) w
/-- The two blocks behind. -/
theorem hand_0 {l m B N : Nat} {D : Prop} {J Jx : (Nat → Prop) → List El → World → Prop} (hC : Caller l m B N D J Jx) (yb ab g cap node at0 : Nat) (O : Nat → Prop) (pre : List El) (W : World)
    (hsm : at0 + 2 ≤ 1000000) (hN : pre.length + 2 ≤ N)
    (hyb : W.cell? ⟨yb, 0, none⟩ = some (.func (.yield l) #[] #[])) (hyO : ¬ O yb ∧ yb ≠ l ∧ yb ≠ ab) (hab : Boxed W ab 3 (.int .i64 (at0 : Int))) (haO : ¬ O ab ∧ ab ≠ l ∧ B ≤ ab) (hgO : ¬ O g ∧ g ≠ l ∧ g ≠ ab)
    (hL : ∀ i b, endsV[i]? = some b → ∃ A1 c1, W.cell? ⟨g, 0 + i, none⟩ = some (.slice A1 512 c1) ∧ RdA W A1 c1 (bs b)) (hJ : J O pre W) :
    CallsIn Fence.wide 1 Tryz.prog 67 #[.int .i64 (node : Int), .slice (some ⟨g, 0, none⟩) 2 cap, .int .i64 0, .pointer (some ⟨yb, 0, none⟩), .pointer (some ⟨ab, 0, none⟩)] W fun e Y =>
      ∃ r, e = .returned (.bool r) ∧ ((∃ xs O', xs.map (·.1) = ptsOf node endsV 0 at0 ∧ J O' (pre ++ xs) Y) ∨ (∃ xs O', xs.map (·.1) <+: ptsOf node endsV 0 at0 ∧ Jx O' (pre ++ xs) Y)) := by
  refine (hand_in 1 (by omega) hC yb ab g 0 cap 2 node 0 at0 endsV O pre W endsV_length hsm (by omega) (fun b hb => ends_512 hb) hN hyb hyO hab haO hgO hL hJ).mono ?_
  rintro e Y (⟨h, O', xs, h1, h2, -⟩ | h)
  · exact ⟨_, h, .inl ⟨xs, O', h1, h2⟩⟩
  · obtain ⟨h, O', xs, h1, h2⟩ := h
    exact ⟨_, h, .inr ⟨xs, O', h1, h2⟩⟩

set_option maxRecDepth 100000 in
set_option maxHeartbeats 2000000 in
/-- The iterator. -/
theorem parts_in (n : Nat) {l m B N : Nat} {D : Prop} {J Jx : (Nat → Prop) → List El → World → Prop} (hC : Caller l m B N D J Jx) (t : List Nd) (A : Option Addr) (c tb : Nat) (O : Nat → Prop) (w00 W : World)
    (ha : RdN w00 A c t) (hl : t.length ≤ 1000) (hs : ∀ n ∈ t, SmallN n) (h00 : Stp w00 W) (htb : W.cell? ⟨tb, 0, none⟩ = some (.slice A t.length c)) (hB : B ≤ W.heap.size) (htl : tb ≠ l) (htW : tb < W.heap.size) (hll : w00.heap.size ≤ l)
    (hl2 : l < W.heap.size) (htO : ¬ O tb) (hnO : ∀ k, k < w00.heap.size → ¬ O k) (hN : (partsS t).length ≤ N) (hJ : J O [] W) :
    CallsIn Fence.wide n Tryz.prog 65 #[.func (.yield l) #[] #[], .pointer (some ⟨tb, 0, none⟩)] W fun e Y => (∃ v, e = .returned v) ∧
      ((∃ xs O, xs.map (·.1) = partsS t ∧ J O xs Y) ∨ (∃ pre O, pre.map (·.1) <+: partsS t ∧ Jx O pre Y)) := by
  refine callsIn_wide.2 ?_
  have HC := Lib.hid hC
  have Ha := Lib.hid ha
  have Hs := Lib.hid hs
  have HJ := Lib.hid hJ
  have Hb0 := Boxed.new W 113 (.func (.yield l) #[] #[])
  have q0 : (W.alloc (.cells #[.func (.yield l) #[] #[]] 113)).cell? ⟨tb, 0, none⟩ = some (.slice A t.length c) := ((Stp.alloc (Stp.refl W) _).cell (p := ⟨tb, 0, none⟩) (World.block_lt_of_cell? W _ htb)).trans htb
  have Htb := Lib.hid htb
  have H0 := Lib.hid (Stp.trans h00 (Stp.alloc (Stp.refl W) (.cells #[.func (.yield l) #[] #[]] 113)))
  have H1 := Lib.hid (Stp.alloc (Stp.refl W) (.cells #[.func (.yield l) #[] #[]] 113))
  have hmf : ∀ (fn : Fn) (first cap : Array Value) (w : World), (Instr.makeFunc fn first cap).run Tryz.prog w = .ok (.func fn first cap) w := fun _ _ _ _ => rfl
  clear hC ha hs hJ htb
  cases hm : mayT t
  · have Hm := Lib.hid hm
    clear hm
    go_enter Tryz.func65, Tryz.ntmps65
    go_wp2_with (go_at_call 66; (with_reducible refine (Tree.tmay_s t A c _ (Ha.out.keep H0.out) hl Hs.out).mono ?_); rintro e w1 ⟨rfl, hs⟩; rw [Hm.out]; have H2 := Lib.hid (Stp.trans H1.out hs); clear hs)
    refine bodyPost_ret (results_none rfl _ _ _) rfl ⟨⟨_, rfl⟩, .inl ⟨[], O, by rw [parts_no Hm.out]; rfl, HC.out.stay O [] W _ HJ.out (Sme.of_stp H2.out)⟩⟩
  · have Hm := Lib.hid hm
    clear hm
    go_enter Tryz.func65, Tryz.ntmps65
    go_wp2_with (go_at_call 66; (with_reducible refine (Tree.tmay_s t A c _ (Ha.out.keep H0.out) hl Hs.out).mono ?_); rintro e w1 ⟨rfl, hs⟩; rw [Hm.out]; have H2 := Lib.hid (Stp.trans H1.out hs); replace Hb0 := boxed_kept Hb0 hs; replace q0 := (stp_cell (hs.alloc (.cells #[.int .i64 0] 3)) q0).trans q0; clear hs)
    obtain ⟨yb, hyb⟩ : ∃ x, W.heap.size = x := ⟨_, rfl⟩
    obtain ⟨ab, hab⟩ : ∃ x, w1.heap.size = x := ⟨_, rfl⟩
    obtain ⟨V, hV⟩ : ∃ x, w1.alloc (.cells #[.int .i64 0] 3) = x := ⟨_, rfl⟩
    have hb0 : Boxed V ab 3 (.int .i64 0) := by rw [← hV, ← hab]; exact Boxed.new _ _ _
    have hb1 : Boxed V yb 113 (.func (.yield l) #[] #[]) := by rw [← hV, ← hyb]; exact Hb0.alloc _
    have hWV : Stp W V := by rw [← hV]; exact Stp.alloc H2.out _
    have hya : yb < ab := by rw [← hyb, ← hab]; exact Hb0.lt
    have hno : ∀ k, O k → k < yb := fun k hk => by rw [← hyb]; exact HC.out.lt O [] W HJ.out k hk
    have hVJ : J O [] V := HC.out.stay O [] W _ HJ.out (Sme.of_stp hWV)
    have haV : ab < V.heap.size := hb0.lt
    have h0V : Stp w00 V := Stp.trans h00 hWV
    have h00s := h00.size
    rw [hV] at q0
    rw [hV, hab, hyb]
    rw [hyb] at hl2 hB h00s htW
    have HVJ := Lib.hid hVJ
    have Hb := Lib.hid hb0
    have Hy := Lib.hid hb1
    have H0V := Lib.hid h0V
    have Hno := Lib.hid hno
    have HnO := Lib.hid hnO
    have Q0 := Lib.hid q0
    clear hb0 hb1 hWV hno hVJ h0V hV hab hyb Hb0 H2 H1 H0 Htb hnO HJ h00 q0
    have hl5 : (t.length : Int) < 9223372036854775808 := by omega
    go_loopw [15] (fun i wr => ∃ (k : Nat) (O' : Nat → Prop) (xs : List El), k ≤ t.length ∧ i = .int .i64 (k : Int) ∧ Hid (xs.map (·.1) = nodesP t k) ∧ Hid (J O' xs wr) ∧ Hid (Boxed wr ab 3 (.int .i64 (startN t k : Int))) ∧
      Hid (∀ j, O' j → O j ∨ V.heap.size ≤ j) ∧ Hid (Rnd (fun j => O j ∨ j = l ∨ j = ab) V wr)) (fun i _ => t.length - (intOf i).toNat)
    case atStart => exact ⟨0, O, [], by omega, rfl, Lib.hid rfl, HVJ, by rw [start_zero]; exact Hb, Lib.hid (fun _ h => .inl h), Lib.hid (Rnd.refl V)⟩
    case round =>
      obtain ⟨k, O', xs, hk, rfl, Hx, HJ, Hb, Hs2, HR⟩ := hrel
      have h0w : Stp w00 wr := Below.trans H0V.out (HR.out.below H0V.out.size fun j hj => no3 ⟨HnO.out j hj, by omega, by omega⟩)
      by_cases hlt : k < t.length
      · obtain ⟨n, hn⟩ : ∃ n, t[k]? = some n := ⟨_, List.getElem?_eq_getElem hlt⟩
        obtain ⟨b, o, rfl, hbl, q0, q1, q2, q3, q4, q5, q6, q7⟩ := (Ha.out.keep h0w).cells hn
        have Hk := Lib.hid hn
        have Hsn := Lib.hid (Hs.out n (List.mem_of_getElem? hn))
        clear hn
        have hkl : startN t k + (putE n).length ≤ (partsS t).length := by
          have h1 := start_le t (k + 1)
          have h2 := all_length Hm.out
          rw [start_step Hk.out] at h1
          rw [start_end] at h2
          rw [parts_length]
          omega
        have hxl : xs.length = startN t k := by rw [← nodesP_length t k (by omega), ← Hx.out, List.length_map]
        have hal : (partsS t).length ≤ 402 := by rw [parts_length]; exact all_le
        have hyw : wr.cell? ⟨yb, 0, none⟩ = some (.func (.yield l) #[] #[]) := cell_rnd HR.out Hy.out.cell (no3 ⟨fun h => by have := Hno.out yb h; omega, by show yb ≠ l; omega, by show yb ≠ ab; omega⟩)
        have hyo : ¬ O' yb := fun h => by
          rcases Hs2.out yb h with h | h
          · have := Hno.out yb h; omega
          · omega
        have hao : ¬ O' ab := fun h => by
          rcases Hs2.out ab h with h | h
          · have := Hno.out ab h; omega
          · omega
        have hlo := HC.out.lt O' xs wr HJ.out
        have hVr := HR.out.size
        have Hkl := Lib.hid hkl
        have Hxl := Lib.hid hxl
        have Hal := Lib.hid hal
        have Hyw := Lib.hid hyw
        have Hyo := Lib.hid hyo
        have Hao := Lib.hid hao
        have Hlo := Lib.hid hlo
        have Hone := Lib.hid (Tree.may_one Hm.out Hk.out)
        have Hne := Lib.hid (show putE n ≠ [] by intro e; have := put_pos Hone.out; rw [e] at this; simp at this)
        obtain ⟨S, hS⟩ : ∃ x, startN t k = x := ⟨_, rfl⟩
        have HS := Lib.hid hS
        clear hkl hxl hal hyw hyo hao hlo hS
        go_upto_region 7 with fail
        have hf := Blk.new wr 23 (ncells n)
        have hst := Stp.alloc (Stp.refl wr) (.cells (ncells n) 23)
        generalize wr.alloc (.cells (ncells n) 23) = W6 at hf hst ⊢
        have Hf := Lib.hid hf
        have Hst := Lib.hid hst
        obtain ⟨q0, q1, q2, q3, q4, q5, q6, q7⟩ := nd_cells hf
        clear hf hst
        go_wp2_with (first
          | (go_at_call 68; (with_reducible refine (eput_r n Hsn.out _).mono ?_); rintro e w3 ⟨v, rfl, hr, hs⟩; obtain ⟨g, cap, rfl, hg, -, -, hat⟩ := rows_at hr Hne.out (fun b hb => put_512 hb); have Hat := Lib.hid hat; have Hg := Lib.hid (Nat.le_trans Hst.out.size hg); replace Hf := Lib.hid (Hf.out.keep hs Hf.out.lt); replace Hst := Lib.hid (Stp.trans Hst.out hs); clear hs hr hg hat q0 q1 q2 q3 q4 q5 q6 q7; obtain ⟨q0, q1, q2, q3, q4, q5, q6, q7⟩ := nd_cells Hf.out)
          | (go_at_call 69; (with_reducible refine (edata_s n Hsn.out _).mono ?_); rintro e w4 ⟨rfl, hs⟩; replace Hat := Lib.hid (at_keep Hat.out hs); replace Hst := Lib.hid (Stp.trans Hst.out hs); clear hs q0 q1 q2 q3 q4 q5 q6 q7))
        (with_reducible refine (callsIn_wide.1 (hand_in 1 (by omega) HC.out yb ab g 0 cap (putE n).length k (dataE n) S (putE n) O' xs w4 rfl (by have := Hkl.out; have := Hal.out; have := HS.out; omega) (data_le n) (fun b hb => put_512 hb) (by have := Hkl.out; have := Hxl.out; omega)
          ((stp_cell Hst.out Hyw.out).trans Hyw.out) ⟨Hyo.out, by omega, by omega⟩ (by have := boxed_kept Hb.out Hst.out; rwa [HS.out] at this) ⟨Hao.out, by omega, by omega⟩ ⟨fun h => by have := Hlo.out g h; have := Hg.out; omega, by have := Hg.out; omega, by have := Hg.out; omega⟩ Hat.out (HC.out.stay O' xs wr _ HJ.out (Sme.of_stp Hst.out)))).mono ?_)
        rintro e Y (⟨rfl, O2, zs, hz, hJ2, hb2, hs2, hR2⟩ | ⟨rfl, O2, zs, hz, hJ2⟩)
        · have HJ2 := Lib.hid hJ2
          have Hb2 := Lib.hid hb2
          have Hs3 := Lib.hid hs2
          have HR2 := Lib.hid hR2
          have Hz := Lib.hid hz
          clear hz hJ2 hb2 hs2 hR2
          go_wp2_with fail
          go_roundw
          case rel =>
            refine ⟨k + 1, O2, xs ++ zs, by omega, by go_num, Lib.hid ?_, HJ2, Lib.hid ?_, Lib.hid ?_, Lib.hid ?_⟩
            · rw [List.map_append, Hx.out, Hz.out, nodesP_step Hk.out, HS.out]
            · rw [start_step Hk.out, HS.out]
              exact Hb2.out
            · intro j hj
              rcases Hs3.out j hj with h | h
              · exact Hs2.out j h
              · exact .inr (Nat.le_trans hVr (Nat.le_trans Hst.out.size h))
            · refine (HR.out.trans (O' := O) (Rnd.of_stp Hst.out) (fun j hj => .inl (.inl hj))).trans HR2.out fun j hj => ?_
              rcases hj with h | h
              · exact (Hs2.out j h).imp .inl id
              · exact .inl (.inr h)
          case measure => simp [intOf]; omega
        · go_wp2_with fail
          refine bodyPost_ret (results_none rfl _ _ _) rfl ⟨⟨_, rfl⟩, .inr ⟨xs ++ zs, O2, ?_, hJ2⟩⟩
          rw [List.map_append, Hx.out]
          refine List.IsPrefix.trans ?_ (nodes_pre Hm.out (k := k + 1) (by omega))
          rw [nodesP_step Hk.out, HS.out]
          exact (List.prefix_append_right_inj _).2 hz
      · obtain rfl : k = t.length := by omega
        have hkl : startN t t.length + 2 = (partsS t).length := by
          rw [parts_length, all_length Hm.out]
        have hxl : xs.length = startN t t.length := by rw [← nodesP_length t t.length (Nat.le_refl _), ← Hx.out, List.length_map]
        have hal : (partsS t).length ≤ 402 := by rw [parts_length]; exact all_le
        have hyw : wr.cell? ⟨yb, 0, none⟩ = some (.func (.yield l) #[] #[]) := cell_rnd HR.out Hy.out.cell (no3 ⟨fun h => by have := Hno.out yb h; omega, by show yb ≠ l; omega, by show yb ≠ ab; omega⟩)
        have htw : wr.cell? ⟨tb, 0, none⟩ = some (.slice A t.length c) := cell_rnd HR.out Q0.out (no3 ⟨htO, htl, by show tb ≠ ab; omega⟩)
        have hyo : ¬ O' yb := fun h => by
          rcases Hs2.out yb h with h | h
          · have := Hno.out yb h; omega
          · omega
        have hao : ¬ O' ab := fun h => by
          rcases Hs2.out ab h with h | h
          · have := Hno.out ab h; omega
          · omega
        have hlo := HC.out.lt O' xs wr HJ.out
        have hVr := HR.out.size
        obtain ⟨S, hS⟩ : ∃ x, startN t t.length = x := ⟨_, rfl⟩
        rw [hS] at hkl hxl
        have HS := Lib.hid hS
        have Hkl := Lib.hid hkl
        have Hxl := Lib.hid hxl
        have Hal := Lib.hid hal
        have Hyw := Lib.hid hyw
        have Hyo := Lib.hid hyo
        have Hao := Lib.hid hao
        have Hlo := Lib.hid hlo
        have Htw := Lib.hid htw
        have hd : wr.drew.cell? ⟨tb, 0, none⟩ = some (.slice A t.length c) := htw
        have Hst := Lib.hid (show Stp wr wr.drew from Stp.drewN (Stp.refl wr) 1)
        have Hnn := Lib.hid (And.intro hVr (And.intro haV (And.intro hya (And.intro hl2 htW))))
        have HN := Lib.hid hN
        have HlB := Lib.hid (And.intro hB (And.intro hll h00s))
        clear hkl hxl hal hyw hyo hao hlo hS htw hk hlt hVr haV hya hl2 htW hB hll h00s htO htl hN hl h0w
        go_upto_region 10 with fail
        go_region_with (first
          | (go_at_call 47; (with_reducible refine (zeros_2 _).mono ?_); rintro e w5 ⟨g, cap, rfl, hg, hr, hs⟩; have Hat := Lib.hid (rdL_at hr (fun b hb => ends_512 hb)); have Hg := Lib.hid (Nat.le_trans Hst.out.size hg); replace Hst := Lib.hid (Stp.trans Hst.out hs); have hd := (stp_cell hs hd).trans hd; clear hs hr hg)
          | (go_at_call 67; (with_reducible refine (callsIn_wide.1 (hand_0 HC.out yb ab _ _ t.length S O' xs _ (by have := Hkl.out; have := Hal.out; omega) (by have := Hkl.out; have := Hxl.out; have := HN.out; omega) ((stp_cell Hst.out Hyw.out).trans Hyw.out) ⟨Hyo.out, by have := Hnn.out; omega, by have := Hnn.out; omega⟩ (by have := boxed_kept Hb.out Hst.out; rwa [HS.out] at this) ⟨Hao.out, by have := Hnn.out; omega, by have := Hnn.out; have := HlB.out; omega⟩ ⟨fun h => by have := Hlo.out _ h; have := Hg.out; omega, by have := Hg.out; have := Hnn.out; omega, by have := Hg.out; have := Hnn.out; omega⟩ Hat.out (HC.out.stay O' xs wr _ HJ.out (Sme.of_stp Hst.out)))).mono ?_); rintro e Y ⟨r, rfl, h⟩; have H := Lib.hid h; clear h))
        all_goals go_wp2_with fail
        all_goals go_end0
        all_goals refine ⟨⟨_, rfl⟩, ?_⟩
        all_goals
          rw [parts_yes Hm.out, HS.out]
          rcases H.out with ⟨zs, O2, h1, h2⟩ | ⟨zs, O2, h1, h2⟩
          · exact .inl ⟨xs ++ zs, O2, by rw [List.map_append, Hx.out, h1], h2⟩
          · exact .inr ⟨xs ++ zs, O2, by rw [List.map_append, Hx.out]; exact (List.prefix_append_right_inj _).2 h1, h2⟩
end Go.Proofs.YtllnnlmhbmladaaGreatDoor.Stream

namespace Go.Proofs.YtllnnlmhbmladaaGreatDoor.Base
open Go.RowKit
/-- Numbers as cells. -/
def ics (xs : List Nat) : List Value := xs.map fun n : Nat => Value.int .i64 (n : Int)
theorem ics_length (xs : List Nat) : (ics xs).length = xs.length := by simp [ics]
theorem ics_at {xs : List Nat} {j x : Nat} (h : xs[j]? = some x) : (ics xs)[j]? = some (.int .i64 (x : Int)) := by simp [ics, h]
/-- The slice at A reads as these numbers. -/
abbrev RdI (w : World) (A : Option Addr) (c : Nat) (xs : List Nat) : Prop := RdA w A c (ics xs)
theorem RdI.cell {w : World} {A : Option Addr} {c : Nat} {xs : List Nat} (h : RdI w A c xs) {j x : Nat} (hj : xs[j]? = some x) : ∃ b o, A = some ⟨b, o, none⟩ ∧ w.cell? ⟨b, o + j, none⟩ = some (.int .i64 (x : Int)) := by
  obtain ⟨b, o, rfl, hu⟩ := RdA.at_ h (j := j) (by rw [ics_length]; exact (List.getElem?_eq_some_iff.1 hj).1)
  exact ⟨b, o, rfl, hu j _ (ics_at hj)⟩
end Go.Proofs.YtllnnlmhbmladaaGreatDoor.Base
namespace Go.Proofs.YtllnnlmhbmladaaGreatDoor.Stream
open Go.RowKit Go.Proofs.YtllnnlmhbmladaaGreatDoor.Str Go.Proofs.YtllnnlmhbmladaaGreatDoor.Base Go.Proofs.YtllnnlmhbmladaaGreatDoor.Node Go.Proofs.YtllnnlmhbmladaaGreatDoor.Long Go.Proofs.YtllnnlmhbmladaaGreatDoor.Entry
open Go.Proofs.YtllnnlmhbmladaaGreatDoor.Tree (oneB mayT nodeA nodeB)

theorem ex_facts : mayT [nodeA, nodeB] = true ∧ (allS [nodeA, nodeB]).length = 5 ∧ whereS [nodeA, nodeB] 2 = (1, 0) := by
  have h1 : mayT [nodeA, nodeB] = true := Tree.ex_facts.1
  have ha : (putE nodeA).length = 1 := by
    rw [putE_length (by decide +kernel), ahead_length (by decide +kernel), show needL nodeA = false by decide +kernel, show needN nodeA = false by decide +kernel]
    decide +kernel
  have hb : (putE nodeB).length = 2 := by
    rw [putE_length (by decide +kernel), ahead_length (by decide +kernel), show needL nodeB = false by decide +kernel, show needN nodeB = false by decide +kernel]
    decide +kernel
  have hd : dataE nodeB = 1 := by decide +kernel
  have h2 : (allS [nodeA, nodeB]).length = 5 := by
    rw [allS_yes h1, List.length_append, endsV_length, blocks_cons, blocks_cons, List.length_append, List.length_append, ha, hb]
    rfl
  refine ⟨h1, h2, ?_⟩
  unfold whereS
  rw [if_pos (by rw [h2]; omega)]
  show whereL [nodeA, nodeB] 0 2 = _
  rw [whereL, if_neg (by rw [ha]; omega), whereL, if_pos (by rw [ha, hb]; omega)]
  unfold ownV
  rw [ha, hb, hd, if_neg (by omega)]
  rfl
theorem l0 : ([] : List Nd).length = 0 := rfl
theorem l2 : [nodeA, nodeB].length = 2 := rfl

end Go.Proofs.YtllnnlmhbmladaaGreatDoor.Stream

namespace Go.Proofs.YtllnnlmhbmladaaGreatDoor.Stream
open Go.RowKit Go.Shelf Go.Proofs.YtllnnlmhbmladaaGreatDoor.Str Go.Proofs.YtllnnlmhbmladaaGreatDoor.Base Go.Proofs.YtllnnlmhbmladaaGreatDoor.Node Go.Proofs.YtllnnlmhbmladaaGreatDoor.Entry Go.Proofs.YtllnnlmhbmladaaGreatDoor.RangeO
open Go.Proofs.YtllnnlmhbmladaaGreatDoor.Tree (oneB mayT)

attribute [local go_sem] Oper.semAt_some

/-- The iterator, in the form of the law. -/
theorem parts_seq (D : Prop) (t : List Nd) (A : Option Addr) (c tb : Nat) (w00 w0 : World) (ha : RdN w00 A c t) (hl : t.length ≤ 1000) (hs : ∀ n ∈ t, SmallN n) (h00 : Stp w00 w0) (htb : w0.cell? ⟨tb, 0, none⟩ = some (.slice A t.length c)) :
    SeqO Tryz.prog 65 #[.pointer (some ⟨tb, 0, none⟩)] encE (HasE D) IntBox D (fun k => k < w00.heap.size ∨ k = tb) (fun xs => xs.map (·.1) = partsS t) (fun pre => pre.map (·.1) <+: partsS t) (partsS t).length w0 :=
  fun n l J Jx O W _ hW hl0 hl1 hrec hR hJ hJx hlt h8 hround h0 =>
    have htl := World.block_lt_of_cell? w0 _ htb
    parts_in n (hC := ⟨hJ, hJx, hlt, h8, hrec, fun O pre x X a b c => yield_any (hround O pre x X a b c)⟩) (m := n - 1) (l := l) t A c tb O w00 W ha hl hs (Stp.trans h00 hW) ((stp_cell hW htb).trans htb) (Nat.le_refl _)
      (by show tb ≠ l; have : tb < w0.heap.size := htl; omega) (Nat.lt_of_lt_of_le htl hW.size) (Nat.le_trans h00.size hl0) hl1 (hR tb (.inr rfl)) (fun k hk => hR k (.inl hk)) (Nat.le_refl _) h0

set_option maxRecDepth 100000 in
/-- parts: the tree is boxed; the function value captures the box. -/
theorem parts_any (A : Option Addr) (n c : Nat) (w : World) :
    Calls Tryz.prog 41 #[.slice A n c] w fun e w' => e = .returned (.func (.func 65) #[] #[.pointer (some ⟨w.heap.size, 0, none⟩)]) ∧ w' = w.alloc (.cells #[.slice A n c] 63) := by
  have hmf : ∀ (fn : Fn) (first cap : Array Value) (w : World), (Instr.makeFunc fn first cap).run Tryz.prog w = .ok (.func fn first cap) w := fun _ _ _ _ => rfl
  go_enter Tryz.func41, Tryz.ntmps41
  go_wp2_with fail
  go_ret
  exact ⟨rfl, rfl⟩

/-! ### what the caller's memory keeps through the iterator's steps -/
abbrev Bx' (o : Obj) : Prop := IntBox o ∨ o.isCells = false
section
variable {O : Nat → Prop} {B : Nat} {X Y : World}
theorem byte_same (hs : Sme Bx' O B X Y) {b i : Nat} {x : Int} (h : X.cell? ⟨b, i, none⟩ = some (.int .u8 x)) : Y.heap[b]? = X.heap[b]? := by
  have hb := World.block_lt_of_cell? X _ h
  rcases hs.block b hb with e | ⟨-, -, o, o', e1, -, e2, -⟩
  · exact e
  · exfalso
    rcases e2 with ⟨y, rfl⟩ | e2
    · have hk : Blk X b 3 #[.int .i64 y] := e1
      rw [hk.cell i] at h
      have hm := Array.mem_of_getElem? h
      simp at hm
    · cases o <;> simp [Obj.isCells] at e2 <;> simp [World.cell?, e1] at h
theorem rd_sme {u : Value} {l : L} (hs : Sme Bx' O B X Y) (h : Rd X X.heap.size u (bs l)) : Rd Y Y.heap.size u (bs l) := by
  obtain ⟨A, cap, rfl, hc, hr⟩ := h
  refine ⟨A, cap, rfl, hc, fun hn => ?_⟩
  obtain ⟨b, o, rfl, hb, hu⟩ := hr hn
  have h0 : 0 < l.length := by
    rcases Nat.eq_zero_or_pos l.length with e | e
    · exact absurd (List.eq_nil_of_length_eq_zero (by rw [bs_length, e])) hn
    · exact e
  have e := byte_same hs (hu 0 _ (bs_at h0))
  exact ⟨b, o, rfl, Nat.lt_of_lt_of_le hb hs.size, fun j u hj => (World.cell?_of_block (a := ⟨b, o + j, none⟩) e).trans (hu j u hj)⟩
theorem own_sme {lo : Nat} {e : TypeId} {v : Value} {xs : List Value} (hs : Sme Bx' O B X Y) (h : Base.Own X lo e v xs) (ho : ∀ g, v.ownBlock = some g → O g) : Base.Own Y lo e v xs := by
  rcases h with h | ⟨g, cap, cur, fz, rfl, hl, hg, rest⟩
  · exact .inl h
  · exact .inr ⟨g, cap, cur, fz, rfl, hl, hs.same hg (.inr (.inl (ho g rfl))), rest⟩
theorem allsl_sme {lo : Nat} {e : TypeId} {v : Value} {xs : List Value} (hs : Sme Bx' O B X Y) (hw : Base.Own X lo e v xs) (h : AllSl X v) (ho : ∀ g, v.ownBlock = some g → O g) : AllSl Y v := fun g hg j c hc => by
  have e : Y.heap[g]? = X.heap[g]? := by
    rcases hs.block g (hw.lt g hg).2 with e | ⟨-, e, -⟩
    · exact e
    · exact absurd (ho g hg) e
  rw [World.cell?_of_block (a := ⟨g, j, none⟩) e] at hc
  exact h g hg j c hc
theorem rows_sme {lo : Nat} {e : TypeId} {v : Value} {ls : List L} (hs : Sme Bx' O B X Y) (h : Base.Rows X lo e v ls) (ho : ∀ g, v.ownBlock = some g → O g) : Base.Rows Y lo e v ls := by
  obtain ⟨us, h1, h2, h3, h4⟩ := h
  refine ⟨us, own_sme hs h1 ho, allsl_sme hs h1 h2 ho, h3, fun j l hj => ?_⟩
  obtain ⟨u, hu, hr⟩ := h4 j l hj
  exact ⟨u, hu, rd_sme hs hr⟩
theorem stp_sme {w : World} (hs : Sme Bx' O B X Y) (h : Stp w X) (hB : w.heap.size ≤ B) : Stp w Y :=
  ⟨hs.os.trans h.os, hs.tape.trans h.tape, hs.output.trans h.output, Nat.le_trans h.size hs.size, fun k hk => by
    rcases hs.block k (Nat.lt_of_lt_of_le hk h.size) with e | ⟨e, -⟩
    · exact e.trans (h.block k hk)
    · omega⟩
theorem own_cells {lo : Nat} {e : TypeId} {v : Value} {xs : List Value} (h : Base.Own X lo e v xs) {k : Nat} (hk : v.ownBlock = some k) : ∃ o, X.heap[k]? = some o ∧ o.isCells = true := by
  rcases h with ⟨rfl, -⟩ | ⟨g, cap, cur, fz, rfl, -, hg, -⟩
  · simp [Value.ownBlock] at hk
  · simp [Value.ownBlock] at hk
    subst hk
    exact ⟨_, hg, rfl⟩
end

/-! ### appends within a round -/
section
variable {F : Fence} {n : Nat} {P : Program} (w : World) {ops : Array Oper} {rest : List Oper} {o : Oper} {a : Act} {Q : Exit → Act → World → Prop} {lo : Nat} {ls ms : List (List UInt8)}
theorem wpListIn_append_rd (hgd : o.guard = none) (s x : Operand) (t : TypeId)
    (ho : o.op = .call { callee := .builtin .append, args := #[s, x], argTypes := #[t, t] })
    (lo : Nat) (e : TypeId) (z : Value) (bytes : Nat) (ht : P.underlying t = some (.slice e)) (hi : (P.info? e).map (fun i => (i.zero, i.size, i.bytes)) = some (some z, 1, bytes)) (hzs : z.cells.size = 1)
    (v : Value) (xs : List Value) (hs : a.eval s = v) (hown : Base.Own w lo e v xs)
    (B : Nat) (u : Value) (news : List Value) (hx : a.eval x = u) (hr : Rd w B u news) (h1 : ∀ u ∈ news, u.oneCell' = true)
    (h63 : xs.length + news.length ≤ maxLen) (hbytes : (xs.length + news.length) * bytes ≤ 140737488355328) (hlo : lo ≤ w.heap.size)
    (h : ∀ v' w', Base.Own w' lo e v' (xs ++ news) → w.grownBy w' v.ownBlock → (v'.ownBlock = v.ownBlock ∨ v'.ownBlock = some w.heap.size) → wpListIn F n P ops Q rest (a.put o.dst v') w') : wpListIn F n P ops Q (o :: rest) a w := by
  refine wpListIn_plain hgd fun K hK' => ?_
  obtain ⟨i, hi', hz, hsz, hby⟩ := info_parts hi
  obtain ⟨v', w', hrun, r1, r2, r3⟩ := run_append_rd (P := P) w lo t o.type e i z bytes ht hi' hz hsz hby hzs v xs hown B u news hr h1 h63 hbytes hlo
  unfold Oper.wpIn
  refine ⟨?_, ?_⟩
  · simp [Oper.about, ho, resolve, Target.leads, Sem.run_pure]
  · rw [Oper.semAt_plain F _ _ (by rw [ho]; intro c hc'; cases hc')]
    simp [execOp, ho, resolve, invoke, builtin, hs, hx, hrun, Result.andThen]
    exact hK' _ _ (h v' w' r1 r2 r3)
theorem wpListIn_append_rows (hgd : o.guard = none) (s x : Operand) (t : TypeId)
    (ho : o.op = .call { callee := .builtin .append, args := #[s, x], argTypes := #[t, t] })
    (e : TypeId) (ht : P.underlying t = some (.slice e)) (hi : (P.info? e).map (fun i => (i.zero, i.size, i.bytes)) = some (some (.slice none 0 0), 1, 24))
    (v : Value) (hs : a.eval s = v) (h : Base.Rows w lo e v ls) {A : Option Addr} {m c : Nat} (hx : a.eval x = .slice A m c) (hm : RdL w A c ms) (hn : ms.length = m) (hl : ls.length + ms.length ≤ 1000000000) (hlo : lo ≤ w.heap.size)
    (hK : ∀ v' w', Base.Rows w' lo e v' (ls ++ ms) → w.grownBy w' v.ownBlock → (v'.ownBlock = v.ownBlock ∨ v'.ownBlock = some w.heap.size) → wpListIn F n P ops Q rest (a.put o.dst v') w') : wpListIn F n P ops Q (o :: rest) a w := by
  refine wpListIn_plain hgd fun K hK' => ?_
  obtain ⟨v', w', hrun, r1, r2⟩ := h.more (P := P) t o.type ht hi hm hn hl hlo
  have r3 : v'.ownBlock = v.ownBlock ∨ v'.ownBlock = some w.heap.size := by
    obtain ⟨us, g1, g2, g3, g4⟩ := h
    obtain ⟨ns, k1, k2, k3⟩ := hm
    obtain ⟨i, hi', hz, hsz, hby⟩ := info_parts hi
    have h1 : ∀ u ∈ ns, u.oneCell' = true := fun u hu => by
      obtain ⟨j, hj⟩ := List.getElem?_of_mem hu
      have hjl : j < ms.length := by rw [← k1]; exact (List.getElem?_eq_some_iff.1 hj).1
      obtain ⟨u2, hu2, hr⟩ := k3 j _ (List.getElem?_eq_getElem hjl)
      rw [hj] at hu2
      cases hu2
      obtain ⟨A, cap, rfl, _⟩ := hr
      rfl
    unfold RdA at k2
    rw [k1, hn] at k2
    obtain ⟨v2, w2, q1, -, -, q4⟩ := run_append_rd (P := P) w lo t o.type e i _ 24 ht hi' hz hsz hby rfl v us g1 w.heap.size (.slice A m c) ns k2 h1 (by rw [g3, k1]; unfold maxLen; omega) (by rw [g3, k1]; omega) hlo
    rw [hrun] at q1
    cases q1
    exact q4
  unfold Oper.wpIn
  refine ⟨?_, ?_⟩
  · simp [Oper.about, ho, resolve, Target.leads, Sem.run_pure]
  · rw [Oper.semAt_plain F _ _ (by rw [ho]; intro c hc'; cases hc')]
    simp [execOp, ho, resolve, invoke, builtin, hs, hx, hrun, Result.andThen]
    exact hK' _ _ (hK v' w' r1 r2 r3)
end
end Go.Proofs.YtllnnlmhbmladaaGreatDoor.Stream

namespace Go.Proofs.YtllnnlmhbmladaaGreatDoor.Stream
open Go.RowKit Go.Shelf Go.Proofs.YtllnnlmhbmladaaGreatDoor.Str Go.Proofs.YtllnnlmhbmladaaGreatDoor.Base Go.Proofs.YtllnnlmhbmladaaGreatDoor.Node Go.Proofs.YtllnnlmhbmladaaGreatDoor.Entry Go.Proofs.YtllnnlmhbmladaaGreatDoor.RangeO
open Go.Proofs.YtllnnlmhbmladaaGreatDoor.Tree (oneB mayT)

attribute [local go_sem] Oper.semAt_some

theorem blocks_info : (Tryz.prog.info? 46).map (fun i => (i.zero, i.size, i.bytes)) = some (some (.slice none 0 0), 1, 24) := by kernel_rfl
/-- What All has gathered. -/
def IA (w : World) (O : Nat → Prop) (pre : List El) (X : World) : Prop :=
  ∃ v, (∀ k, O k ↔ (k = w.heap.size ∨ v.ownBlock = some k)) ∧ Boxed X w.heap.size 36 v ∧ Base.Rows X (w.heap.size + 1) 46 v (pre.map (·.1.b)) ∧ Stp w X
/-- A part, in a box of the round's own. -/
def PartAt (x : El) (pb : Nat) (X : World) : Prop := Blk X pb 91 #[.int .i64 (x.1.at_ : Int), .int .i64 (x.1.node : Int), .int .i64 x.1.data, .slice x.2.1 512 x.2.2]
theorem part_put {x : El} {pb l : Nat} {X : World} {r : Loop} (o : Obj) (h : PartAt x pb X) (hl : X.heap[l]? = some (.loop r)) : PartAt x pb (X.putObj l o) := by
  refine (World.putObj_heap_other ?_).trans h
  rintro rfl
  unfold PartAt Blk at h
  rw [hl] at h
  cases h
theorem has_put {D : Prop} {x : El} {l : Nat} {X : World} {r : Loop} (o : Obj) (h : HasE D x X) (hl : X.heap[l]? = some (.loop r)) : HasE D x (X.putObj l o) := by
  refine ⟨h.1, fun hD => ?_⟩
  obtain ⟨A', cap, h1, h2, h3⟩ := h.2 hD
  refine ⟨A', cap, h1, h2, fun hn => ?_⟩
  obtain ⟨b, o', rfl, hb, hu⟩ := h3 hn
  refine ⟨b, o', rfl, by simpa using hb, fun j u hj => ?_⟩
  refine (World.cell?_of_block (a := ⟨b, o' + j, none⟩) (World.putObj_heap_other ?_)).trans (hu j u hj)
  rintro rfl
  have := hu j u hj
  simp [World.cell?, hl] at this
theorem own_ne {X : World} {b : Nat} {e : TypeId} {v : Value} {ls : List L} (h : Base.Rows X (b + 1) e v ls) : v.ownBlock ≠ some b := fun hb => by
  obtain ⟨us, h1, -⟩ := h
  have := (h1.lt b hb).1
  omega
theorem rows_far {X : World} {b lo : Nat} {t e : TypeId} {v u : Value} {ls : List L} (h : Base.Rows X lo e v ls) (hb : Boxed X b t u) (hu : ∀ k x, u ≠ .int k x) (hv : v.ownBlock ≠ some b) (u' : Value) : Base.Rows (X.setCell ⟨b, 0, none⟩ u') lo e v ls := by
  obtain ⟨us, h1, h2, h3, h4⟩ := h
  refine ⟨us, h1.far hv u', fun g hg j c hc => ?_, h3, fun j l hj => ?_⟩
  · rw [World.cell?_of_block (a := ⟨g, j, none⟩) (Below.heap_setCell X ⟨b, 0, none⟩ u' g (by rintro rfl; exact hv hg))] at hc
    exact h2 g hg j c hc
  · obtain ⟨x, hx, hr⟩ := h4 j l hj
    refine ⟨x, hx, ?_⟩
    obtain ⟨A, cap, rfl, hc, hr⟩ := hr
    refine ⟨A, cap, rfl, hc, fun hn => ?_⟩
    obtain ⟨g, o, rfl, hg, hu2⟩ := hr hn
    refine ⟨g, o, rfl, by simpa [World.setCell] using hg, fun i c hi => ?_⟩
    refine (World.cell?_of_block (a := ⟨g, o + i, none⟩) (Below.heap_setCell X ⟨b, 0, none⟩ u' g ?_)).trans (hu2 i c hi)
    rintro rfl
    have hk : Blk X g t #[u] := hb
    have h0 := hu2 i c hi
    rw [hk.cell] at h0
    have hm := Array.mem_of_getElem? h0
    simp only [List.mem_toArray, List.mem_singleton] at hm
    subst hm
    have hm := List.mem_of_getElem? hi
    obtain ⟨y, -, hy⟩ := List.mem_map.1 hm
    exact hu _ _ hy.symm
theorem has_stp {D : Prop} {x : El} {X Y : World} (h : HasE D x X) (hs : Stp X Y) : HasE D x Y := ⟨h.1, fun hD => (h.2 hD).keep hs⟩

set_option maxRecDepth 100000 in
set_option maxHeartbeats 2000000 in
theorem all_s (t : List Nd) (m : Nat) (hm : t.length = m) (hl : m ≤ 1000) (hs : ∀ n ∈ t, SmallN n) (A : Option Addr) (c : Nat) (w : World) (ha : RdN w A c t) :
    Calls Tryz.prog 25 #[.slice A m c] w fun e w' => ∃ B d, e = .returned (.tuple #[.slice B (allS t).length d, .bool (mayT t)]) ∧ RdL w' B d (allS t) ∧ Stp w w' := by
  subst hm
  obtain ⟨i0, hi, hz0, hz1, hz2⟩ := info_parts blocks_info
  have Ha := Lib.hid ha
  have Hs := Lib.hid hs
  obtain ⟨N, hNN⟩ : ∃ N, (allS t).length = N := ⟨_, rfl⟩
  obtain ⟨r, hr⟩ : ∃ r, mayT t = r := ⟨_, rfl⟩
  have hN : decide ((0 : Int) < (N : Int)) = r := by
    rw [← hNN, ← hr]
    cases hm : mayT t
    · rw [allS_no hm]
      rfl
    · have := all_length hm
      exact decide_eq_true (by omega)
  rw [hNN, hr]
  have HN := Lib.hid hN
  have HNN := Lib.hid hNN
  clear ha hs hN hNN hr
  refine (callsIn_wide (n := 4)).1 ?_
  refine callsIn_of_wp_marks Tryz.func25 rfl trivial ?_ rfl
  simp only [Tryz.ntmps25, List.size_toArray, List.length_cons, List.length_nil, Nat.reduceAdd, Nat.reduceSub, Array.replicate_succ, Array.replicate_zero, List.push_toArray, List.append_toArray, List.nil_append, List.cons_append]
  gi_wp2_with (refine ⟨trivial, ?_⟩; gi_at_call 41; refine (callsIn_wide.2 (parts_any A t.length c _)).mono ?_; rintro e w2 ⟨rfl, rfl⟩)
  have bO := Boxed.new w 36 (.slice none 0 0)
  have bT := Boxed.new (w.alloc (.cells #[.slice none 0 0] 36)) 63 (.slice A t.length c)
  have bO' := bO.alloc (.cells #[.slice A t.length c] 63)
  rw [World.size_alloc] at bT
  have hst : Stp w ((w.alloc (.cells #[.slice none 0 0] 36)).alloc (.cells #[.slice A t.length c] 63)) := Stp.alloc (Stp.alloc (Stp.refl w) _) _
  refine range_o (by omega) (gf := 65) (lb := #[.pointer (some ⟨w.heap.size + 1, 0, none⟩)]) rfl (enters_of Tryz.func65 (by kernel_rfl) rfl)
    (parts_seq True t A c (w.heap.size + 1) w _ Ha.out hl Hs.out hst bT.cell) (Stp.refl _) (fun _ => rfl)
    (IA w) (fun _ _ _ _ => False) (fun k => k = w.heap.size) (by rintro k (h | rfl) <;> omega) ?hI (fun _ _ _ _ _ h _ => h.elim) ?hO (fun _ _ _ _ h => h.elim) ?h8 ?h0
    (fun x a' X => ∃ pb, a' = { tmps := #[.slice A t.length c, undef, .slice none 0 0, .bool false, .pointer (some ⟨w.heap.size, 0, none⟩), .pointer (some ⟨pb, 0, none⟩), .slice A t.length c, .func (.func 65) #[] #[.pointer (some ⟨w.heap.size + 1, 0, none⟩)], .agg #[.int .i64 (x.1.at_ : Int), .int .i64 (x.1.node : Int), .int .i64 x.1.data, .slice x.2.1 512 x.2.2], undef, undef, undef, undef, undef, undef, undef, undef, undef], defers := [] } ∧ PartAt x pb X ∧ HasE True x X)
    (fun x a' X l r r' ⟨pb, h1, h2, h3⟩ hl => ⟨pb, h1, part_put _ h2 hl, has_put _ h3 hl⟩) ?assign ?body ?done (fun _ _ _ _ _ _ _ h _ => h.elim)
  case hI =>
    rintro O s X Y ⟨v, h1, h2, h3, h4⟩ hs
    exact ⟨v, h1, hs.same h2 (.inr (.inl ((h1 _).2 (.inl rfl)))), rows_sme hs h3 (fun g hg => (h1 g).2 (.inr hg)), stp_sme hs h4 hst.size⟩
  case hO =>
    rintro O s X ⟨v, h1, h2, ⟨us, h3, -⟩, h4⟩ k hk
    rcases (h1 k).1 hk with rfl | h
    · exact ⟨_, h2, rfl⟩
    · exact own_cells h3 h
  case h8 =>
    rintro - O s X ⟨v, h1, h2, ⟨us, h3, h5, -⟩, h4⟩ k i x hk hc
    rcases (h1 k).1 hk with rfl | h
    · have hb : Blk X w.heap.size 36 #[v] := h2
      rw [hb.cell i] at hc
      have hm := Array.mem_of_getElem? hc
      simp only [List.mem_toArray, List.mem_singleton] at hm
      subst hm
      rcases h3 with ⟨h, -⟩ | ⟨g, cap, cur, fz, h, -⟩ <;> cases h
    · obtain ⟨_, _, _, e⟩ := h5 k h i _ hc
      cases e
  case h0 => exact ⟨_, fun k => by simp [Value.ownBlock], bO', Base.Rows.nil _ _ _, hst⟩
  case assign =>
    intro l O pre x X K hi hc hK
    simp only [encE]
    gi_wp2
    exact hK _ _ (Stp.alloc (Stp.refl X) _) ⟨X.heap.size, rfl, Blk.new _ _ _, has_stp hc (Stp.alloc (Stp.refl X) _)⟩
  case body =>
    rintro l O pre x a' X hwl ⟨v, h1, h2, h3, h4⟩ ⟨pb, rfl, hp, hx⟩ hlt
    have hc := h2.cell
    have p3 : X.cell? ⟨pb, 3, none⟩ = some (.slice x.2.1 512 x.2.2) := hp.cell 3
    have H1 := Lib.hid h1
    have H2 := Lib.hid h2
    have H3 := Lib.hid h3
    have H4 := Lib.hid h4
    have Hx := Lib.hid hx
    have hpl : pre.length < 402 := by
      have := all_le (t := t)
      rw [← parts_length] at this
      omega
    clear h1 h2 h3 h4 hx hp bO bT bO' hwl
    gi_wp2_with (gi_at_builtin; refine wpListIn_append_rows _ rfl (.tmp 9) (.tmp 12) 36 rfl 46 Tryz.underlying36 blocks_info v rfl (H3.out.keep (Stp.alloc (Stp.refl X) _)) rfl (lit_rd (Hx.out.2 trivial) Hx.out.1) rfl (by simp only [List.length_map, List.length_cons, List.length_nil]; omega) (by have := H2.out.lt; rw [World.size_alloc]; omega) ?_; intro v' w4 hr' hg' hb'; obtain ⟨A', cap', rfl, hL'⟩ := hr'.rdL; have hv : v.ownBlock ≠ some w.heap.size := own_ne H3.out; have hb4 := (H2.out.alloc _).kept hg' (fun e => hv e.symm); have hc4 := hb4.cell; have hf4 := hb4.frozen; have Hr := Lib.hid hr'; have Hg := Lib.hid hg'; have Hb := Lib.hid hb'; have H2' := Lib.hid hb4; clear hr' hg' hb' hb4 hL')
    have hr := Hr.out
    have hb := Hb.out
    simp only [List.length_append, List.length_map, List.length_cons, List.length_nil, Nat.zero_add] at hr hb
    have hO := H1.out
    have hne : (Value.slice A' (pre.length + 1) cap').ownBlock ≠ some w.heap.size := own_ne hr
    refine ⟨fun k => k = w.heap.size ∨ (Value.slice A' (pre.length + 1) cap').ownBlock = some k, ⟨_, fun k => Iff.rfl, H2'.out.set _, ?_, ?_⟩, fun k hk => ?_, ?_⟩
    · rw [List.map_append]
      exact rows_far hr H2'.out (fun k x e => by obtain ⟨us, g1, -⟩ := H3.out; rcases g1 with ⟨h, -⟩ | ⟨g, cap, cur, fz, h, -⟩ <;> rw [h] at e <;> cases e) hne _
    · exact Below.setCell ((H3.out.keep (Stp.alloc (Stp.refl X) _)).stp (Stp.alloc H4.out _) (by omega) Hg.out) (p := ⟨w.heap.size, 0, none⟩) (Nat.le_refl _) _
    · rcases hk with rfl | hk
      · exact .inl ((hO _).2 (.inl rfl))
      · rcases hb with e | e
        · exact .inl ((hO _).2 (.inr (e.symm.trans hk)))
        · rw [e, World.size_alloc] at hk
          simp only [Option.some.injEq] at hk
          exact .inr (by omega)
    · exact (((Rnd.refl X).alloc _).grown Hg.out (fun r hr => .inl ((hO r).2 (.inr hr)))).setCell (.inl ((hO _).2 (.inl rfl))) _
  case done =>
    rintro D O ys X hD hys ⟨v, h1, h2, h3, h4⟩ hK
    have e : ys.map (·.1.b) = allS t := by
      rw [← parts_b, ← hys, List.map_map]
      rfl
    rw [e] at h3
    obtain ⟨A', cap', rfl, hL⟩ := h3.rdL
    have hc := h2.cell
    have HR := Lib.hid h3
    have H4 := Lib.hid h4
    have hN := HN.out
    rw [HNN.out] at hc
    clear h1 h2 h3 h4 hys hL bO bT bO' e
    gi_wp2_with fail
    gi_region
    all_goals gi_wp2
    refine ⟨by simp, .inl ⟨_, _, rfl, run_takeDeferred (show X.drew.heap[D]? = _ from hK), ?_⟩⟩
    have hs : Sme Bx' (fun k => (Value.slice A' (allS t).length cap').ownBlock = some k) w.heap.size X (X.drew.putObj D (.deferred none)) :=
      (Sme.of_stp (Stp.drewN (Stp.refl X) 1)).trans (Sme.putObj _ (show X.drew.heap[D]? = _ from hK) (by have := hst.size; omega) (fun h => by
        obtain ⟨us, g1, -⟩ := HR.out
        obtain ⟨o, ho, hc⟩ := own_cells g1 h
        rw [hK] at ho
        cases ho
        cases hc) (.inr rfl) (.inr rfl))
    obtain ⟨A2, c2, e2, hL⟩ := (rows_sme hs HR.out (fun g hg => hg)).rdL
    cases e2
    rw [HNN.out] at hs
    refine ⟨.tuple #[.slice A' N cap', .bool r], ?_, A', cap', rfl, hL, stp_sme hs H4.out (Nat.le_refl _)⟩
    simp [results, Tryz.f25, go_sem]
    simpa using hN

end Go.Proofs.YtllnnlmhbmladaaGreatDoor.Stream

namespace Go.Proofs.YtllnnlmhbmladaaGreatDoor.Stream
open Go.RowKit Go.Shelf Go.Proofs.YtllnnlmhbmladaaGreatDoor.Str Go.Proofs.YtllnnlmhbmladaaGreatDoor.Base Go.Proofs.YtllnnlmhbmladaaGreatDoor.Node Go.Proofs.YtllnnlmhbmladaaGreatDoor.Entry Go.Proofs.YtllnnlmhbmladaaGreatDoor.RangeO
open Go.Proofs.YtllnnlmhbmladaaGreatDoor.Tree (oneB mayT)

attribute [local go_sem] Oper.semAt_some

end Go.Proofs.YtllnnlmhbmladaaGreatDoor.Stream

namespace Go.Proofs.YtllnnlmhbmladaaGreatDoor.Stream
open Go.RowKit Go.Shelf Go.Proofs.YtllnnlmhbmladaaGreatDoor.Str Go.Proofs.YtllnnlmhbmladaaGreatDoor.Base Go.Proofs.YtllnnlmhbmladaaGreatDoor.Node Go.Proofs.YtllnnlmhbmladaaGreatDoor.Entry Go.Proofs.YtllnnlmhbmladaaGreatDoor.RangeO
open Go.Proofs.YtllnnlmhbmladaaGreatDoor.Tree (oneB mayT)

attribute [local go_sem] Oper.semAt_some

/-- What Where knows while it looks. -/
def IW (i : Int) (w : World) (O : Nat → Prop) (pre : List El) (X : World) : Prop :=
  (∀ k, O k ↔ (k = w.heap.size + 1 ∨ k = w.heap.size + 2)) ∧ Boxed X w.heap.size 3 (.int .i64 i) ∧ Boxed X (w.heap.size + 1) 3 (.int .i64 0) ∧ Boxed X (w.heap.size + 2) 3 (.int .i64 0) ∧ (∀ x ∈ pre, (x.1.at_ : Int) ≠ i) ∧ Stp w X
/-- What it has found. -/
def XW (i : Int) (w : World) (c : Code) (O : Nat → Prop) (pre : List El) (X : World) : Prop :=
  c = .ret ∧ (∀ k, O k ↔ (k = w.heap.size + 1 ∨ k = w.heap.size + 2)) ∧ (∃ pre0 x, pre = pre0 ++ [x] ∧ (x.1.at_ : Int) = i ∧ Boxed X (w.heap.size + 1) 3 (.int .i64 (x.1.node : Int)) ∧ Boxed X (w.heap.size + 2) 3 (.int .i64 x.1.data)) ∧ Stp w X

theorem part_ne {x : El} {pb r : Nat} {X : World} {v : Value} (h : PartAt x pb X) (hr : Boxed X r 3 v) : pb ≠ r := by
  rintro rfl
  unfold PartAt Blk at h
  unfold Boxed at hr
  rw [hr] at h
  simp at h
theorem box_put {r D : Nat} {X : World} {v : Value} {t : TypeId} (h : Boxed X r t v) (hK : X.heap[D]? = some (.deferred (some []))) : (X.putObj D (.deferred none)).cell? ⟨r, 0, none⟩ = some v :=
  cell_kept h.cell (grownBy_putObj' X D (.deferred none)) (fun r e => by cases e; exact ⟨_, hK, rfl⟩)

set_option maxRecDepth 100000 in
set_option maxHeartbeats 2000000 in
theorem whose_s (t : List Nd) (m : Nat) (hm : t.length = m) (hl : m ≤ 1000) (hs : ∀ n ∈ t, SmallN n) (i : Int) (A : Option Addr) (c : Nat) (w : World) (ha : RdN w A c t) :
    Calls Tryz.prog 45 #[.slice A m c, .int .i64 i] w fun e w' => e = .returned (.tuple #[.int .i64 (whereS t i).1, .int .i64 (whereS t i).2]) ∧ Stp w w' := by
  subst hm
  have Ha := Lib.hid ha
  have Hs := Lib.hid hs
  obtain ⟨P, hP⟩ : ∃ P, whereS t i = P := ⟨_, rfl⟩
  rw [hP]
  have HP := Lib.hid hP
  clear ha hs hP
  refine (callsIn_wide (n := 4)).1 ?_
  refine callsIn_of_wp_marks Tryz.func45 rfl trivial ?_ rfl
  simp only [Tryz.ntmps45, List.size_toArray, List.length_cons, List.length_nil, Nat.reduceAdd, Nat.reduceSub, Array.replicate_succ, Array.replicate_zero, List.push_toArray, List.append_toArray, List.nil_append, List.cons_append]
  gi_wp2_with (refine ⟨trivial, ?_⟩; gi_at_call 41; refine (callsIn_wide.2 (parts_any A t.length c _)).mono ?_; rintro e w2 ⟨rfl, rfl⟩)
  have b0 := Boxed.new w 3 (.int .i64 i)
  have b1 := Boxed.new (w.alloc (.cells #[.int .i64 i] 3)) 3 (.int .i64 0)
  have b2 := Boxed.new ((w.alloc (.cells #[.int .i64 i] 3)).alloc (.cells #[.int .i64 0] 3)) 3 (.int .i64 0)
  have bT := Boxed.new (((w.alloc (.cells #[.int .i64 i] 3)).alloc (.cells #[.int .i64 0] 3)).alloc (.cells #[.int .i64 0] 3)) 63 (.slice A t.length c)
  have b0' := ((b0.alloc (.cells #[.int .i64 0] 3)).alloc (.cells #[.int .i64 0] 3)).alloc (.cells #[.slice A t.length c] 63)
  have b1' := (b1.alloc (.cells #[.int .i64 0] 3)).alloc (.cells #[.slice A t.length c] 63)
  have b2' := b2.alloc (.cells #[.slice A t.length c] 63)
  simp only [World.size_alloc] at b1' b2' bT
  have hst : Stp w ((((w.alloc (.cells #[.int .i64 i] 3)).alloc (.cells #[.int .i64 0] 3)).alloc (.cells #[.int .i64 0] 3)).alloc (.cells #[.slice A t.length c] 63)) := Stp.alloc (Stp.alloc (Stp.alloc (Stp.alloc (Stp.refl w) _) _) _) _
  have hsz : ((((w.alloc (.cells #[.int .i64 i] 3)).alloc (.cells #[.int .i64 0] 3)).alloc (.cells #[.int .i64 0] 3)).alloc (.cells #[.slice A t.length c] 63)).heap.size = w.heap.size + 4 := by simp
  refine range_o (by omega) (gf := 65) (lb := #[.pointer (some ⟨w.heap.size + 3, 0, none⟩)]) rfl (enters_of Tryz.func65 (by kernel_rfl) rfl)
    (parts_seq False t A c (w.heap.size + 3) w _ Ha.out hl Hs.out hst bT.cell) (Stp.refl _) (fun _ => rfl)
    (IW i w) (XW i w) (fun k => k = w.heap.size + 1 ∨ k = w.heap.size + 2) (by rintro k (h | rfl) <;> omega) ?hI ?hIx ?hO ?hOx (fun h => h.elim) ?h0
    (fun x a' X => ∃ pb, a' = { tmps := #[.slice A t.length c, .int .i64 i, undef, .pointer (some ⟨w.heap.size, 0, none⟩), .pointer (some ⟨w.heap.size + 1, 0, none⟩), .pointer (some ⟨w.heap.size + 2, 0, none⟩), .pointer (some ⟨pb, 0, none⟩), .slice A t.length c, .func (.func 65) #[] #[.pointer (some ⟨w.heap.size + 3, 0, none⟩)], .agg #[.int .i64 (x.1.at_ : Int), .int .i64 (x.1.node : Int), .int .i64 x.1.data, .slice x.2.1 512 x.2.2], undef, undef, undef, undef, undef, undef, undef, undef], defers := [] } ∧ PartAt x pb X)
    (fun x a' X l r r' ⟨pb, h1, h2⟩ hl => ⟨pb, h1, part_put _ h2 hl⟩) ?assign ?body ?done ?stop
  case hI =>
    rintro O s X Y ⟨h1, h2, h3, h4, h5, h6⟩ hs
    rw [hsz] at hs
    exact ⟨h1, hs.same h2 (.inr (.inr (by omega))), hs.same h3 (.inr (.inr (by omega))), hs.same h4 (.inr (.inr (by omega))), h5, stp_sme hs h6 (by omega)⟩
  case hIx =>
    rintro c O s X Y ⟨h1, h2, ⟨pre0, x, h3, h4, h5, h6⟩, h7⟩ hs
    rw [hsz] at hs
    exact ⟨h1, h2, ⟨pre0, x, h3, h4, hs.same h5 (.inr (.inr (by omega))), hs.same h6 (.inr (.inr (by omega)))⟩, stp_sme hs h7 (by omega)⟩
  case hO =>
    rintro O s X ⟨h1, h2, h3, h4, h5, h6⟩ k hk
    rcases (h1 k).1 hk with rfl | rfl
    · exact ⟨_, h3, rfl⟩
    · exact ⟨_, h4, rfl⟩
  case hOx =>
    rintro c O s X ⟨h1, h2, ⟨pre0, x, h3, h4, h5, h6⟩, h7⟩ k hk
    rcases (h2 k).1 hk with rfl | rfl
    · exact ⟨_, h5, rfl⟩
    · exact ⟨_, h6, rfl⟩
  case h0 => exact ⟨fun k => Iff.rfl, b0', b1', b2', by simp, hst⟩
  case assign =>
    intro l O pre x X K hi hc hK
    simp only [encE]
    gi_wp2
    exact hK _ _ (Stp.alloc (Stp.refl X) _) ⟨X.heap.size, rfl, Blk.new _ _ _⟩
  case body =>
    rintro l O pre x a' X hwl ⟨h1, h2, h3, h4, h5, h6⟩ ⟨pb, rfl, hp⟩ hlt
    have hc := h2.cell
    have p0 : X.cell? ⟨pb, 0, none⟩ = some (.int .i64 (x.1.at_ : Int)) := hp.cell 0
    have H1 := Lib.hid h1
    have H2 := Lib.hid h2
    have H3 := Lib.hid h3
    have H4 := Lib.hid h4
    have H5 := Lib.hid h5
    have H6 := Lib.hid h6
    have Hp := Lib.hid hp
    clear h1 h2 h3 h4 h5 h6 hp bT b0 b1 b2 b0' b1' b2'
    by_cases hx : (x.1.at_ : Int) = i
    · have g : ((x.1.at_ : Int) == i) = true := by rw [beq_iff_eq]; exact hx
      have Hx := Lib.hid hx
      have hd1 : X.drew.cell? ⟨pb, 1, none⟩ = some (.int .i64 (x.1.node : Int)) := Hp.out.cell 1
      have hd2 : X.drew.cell? ⟨pb, 2, none⟩ = some (.int .i64 x.1.data) := Hp.out.cell 2
      have hmo : Tryz.prog.follows .mixedOrders = true := by kernel_rfl
      have hd3 : X.drew.cell? ⟨w.heap.size + 1, 0, none⟩ = some (.int .i64 0) := H3.out.cell
      have hd4 : X.drew.frozen? ⟨w.heap.size + 1, 0, none⟩ = false := H3.out.frozen
      have hd5 : X.drew.cell? ⟨w.heap.size + 2, 0, none⟩ = some (.int .i64 0) := H4.out.cell
      have hd6 : X.drew.frozen? ⟨w.heap.size + 2, 0, none⟩ = false := H4.out.frozen
      have hd7 : X.cell? ⟨w.heap.size + 2, 0, none⟩ = some (.int .i64 0) := H4.out.cell
      have hd8 : X.frozen? ⟨w.heap.size + 2, 0, none⟩ = false := H4.out.frozen
      have hd9 : X.cell? ⟨pb, 2, none⟩ = some (.int .i64 x.1.data) := Hp.out.cell 2
      have hda : X.cell? ⟨pb, 1, none⟩ = some (.int .i64 (x.1.node : Int)) := Hp.out.cell 1
      have hn1 : pb ≠ w.heap.size + 1 := part_ne Hp.out H3.out
      have hn2 : pb ≠ w.heap.size + 2 := part_ne Hp.out H4.out
      clear hx
      gi_wp2
      gi_region_with_o (fail)
      all_goals gi_wp2
      all_goals
        have k1 := (H3.out.set (.int .i64 (x.1.node : Int))).other (B' := w.heap.size + 2) (by omega) (.int .i64 x.1.data)
        have k2 := (H4.out.other (B' := w.heap.size + 1) (by omega) (.int .i64 (x.1.node : Int))).set (.int .i64 x.1.data)
        have k3 := ((Rnd.refl X (O := O)).setCell (p := ⟨w.heap.size + 1, 0, none⟩) (.inl ((H1.out _).2 (.inl rfl))) (.int .i64 (x.1.node : Int))).setCell (p := ⟨w.heap.size + 2, 0, none⟩) (.inl ((H1.out _).2 (.inr rfl))) (.int .i64 x.1.data)
        exact ⟨O, ⟨rfl, H1.out, ⟨pre, x, rfl, Hx.out, k1, k2⟩, Below.drew (Below.setCell (Below.setCell H6.out (p := ⟨w.heap.size + 1, 0, none⟩) (Nat.le_add_right _ 1) _) (p := ⟨w.heap.size + 2, 0, none⟩) (Nat.le_add_right _ 2) _)⟩, ⟨k3.os, k3.tape, k3.output, k3.size, k3.block⟩⟩
    · have g : ((x.1.at_ : Int) == i) = false := by rw [beq_eq_false_iff_ne]; exact hx
      have Hx := Lib.hid hx
      clear hx
      gi_wp2
      refine ⟨O, ⟨H1.out, H2.out, H3.out, H4.out, fun y hy => ?_, H6.out⟩, fun k hk => .inl hk, Rnd.refl X⟩
      rcases List.mem_append.1 hy with h | h
      · exact H5.out y h
      · rw [List.mem_singleton.1 h]
        exact Hx.out
  case done =>
    rintro D O ys X hD hys ⟨h1, h2, h3, h4, h5, h6⟩ hK
    rw [hsz] at hD
    have hw : P = (-1, -1) := by
      rw [← HP.out]
      refine where_miss fun p hp => ?_
      rw [← hys] at hp
      obtain ⟨x, hx, rfl⟩ := List.mem_map.1 hp
      exact h5 x hx
    subst hw
    have f1 := h3.frozen
    have f2 := h4.frozen
    have c1 := h3.cell
    have c2 := h4.cell
    have H3 := Lib.hid h3
    have H4 := Lib.hid h4
    have H6 := Lib.hid h6
    clear h1 h2 h3 h4 h5 h6 bT b0 b1 b2 b0' b1' b2' hys
    gi_wp2
    have n1 : D ≠ w.heap.size + 1 := by omega
    have n2 : D ≠ w.heap.size + 1 + 1 := by omega
    have hK' : ((X.setCell ⟨w.heap.size + 1, 0, none⟩ (.int .i64 (-1))).setCell ⟨w.heap.size + 1 + 1, 0, none⟩ (.int .i64 (-1))).heap[D]? = some (.deferred (some [])) :=
      (Below.heap_setCell _ _ _ _ n2).trans ((Below.heap_setCell _ _ _ _ n1).trans hK)
    have k1 := (H3.out.set (.int .i64 (-1))).other (B' := w.heap.size + 1 + 1) (by omega) (.int .i64 (-1))
    have k2 := (H4.out.other (B' := w.heap.size + 1) (by omega) (.int .i64 (-1))).set (.int .i64 (-1))
    have r1 := box_put k1 hK'
    have r2 := box_put k2 hK'
    exact ⟨by simp, .inl ⟨_, _, rfl, run_takeDeferred hK', ⟨.tuple #[.int .i64 (-1), .int .i64 (-1)], by simp [results, Tryz.f45, go_sem, r1, r2], rfl, stp_sme (O := fun _ => False) (Sme.putObj _ hK' (B := w.heap.size) (by omega) (fun h => h) (.inr rfl) (.inr rfl)) (Below.setCell (Below.setCell H6.out (p := ⟨w.heap.size + 1, 0, none⟩) (Nat.le_add_right _ 1) _) (p := ⟨w.heap.size + 1 + 1, 0, none⟩) (Nat.le_add_right _ 2) _) (Nat.le_refl _)⟩⟩⟩
  case stop =>
    rintro D c O pre X hD hpre ⟨rfl, h2, ⟨pre0, x, rfl, h4, h5, h6⟩, h7⟩ hK
    rw [hsz] at hD
    have hw : P = ((x.1.node : Int), x.1.data) := by
      rw [← HP.out]
      rw [List.map_append] at hpre
      exact (where_hit hpre h4).symm
    subst hw
    clear b0 b1 b2 b0' b1' b2' bT
    gi_wp2
    have r1 := box_put h5 hK
    have r2 := box_put h6 hK
    exact ⟨by simp, .inl ⟨_, _, rfl, run_takeDeferred hK, ⟨.tuple #[.int .i64 (x.1.node : Int), .int .i64 x.1.data], by simp [results, Tryz.f45, go_sem, r1, r2], rfl, stp_sme (O := fun _ => False) (Sme.putObj _ hK (B := w.heap.size) (by omega) (fun h => h) (.inr rfl) (.inr rfl)) h7 (Nat.le_refl _)⟩⟩⟩

end Go.Proofs.YtllnnlmhbmladaaGreatDoor.Stream

