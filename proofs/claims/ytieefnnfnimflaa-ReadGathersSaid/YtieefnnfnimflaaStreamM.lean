/-
  What package stream answers, as plain functions over lists of nodes: no Go, and no statement, is proved here.
-/
import Derived.Test.YtieefnnfnimflaaEntryM
import Derived.Test.YtieefnnfnimflaaTreeL
namespace Go.Proofs.Ytieefnnfnimflaa.Stream
open Go.Proofs.Ytieefnnfnimflaa.Node Go.Proofs.Ytieefnnfnimflaa.Head Go.Proofs.Ytieefnnfnimflaa.Long Go.Proofs.Ytieefnnfnimflaa.Entry
open Go.Proofs.Ytieefnnfnimflaa.Tree (oneB mayT)
abbrev L := List UInt8

/-- The nodes' blocks, the stream's, where a node begins, and whose a block is. -/
def blocksT (t : List Nd) : List L := t.flatMap putE
def endsV : List L := BlockM.blks 2 []
def allS (t : List Nd) : List L := if mayT t = true then blocksT t ++ endsV else []
def startN (t : List Nd) (k : Nat) : Nat := (blocksT (t.take k)).length
def startsS (t : List Nd) : List Nat := if mayT t = true then (List.range (t.length + 1)).map (startN t) else []
def ownV (n : Nd) (i : Nat) : Int := if i + dataE n < (putE n).length then -1 else ((i + dataE n : Nat) : Int) - ((putE n).length : Int)
def whereL : List Nd → Nat → Nat → Int × Int
  | [], k, _ => ((k : Int), -1)
  | n :: ns, k, i => if i < (putE n).length then ((k : Int), ownV n i) else whereL ns (k + 1) (i - (putE n).length)
def whereS (t : List Nd) (i : Int) : Int × Int := if 0 ≤ i ∧ i < ((allS t).length : Int) then whereL t 0 i.toNat else (-1, -1)

theorem endsV_length : endsV.length = 2 := BlockM.blks_length _ _
theorem endsV_is : endsV = [zeros 512, zeros 512] := by decide +kernel
theorem allS_yes {t : List Nd} (h : mayT t = true) : allS t = blocksT t ++ endsV := by rw [allS, if_pos h]
theorem allS_no {t : List Nd} (h : mayT t = false) : allS t = [] := by rw [allS, if_neg (by simp [h])]
theorem startsS_yes {t : List Nd} (h : mayT t = true) : startsS t = (List.range (t.length + 1)).map (startN t) := by rw [startsS, if_pos h]
theorem startsS_no {t : List Nd} (h : mayT t = false) : startsS t = [] := by rw [startsS, if_neg (by simp [h])]
theorem blocks_cons (n : Nd) (t : List Nd) : blocksT (n :: t) = putE n ++ blocksT t := by simp [blocksT]
theorem blocks_append (t u : List Nd) : blocksT (t ++ u) = blocksT t ++ blocksT u := by simp [blocksT]
theorem blocks_step {t : List Nd} {k : Nat} {n : Nd} (h : t[k]? = some n) : blocksT (t.take (k + 1)) = blocksT (t.take k) ++ putE n := by
  rw [List.take_add_one, h, blocks_append]
  simp [blocksT]
theorem start_zero (t : List Nd) : startN t 0 = 0 := by simp [startN, blocksT]
theorem start_step {t : List Nd} {k : Nat} {n : Nd} (h : t[k]? = some n) : startN t (k + 1) = startN t k + (putE n).length := by
  unfold startN
  rw [blocks_step h, List.length_append]
theorem start_end (t : List Nd) : startN t t.length = (blocksT t).length := by rw [startN, List.take_length]
theorem start_over {t : List Nd} {k : Nat} (h : t.length ≤ k) : startN t k = (blocksT t).length := by rw [startN, List.take_of_length_le h]
theorem start_mono (t : List Nd) {a b : Nat} (h : a ≤ b) : startN t a ≤ startN t b := by
  unfold startN
  rw [← List.take_append_drop a (t.take b), blocks_append, List.length_append, List.take_take, Nat.min_eq_left h]
  omega
theorem start_le (t : List Nd) (k : Nat) : startN t k ≤ (blocksT t).length := by
  by_cases h : k ≤ t.length
  · rw [← start_end]; exact start_mono t h
  · rw [start_over (by omega)]
    omega
theorem start_take (t : List Nd) {j k : Nat} (h : j ≤ k) : startN (t.take k) j = startN t j := by rw [startN, List.take_take, Nat.min_eq_left h, startN]
theorem all_length {t : List Nd} (h : mayT t = true) : (allS t).length = startN t t.length + 2 := by rw [allS_yes h, List.length_append, endsV_length, start_end]
theorem may_len {t : List Nd} (h : mayT t = true) : t.length ≤ 20 := by
  unfold Tree.mayT at h
  simp only [Bool.and_eq_true, decide_eq_true_eq] at h
  exact h.1
theorem put_le20 (n : Nd) : (putE n).length ≤ 20 := by
  cases h : oneB n
  · rw [putE_no h]; simp
  · have h8 : BlockM.manyN n.data.length ≤ 8 := BlockM.manyN_small (by have := (oneF h).data; omega)
    rw [putE_length h, ahead_length h]
    split <;> split <;> omega
theorem blocks_le (t : List Nd) : (blocksT t).length ≤ 20 * t.length := by
  induction t with
  | nil => simp [blocksT]
  | cons n t ih =>
    have := put_le20 n
    rw [blocks_cons, List.length_append, List.length_cons]
    omega
theorem put_pos {n : Nd} (h : oneB n = true) : 0 < (putE n).length := by rw [putE_length h]; omega
theorem data_le (n : Nd) : dataE n ≤ (putE n).length := by
  cases h : oneB n
  · rw [dataE, if_neg (by simp [h])]; omega
  · rw [putE_length h, dataE, if_pos h]; omega

/-! ### a node's blocks are told by themselves -/
theorem zeros_len : (zeros 512).length = 512 := by unfold zeros; rw [List.length_replicate]
theorem blk_no_zeros {h : Hd} (hm : mayH h = true) (hs : SmallH h) : blk h ≠ zeros 512 := by
  intro e
  have h1 := code_blk hm hs
  rw [e] at h1
  revert h1
  unfold codeB
  rw [if_pos zeros_len, if_pos rfl]
  decide
theorem put_head {n : Nd} (h : oneB n = true) : ∃ k r, putE n = blk k :: r ∧ mayH k = true ∧ SmallH k := by
  have h0 := putE_first h
  obtain ⟨a, b⟩ := first_ok h
  cases e : putE n with
  | nil => rw [e] at h0; simp at h0
  | cons x r =>
    rw [e] at h0
    simp only [List.getElem?_cons_zero, Option.some.injEq] at h0
    subst h0
    exact ⟨_, r, rfl, a, b⟩
theorem pre_len {n m : Nd} {r s : List L} (hn : oneB n = true) (hm : oneB m = true) (e : putE n ++ r = putE m ++ s) : (putE n).length = (putE m).length := by
  have e0 := e
  rw [putE_is hn, putE_is hm, List.append_assoc, List.append_assoc] at e
  have key : needL n = needL m ∧ tailE n ++ r = tailE m ++ s := by
    unfold aL at e
    cases h1 : needL n <;> cases h2 : needL m <;> simp only [h1, h2, if_true, Bool.false_eq_true, if_false, List.nil_append, List.cons_append, List.cons.injEq] at e
    · exact ⟨rfl, e⟩
    · obtain ⟨k, q, ek, k1, k2, k3⟩ := tail_first hn
      rw [ek] at e
      have l := llH_ok (link_ok hm h2)
      exact absurd (ty_of k1 l.1 k2 l.2.1 (List.cons.inj e).1) (by rw [l.2.2]; exact k3)
    · obtain ⟨k, q, ek, k1, k2, k3⟩ := tail_first hm
      rw [ek] at e
      have l := llH_ok (link_ok hn h1)
      exact absurd (ty_of l.1 k1 l.2.1 k2 (List.cons.inj e).1).symm (by rw [l.2.2]; exact k3)
    · exact ⟨rfl, e.2.2⟩
  obtain ⟨hl, et⟩ := key
  have key2 : needN n = needN m ∧ headE n = headE m := by
    unfold tailE aN at et
    cases h1 : needN n <;> cases h2 : needN m <;> simp only [h1, h2, if_true, Bool.false_eq_true, if_false, List.nil_append, List.cons_append, List.cons.injEq] at et
    · exact ⟨rfl, blk_inj (head_may hn) (head_may hm) (head_small hn) (head_small hm) et.1⟩
    · have k := llH_ok (name_ok h2)
      exact absurd (ty_of (head_may hn) k.1 (head_small hn) k.2.1 et.1) (by rw [head_ty, k.2.2]; exact (kind_ne hn).2)
    · have k := llH_ok (name_ok h1)
      exact absurd (ty_of k.1 (head_may hm) k.2.1 (head_small hm) et.1).symm (by rw [head_ty, k.2.2]; exact (kind_ne hm).2)
    · exact ⟨rfl, blk_inj (head_may hn) (head_may hm) (head_small hn) (head_small hm) et.2.2.1⟩
  obtain ⟨hnn, eh⟩ := key2
  have hd : n.data.length = m.data.length := by
    have := congrArg Hd.size eh
    unfold headE at this
    simp only at this
    omega
  rw [putE_length hn, putE_length hm, ahead_length hn, ahead_length hm, hl, hnn, hd]
theorem pre_inj {n m : Nd} {r s : List L} (hn : oneB n = true) (hm : oneB m = true) (e : putE n ++ r = putE m ++ s) : n = m ∧ r = s := by
  obtain ⟨e1, e2⟩ := List.append_inj e (pre_len hn hm e)
  exact ⟨putE_inj hn hm e1, e2⟩
theorem blocks_inj : ∀ (t u : List Nd), (∀ n ∈ t, oneB n = true) → (∀ n ∈ u, oneB n = true) → blocksT t ++ endsV = blocksT u ++ endsV → t = u
  | [], [], _, _, _ => rfl
  | [], m :: u, _, hu, e => by
    obtain ⟨k, r, ek, k1, k2⟩ := put_head (hu m (by simp))
    rw [blocks_cons, ek, endsV_is] at e
    simp only [blocksT, List.flatMap_nil, List.nil_append, List.cons_append, List.cons.injEq] at e
    exact absurd e.1.symm (blk_no_zeros k1 k2)
  | n :: t, [], ht, _, e => by
    obtain ⟨k, r, ek, k1, k2⟩ := put_head (ht n (by simp))
    rw [blocks_cons, ek, endsV_is] at e
    simp only [blocksT, List.flatMap_nil, List.nil_append, List.cons_append, List.cons.injEq] at e
    exact absurd e.1 (blk_no_zeros k1 k2)
  | n :: t, m :: u, ht, hu, e => by
    rw [blocks_cons, blocks_cons, List.append_assoc, List.append_assoc] at e
    obtain ⟨rfl, e2⟩ := pre_inj (ht n (by simp)) (hu m (by simp)) e
    rw [blocks_inj t u (fun x hx => ht x (by simp [hx])) (fun x hx => hu x (by simp [hx])) e2]
theorem all_ones {t : List Nd} (h : mayT t = true) : ∀ n ∈ t, oneB n = true := fun n hn => by
  obtain ⟨j, hj⟩ := List.getElem?_of_mem hn
  exact Tree.may_one h hj
theorem allS_inj {t u : List Nd} (ht : mayT t = true) (hu : mayT u = true) (e : allS t = allS u) : t = u := by
  rw [allS_yes ht, allS_yes hu] at e
  exact blocks_inj t u (all_ones ht) (all_ones hu) e

/-! ### whose a block is -/
theorem whereL_step {t : List Nd} {k i : Nat} {n : Nd} (hk : t[k]? = some n) (hi : startN t k ≤ i) :
    whereL (t.drop k) k (i - startN t k) = if i < startN t (k + 1) then ((k : Int), ownV n (i - startN t k)) else whereL (t.drop (k + 1)) (k + 1) (i - startN t (k + 1)) := by
  obtain ⟨hlt, hk2⟩ := List.getElem?_eq_some_iff.1 hk
  rw [List.drop_eq_getElem_cons hlt, hk2, whereL, start_step hk]
  by_cases h : i < startN t k + (putE n).length
  · rw [if_pos (by omega), if_pos h]
  · rw [if_neg (by omega), if_neg h, Nat.sub_sub]
theorem whereL_end {t : List Nd} {k i : Nat} (hk : t.length ≤ k) : whereL (t.drop k) k i = ((k : Int), -1) := by rw [List.drop_eq_nil_of_le hk, whereL]
/-- Up to a node whose blocks lie behind. -/
theorem whereL_in {t : List Nd} {k i : Nat} {n : Nd} (hk : t[k]? = some n) (h1 : startN t k ≤ i) (h2 : i < startN t (k + 1)) : whereL t 0 i = ((k : Int), ownV n (i - startN t k)) := by
  have key : ∀ j, j ≤ k → whereL t 0 i = whereL (t.drop j) j (i - startN t j) := by
    intro j hj
    induction j with
    | zero => rw [start_zero]; rfl
    | succ j ih =>
      have hlt := (List.getElem?_eq_some_iff.1 hk).1
      obtain ⟨m, hm⟩ : ∃ m, t[j]? = some m := ⟨_, List.getElem?_eq_getElem (by omega)⟩
      have hs := start_mono t (show j + 1 ≤ k by omega)
      rw [ih (by omega), whereL_step hm (by have := start_mono t (show j ≤ k by omega); omega), if_neg (by omega)]
  rw [key k (Nat.le_refl _), whereL_step hk h1, if_pos h2]
theorem whereL_out {t : List Nd} {i : Nat} (h : startN t t.length ≤ i) : whereL t 0 i = ((t.length : Int), -1) := by
  have key : ∀ j, j ≤ t.length → whereL t 0 i = whereL (t.drop j) j (i - startN t j) := by
    intro j hj
    induction j with
    | zero => rw [start_zero]; rfl
    | succ j ih =>
      obtain ⟨m, hm⟩ : ∃ m, t[j]? = some m := ⟨_, List.getElem?_eq_getElem (by omega)⟩
      have hs := start_mono t hj
      rw [ih (by omega), whereL_step hm (by have := start_mono t (show j ≤ t.length by omega); omega), if_neg (by omega)]
  rw [key t.length (Nat.le_refl _), whereL_end (Nat.le_refl _)]
/-- Each block of a stream is one node's, or one of the two behind. -/
theorem place (t : List Nd) (i : Nat) (h : i < startN t t.length) : ∃ k n, t[k]? = some n ∧ startN t k ≤ i ∧ i < startN t (k + 1) := by
  have key : ∀ j, j ≤ t.length → i < startN t j → ∃ k n, t[k]? = some n ∧ startN t k ≤ i ∧ i < startN t (k + 1) := by
    intro j hj hi
    induction j with
    | zero => rw [start_zero] at hi; omega
    | succ j ih =>
      by_cases h2 : i < startN t j
      · exact ih (by omega) h2
      · exact ⟨j, t[j], List.getElem?_eq_getElem (by omega), by omega, hi⟩
  exact key t.length (Nat.le_refl _) h
/-- A node's blocks in the stream. -/
theorem all_part {t : List Nd} {k : Nat} {n : Nd} (h : mayT t = true) (hk : t[k]? = some n) : ∃ B, allS t = blocksT (t.take k) ++ putE n ++ B := by
  have hlt := (List.getElem?_eq_some_iff.1 hk).1
  refine ⟨blocksT (t.drop (k + 1)) ++ endsV, ?_⟩
  rw [allS_yes h, ← blocks_step hk, ← List.append_assoc, ← blocks_append, List.take_append_drop]
theorem all_at {t : List Nd} {k i : Nat} {n : Nd} (h : mayT t = true) (hk : t[k]? = some n) (h1 : startN t k ≤ i) (h2 : i < startN t (k + 1)) : (allS t)[i]? = (putE n)[i - startN t k]? := by
  obtain ⟨B, e⟩ := all_part h hk
  rw [start_step hk] at h2
  unfold startN at h1 h2
  rw [e, List.append_assoc, List.getElem?_append_right h1, List.getElem?_append_left (by omega)]
  rfl
theorem put_data {n : Nd} {i : Nat} (h : oneB n = true) (hi : (putE n).length ≤ i + dataE n) : (putE n)[i]? = (BlockM.cutV n.data)[i + dataE n - (putE n).length]? := by
  have e := putE_yes h
  have hl := putE_length h
  have hd : dataE n = BlockM.manyN n.data.length := by rw [dataE, if_pos h]
  rw [hd] at hi ⊢
  rw [show putE n = (aheadV n ++ [blk (headE n)]) ++ BlockM.cutV n.data by rw [e]; simp]
  have h1 : (aheadV n ++ [blk (headE n)]).length = (aheadV n).length + 1 := by simp
  rw [List.getElem?_append_right (by rw [h1]; omega), h1]
  congr 1
  rw [List.length_append, h1, BlockM.cutV_length]
  omega
end Go.Proofs.Ytieefnnfnimflaa.Stream
