/-
  The document's own answers for package tree: May: no statement is proved here.
  What holds of trees that may be, as plain lists of nodes: no Go, and no statement, is proved here.
  What package stream answers, as plain functions over lists of nodes: no Go, and no statement, is proved here.
-/
import Derived.Test.YtllnnlmhbmladaaGreatDoorTreeOne
import Derived.Sort.Walk0
import Derived.Test.YtllnnlmhbmladaaGreatDoorEntryM
namespace Go.Proofs.YtllnnlmhbmladaaGreatDoor.Tree
open Go.RowKit Go.Proofs.YtllnnlmhbmladaaGreatDoor.Base Go.Proofs.YtllnnlmhbmladaaGreatDoor.Node Go.Proofs.YtllnnlmhbmladaaGreatDoor.Long

theorem mayT_iff {ns : List Nd} : mayT ns = true ↔ ns.length ≤ 20 ∧ ∀ (j : Nat) (m : Nd), ns[j]? = some m → stepB (ns.take j) m = true := by
  unfold mayT
  rw [Bool.and_eq_true, decide_eq_true_eq, List.all_eq_true]
  refine and_congr_right fun _ => ⟨fun h j m hj => ?_, fun h j hj => ?_⟩
  · have := h j (by rw [List.mem_range]; exact (List.getElem?_eq_some_iff.1 hj).1)
    rw [hj] at this
    simpa using this
  · rw [List.mem_range] at hj
    rw [List.getElem?_eq_getElem hj]
    simpa using h j _ (List.getElem?_eq_getElem hj)
theorem mayT_long {ns : List Nd} (h : ¬ ns.length ≤ 20) : mayT ns = false := by
  rw [Bool.eq_false_iff]
  intro hm
  exact h (mayT_iff.1 hm).1
theorem mayT_no {ns : List Nd} {k : Nat} {n : Nd} (hk : ns[k]? = some n) (h : stepB (ns.take k) n = false) : mayT ns = false := by
  rw [Bool.eq_false_iff]
  intro hm
  rw [(mayT_iff.1 hm).2 k n hk] at h
  cases h
theorem mayT_yes {ns : List Nd} (hl : ns.length ≤ 20) (h : ∀ (j : Nat) (m : Nd), j < ns.length → ns[j]? = some m → stepB (ns.take j) m = true) : mayT ns = true :=
  mayT_iff.2 ⟨hl, fun j m hj => h j m (List.getElem?_eq_some_iff.1 hj).1 hj⟩
theorem yes_step {ns : List Nd} {k : Nat} {n : Nd} (hk : ns[k]? = some n) (hn : stepB (ns.take k) n = true) (h : ∀ (j : Nat) (m : Nd), j < k → ns[j]? = some m → stepB (ns.take j) m = true) : ∀ (j : Nat) (m : Nd), j < k + 1 → ns[j]? = some m → stepB (ns.take j) m = true := by
  intro j m hj hm
  by_cases e : j = k
  · subst e
    rw [hk] at hm
    cases hm
    exact hn
  · exact h j m (by omega) hm
theorem nslice_h (b o n c k : Nat) (hk : k ≤ c) (w : World) : (Instr.slice 63 (.slice (some ⟨b, o, none⟩) n c) none (some (.int .i64 (k : Int))) none).run Tryz.prog w = .ok (.slice (some ⟨b, o, none⟩) k c) w := by
  have he : Tryz.prog.elem 63 = 23 := by kernel_rfl
  have hs : (sizeOf 23).run Tryz.prog w = .ok 8 w := by
    have hi : (Tryz.prog.info? 23).map (·.size) = some 8 := by kernel_rfl
    cases hq : Tryz.prog.info? 23 with
    | none => simp [hq] at hi
    | some i =>
      have : i.size = 8 := by simpa [hq] using hi
      simp [sizeOf, typeInfo, hq, this]
  rw [run_slice_h (P := Tryz.prog) w 63 _ _ _ (by rw [he]; exact Tryz.underlying63) .i64 k (by omega) (by omega), he, hs]
  simp only [Result.andThen_ok, sliced]
  simp
  intro _
  rw [Addr.add_lit, Nat.add_zero]
theorem k48 : (48 : Int) = ((48 : UInt8).toNat : Int) := rfl

end Go.Proofs.YtllnnlmhbmladaaGreatDoor.Tree

namespace Go.Proofs.YtllnnlmhbmladaaGreatDoor.Tree
open Go.Proofs.YtllnnlmhbmladaaGreatDoor.Node Go.Proofs.YtllnnlmhbmladaaGreatDoor.Long

/-! ### the order of paths -/
/-! ### what each node of a tree is -/
theorem may_at {t : List Nd} {j : Nat} {m : Nd} (h : mayT t = true) (hj : t[j]? = some m) : stepB (t.take j) m = true := (mayT_iff.1 h).2 j m hj
theorem may_one {t : List Nd} {j : Nat} {m : Nd} (h : mayT t = true) (hj : t[j]? = some m) : oneB m = true := by
  have := may_at h hj
  unfold stepB at this
  rw [Bool.and_eq_true] at this
  exact this.1
theorem may_take {t : List Nd} (h : mayT t = true) (k : Nat) : mayT (t.take k) = true := by
  rw [mayT_iff] at h ⊢
  refine ⟨by rw [List.length_take]; omega, fun j m hj => ?_⟩
  have hjk : j < k := by
    have := (List.getElem?_eq_some_iff.1 hj).1
    rw [List.length_take] at this
    omega
  rw [List.take_take, Nat.min_eq_left (Nat.le_of_lt hjk)]
  rw [List.getElem?_take_of_lt hjk] at hj
  exact h.2 j m hj
/-! ### what stands ahead of a node -/
/-! ### below -/
/-! ### one node more -/
end Go.Proofs.YtllnnlmhbmladaaGreatDoor.Tree

namespace Go.Proofs.YtllnnlmhbmladaaGreatDoor.Stream
open Go.Proofs.YtllnnlmhbmladaaGreatDoor.Node Go.Proofs.YtllnnlmhbmladaaGreatDoor.Head Go.Proofs.YtllnnlmhbmladaaGreatDoor.Long Go.Proofs.YtllnnlmhbmladaaGreatDoor.Entry
open Go.Proofs.YtllnnlmhbmladaaGreatDoor.Tree (oneB mayT)
abbrev L := List UInt8

/-- The nodes' blocks, the stream's, where a node begins, and whose a block is. -/
def blocksT (t : List Nd) : List L := t.flatMap putE
def endsV : List L := BlockM.blks 2 []
def allS (t : List Nd) : List L := if mayT t = true then blocksT t ++ endsV else []
def startN (t : List Nd) (k : Nat) : Nat := (blocksT (t.take k)).length
def ownV (n : Nd) (i : Nat) : Int := if i + dataE n < (putE n).length then -1 else ((i + dataE n : Nat) : Int) - ((putE n).length : Int)
def whereL : List Nd → Nat → Nat → Int × Int
  | [], k, _ => ((k : Int), -1)
  | n :: ns, k, i => if i < (putE n).length then ((k : Int), ownV n i) else whereL ns (k + 1) (i - (putE n).length)
def whereS (t : List Nd) (i : Int) : Int × Int := if 0 ≤ i ∧ i < ((allS t).length : Int) then whereL t 0 i.toNat else (-1, -1)

theorem endsV_length : endsV.length = 2 := BlockM.blks_length _ _
theorem endsV_is : endsV = [zeros 512, zeros 512] := by decide +kernel
theorem allS_yes {t : List Nd} (h : mayT t = true) : allS t = blocksT t ++ endsV := by rw [allS, if_pos h]
theorem allS_no {t : List Nd} (h : mayT t = false) : allS t = [] := by rw [allS, if_neg (by simp [h])]
theorem blocks_cons (n : Nd) (t : List Nd) : blocksT (n :: t) = putE n ++ blocksT t := by simp [blocksT]
theorem blocks_append (t u : List Nd) : blocksT (t ++ u) = blocksT t ++ blocksT u := by simp [blocksT]
theorem blocks_step {t : List Nd} {k : Nat} {n : Nd} (h : t[k]? = some n) : blocksT (t.take (k + 1)) = blocksT (t.take k) ++ putE n := by
  rw [List.take_add_one, h, blocks_append]
  simp [blocksT]
theorem start_zero (t : List Nd) : startN t 0 = 0 := by simp [startN, blocksT]
theorem start_step {t : List Nd} {k : Nat} {n : Nd} (h : t[k]? = some n) : startN t (k + 1) = startN t k + (putE n).length := by
  unfold startN
  rw [blocks_step h, List.length_append]
theorem start_end (t : List Nd) : startN t t.length = (blocksT t).length := by rw [startN, List.take_length]
theorem start_over {t : List Nd} {k : Nat} (h : t.length ≤ k) : startN t k = (blocksT t).length := by rw [startN, List.take_of_length_le h]
theorem start_mono (t : List Nd) {a b : Nat} (h : a ≤ b) : startN t a ≤ startN t b := by
  unfold startN
  rw [← List.take_append_drop a (t.take b), blocks_append, List.length_append, List.take_take, Nat.min_eq_left h]
  omega
theorem start_le (t : List Nd) (k : Nat) : startN t k ≤ (blocksT t).length := by
  by_cases h : k ≤ t.length
  · rw [← start_end]; exact start_mono t h
  · rw [start_over (by omega)]
    omega
theorem all_length {t : List Nd} (h : mayT t = true) : (allS t).length = startN t t.length + 2 := by rw [allS_yes h, List.length_append, endsV_length, start_end]
theorem may_len {t : List Nd} (h : mayT t = true) : t.length ≤ 20 := by
  unfold Tree.mayT at h
  simp only [Bool.and_eq_true, decide_eq_true_eq] at h
  exact h.1
theorem put_le20 (n : Nd) : (putE n).length ≤ 20 := by
  cases h : oneB n
  · rw [putE_no h]; simp
  · have h8 : BlockM.manyN n.data.length ≤ 8 := BlockM.manyN_small (by have := (oneF h).data; omega)
    rw [putE_length h, ahead_length h]
    split <;> split <;> omega
theorem blocks_le (t : List Nd) : (blocksT t).length ≤ 20 * t.length := by
  induction t with
  | nil => simp [blocksT]
  | cons n t ih =>
    have := put_le20 n
    rw [blocks_cons, List.length_append, List.length_cons]
    omega
theorem put_pos {n : Nd} (h : oneB n = true) : 0 < (putE n).length := by rw [putE_length h]; omega
theorem data_le (n : Nd) : dataE n ≤ (putE n).length := by
  cases h : oneB n
  · rw [dataE, if_neg (by simp [h])]; omega
  · rw [putE_length h, dataE, if_pos h]; omega

/-! ### a node's blocks are told by themselves -/
theorem zeros_len : (zeros 512).length = 512 := by unfold zeros; rw [List.length_replicate]
theorem all_ones {t : List Nd} (h : mayT t = true) : ∀ n ∈ t, oneB n = true := fun n hn => by
  obtain ⟨j, hj⟩ := List.getElem?_of_mem hn
  exact Tree.may_one h hj
/-! ### whose a block is -/
theorem whereL_step {t : List Nd} {k i : Nat} {n : Nd} (hk : t[k]? = some n) (hi : startN t k ≤ i) :
    whereL (t.drop k) k (i - startN t k) = if i < startN t (k + 1) then ((k : Int), ownV n (i - startN t k)) else whereL (t.drop (k + 1)) (k + 1) (i - startN t (k + 1)) := by
  obtain ⟨hlt, hk2⟩ := List.getElem?_eq_some_iff.1 hk
  rw [List.drop_eq_getElem_cons hlt, hk2, whereL, start_step hk]
  by_cases h : i < startN t k + (putE n).length
  · rw [if_pos (by omega), if_pos h]
  · rw [if_neg (by omega), if_neg h, Nat.sub_sub]
theorem whereL_end {t : List Nd} {k i : Nat} (hk : t.length ≤ k) : whereL (t.drop k) k i = ((k : Int), -1) := by rw [List.drop_eq_nil_of_le hk, whereL]
/-- Up to a node whose blocks lie behind. -/
theorem whereL_in {t : List Nd} {k i : Nat} {n : Nd} (hk : t[k]? = some n) (h1 : startN t k ≤ i) (h2 : i < startN t (k + 1)) : whereL t 0 i = ((k : Int), ownV n (i - startN t k)) := by
  have key : ∀ j, j ≤ k → whereL t 0 i = whereL (t.drop j) j (i - startN t j) := by
    intro j hj
    induction j with
    | zero => rw [start_zero]; rfl
    | succ j ih =>
      have hlt := (List.getElem?_eq_some_iff.1 hk).1
      obtain ⟨m, hm⟩ : ∃ m, t[j]? = some m := ⟨_, List.getElem?_eq_getElem (by omega)⟩
      have hs := start_mono t (show j + 1 ≤ k by omega)
      rw [ih (by omega), whereL_step hm (by have := start_mono t (show j ≤ k by omega); omega), if_neg (by omega)]
  rw [key k (Nat.le_refl _), whereL_step hk h1, if_pos h2]
theorem whereL_out {t : List Nd} {i : Nat} (h : startN t t.length ≤ i) : whereL t 0 i = ((t.length : Int), -1) := by
  have key : ∀ j, j ≤ t.length → whereL t 0 i = whereL (t.drop j) j (i - startN t j) := by
    intro j hj
    induction j with
    | zero => rw [start_zero]; rfl
    | succ j ih =>
      obtain ⟨m, hm⟩ : ∃ m, t[j]? = some m := ⟨_, List.getElem?_eq_getElem (by omega)⟩
      have hs := start_mono t hj
      rw [ih (by omega), whereL_step hm (by have := start_mono t (show j ≤ t.length by omega); omega), if_neg (by omega)]
  rw [key t.length (Nat.le_refl _), whereL_end (Nat.le_refl _)]
/-- Each block of a stream is one node's, or one of the two behind. -/
theorem place (t : List Nd) (i : Nat) (h : i < startN t t.length) : ∃ k n, t[k]? = some n ∧ startN t k ≤ i ∧ i < startN t (k + 1) := by
  have key : ∀ j, j ≤ t.length → i < startN t j → ∃ k n, t[k]? = some n ∧ startN t k ≤ i ∧ i < startN t (k + 1) := by
    intro j hj hi
    induction j with
    | zero => rw [start_zero] at hi; omega
    | succ j ih =>
      by_cases h2 : i < startN t j
      · exact ih (by omega) h2
      · exact ⟨j, t[j], List.getElem?_eq_getElem (by omega), by omega, hi⟩
  exact key t.length (Nat.le_refl _) h
end Go.Proofs.YtllnnlmhbmladaaGreatDoor.Stream

