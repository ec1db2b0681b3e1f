/-
  A stream's blocks with their nodes, as package stream hands them on: plain functions over lists of nodes; no Go, and no statement, is proved here.
-/
import Derived.Test.YtcgdeeinnfkgkaaGreatStreamM
namespace Go.Proofs.YtcgdeeinnfkgkaaGreat.Stream
open Go.Proofs.YtcgdeeinnfkgkaaGreat.Node Go.Proofs.YtcgdeeinnfkgkaaGreat.Head Go.Proofs.YtcgdeeinnfkgkaaGreat.Long Go.Proofs.YtcgdeeinnfkgkaaGreat.Entry
open Go.Proofs.YtcgdeeinnfkgkaaGreat.Tree (oneB mayT)

/-- A block, with its place, its node's number, and which one of its node's bytes' blocks it is. -/
structure Pt where
  at_ : Nat
  node : Nat
  data : Int
  b : L
def dataOf (len d i : Nat) : Int := if (i : Int) - ((len : Int) - (d : Int)) < -1 then -1 else (i : Int) - ((len : Int) - (d : Int))
def ptsOf (node : Nat) (ls : List L) (d at0 : Nat) : List Pt := ls.mapIdx fun i b => ⟨at0 + i, node, dataOf ls.length d i, b⟩
def nodesP (t : List Nd) (k : Nat) : List Pt := (List.range k).flatMap fun j => ptsOf j (putE (t.getD j zeroN)) (dataE (t.getD j zeroN)) (startN t j)
def partsS (t : List Nd) : List Pt := if mayT t = true then nodesP t t.length ++ ptsOf t.length endsV 0 (startN t t.length) else []

theorem ptsOf_length (node : Nat) (ls : List L) (d at0 : Nat) : (ptsOf node ls d at0).length = ls.length := by simp [ptsOf]
theorem ptsOf_at {node : Nat} {ls : List L} {d at0 i : Nat} {b : L} (h : ls[i]? = some b) : (ptsOf node ls d at0)[i]? = some ⟨at0 + i, node, dataOf ls.length d i, b⟩ := by
  unfold ptsOf
  rw [List.getElem?_mapIdx, h]
  rfl
theorem ptsOf_step {node : Nat} {ls : List L} {d at0 i : Nat} {b : L} (h : ls[i]? = some b) : (ptsOf node ls d at0).take (i + 1) = (ptsOf node ls d at0).take i ++ [⟨at0 + i, node, dataOf ls.length d i, b⟩] := by
  rw [List.take_add_one, ptsOf_at h]
  rfl
theorem ptsOf_b (node : Nat) (ls : List L) (d at0 : Nat) : (ptsOf node ls d at0).map (·.b) = ls := by
  refine List.ext_getElem? fun i => ?_
  unfold ptsOf
  rw [List.getElem?_map, List.getElem?_mapIdx]
  cases ls[i]? <;> rfl
theorem nodesP_zero (t : List Nd) : nodesP t 0 = [] := rfl
theorem nodesP_step {t : List Nd} {k : Nat} {n : Nd} (h : t[k]? = some n) : nodesP t (k + 1) = nodesP t k ++ ptsOf k (putE n) (dataE n) (startN t k) := by
  unfold nodesP
  rw [List.range_succ, List.flatMap_append, List.flatMap_singleton]
  have e : t.getD k zeroN = n := by rw [List.getD_eq_getElem?_getD, h]; rfl
  rw [e]
theorem nodesP_b (t : List Nd) : ∀ k, k ≤ t.length → (nodesP t k).map (·.b) = blocksT (t.take k)
  | 0, _ => rfl
  | k + 1, h => by
    obtain ⟨n, hn⟩ : ∃ n, t[k]? = some n := ⟨_, List.getElem?_eq_getElem (by omega)⟩
    rw [nodesP_step hn, List.map_append, nodesP_b t k (by omega), ptsOf_b, blocks_step hn]
theorem nodesP_length (t : List Nd) (k : Nat) (h : k ≤ t.length) : (nodesP t k).length = startN t k := by
  rw [startN, ← nodesP_b t k h, List.length_map]
theorem parts_yes {t : List Nd} (h : mayT t = true) : partsS t = nodesP t t.length ++ ptsOf t.length endsV 0 (startN t t.length) := by rw [partsS, if_pos h]
theorem parts_no {t : List Nd} (h : mayT t = false) : partsS t = [] := by rw [partsS, if_neg (by simp [h])]
theorem parts_b (t : List Nd) : (partsS t).map (·.b) = allS t := by
  cases h : mayT t
  · rw [parts_no h, allS_no h]
    rfl
  · rw [parts_yes h, allS_yes h, List.map_append, nodesP_b t _ (Nat.le_refl _), ptsOf_b, List.take_length]
theorem parts_length (t : List Nd) : (partsS t).length = (allS t).length := by rw [← parts_b, List.length_map]
theorem nodes_pre {t : List Nd} (h : mayT t = true) {k : Nat} (hk : k ≤ t.length) : nodesP t k <+: partsS t := by
  rw [parts_yes h]
  refine List.IsPrefix.trans ?_ (List.prefix_append _ _)
  have key : ∀ j, k + j ≤ t.length → nodesP t k <+: nodesP t (k + j) := by
    intro j hj
    induction j with
    | zero => exact List.prefix_refl _
    | succ j ih =>
      obtain ⟨n, hn⟩ : ∃ n, t[k + j]? = some n := ⟨_, List.getElem?_eq_getElem (by omega)⟩
      rw [show k + (j + 1) = k + j + 1 by omega, nodesP_step hn]
      exact (ih (by omega)).trans (List.prefix_append _ _)
  have := key (t.length - k) (by omega)
  rwa [show k + (t.length - k) = t.length by omega] at this
theorem all_le {t : List Nd} : (allS t).length ≤ 402 := by
  cases h : mayT t
  · rw [allS_no h]; simp
  · have := blocks_le t
    have := may_len h
    rw [allS_yes h, List.length_append, endsV_length]
    omega
theorem put_512 {n : Nd} {b : L} (h : b ∈ putE n) : b.length = 512 := BlockM.mayV_iff.1 (putE_may n) b h
theorem ends_512 {b : L} (h : b ∈ endsV) : b.length = 512 := BlockM.blks_mem h

/-! ### each consumer's answer -/
theorem nodesP_at {t : List Nd} {k j : Nat} {p : Pt} (hk : k ≤ t.length) (ht : mayT t = true) (h : (nodesP t k)[j]? = some p) : p.at_ = j ∧ ((p.node : Int), p.data) = whereS t j := by
  induction k with
  | zero => simp [nodesP] at h
  | succ k ih =>
    obtain ⟨n, hn⟩ : ∃ n, t[k]? = some n := ⟨_, List.getElem?_eq_getElem (by omega)⟩
    rw [nodesP_step hn] at h
    by_cases hj : j < (nodesP t k).length
    · rw [List.getElem?_append_left hj] at h
      exact ih (by omega) h
    · rw [List.getElem?_append_right (by omega)] at h
      have hl := nodesP_length t k (by omega)
      rw [hl] at h hj
      have hjl : j - startN t k < (putE n).length := by
        have := (List.getElem?_eq_some_iff.1 h).1
        rwa [ptsOf_length] at this
      rw [ptsOf_at (List.getElem?_eq_getElem hjl)] at h
      simp only [Option.some.injEq] at h
      subst h
      refine ⟨by simp only; omega, ?_⟩
      have hs := start_step hn
      have hle := start_le t (k + 1)
      have hal := all_length ht
      rw [start_end] at hal
      have e : whereS t (j : Int) = ((k : Int), ownV n (j - startN t k)) := by
        unfold whereS
        rw [if_pos ⟨by omega, by omega⟩, Int.toNat_natCast]
        exact whereL_in hn (by omega) (by omega)
      rw [e]
      simp only [Prod.mk.injEq, true_and]
      have hd := data_le n
      unfold dataOf ownV
      split <;> split <;> omega
theorem parts_at {t : List Nd} {j : Nat} {p : Pt} (h : (partsS t)[j]? = some p) : p.at_ = j ∧ ((p.node : Int), p.data) = whereS t j := by
  cases ht : mayT t
  · rw [parts_no ht] at h; simp at h
  · rw [parts_yes ht] at h
    have hl := nodesP_length t t.length (Nat.le_refl _)
    by_cases hj : j < (nodesP t t.length).length
    · rw [List.getElem?_append_left hj] at h
      exact nodesP_at (Nat.le_refl _) ht h
    · rw [List.getElem?_append_right (by omega)] at h
      rw [hl] at h hj
      have hjl : j - startN t t.length < endsV.length := by
        have := (List.getElem?_eq_some_iff.1 h).1
        rwa [ptsOf_length] at this
      rw [ptsOf_at (List.getElem?_eq_getElem hjl)] at h
      simp only [Option.some.injEq] at h
      subst h
      refine ⟨by simp only; omega, ?_⟩
      have hal := all_length ht
      rw [endsV_length] at hjl
      have e : whereS t (j : Int) = ((t.length : Int), -1) := by
        unfold whereS
        rw [if_pos ⟨by omega, by omega⟩, Int.toNat_natCast]
        exact whereL_out (by omega)
      rw [e]
      simp only [Prod.mk.injEq, true_and]
      unfold dataOf
      rw [endsV_length]
      split <;> omega
/-- A part at the place that is asked for. -/
theorem where_hit {t : List Nd} {pre : List Pt} {x : Pt} (h : pre ++ [x] <+: partsS t) {i : Int} (hi : (x.at_ : Int) = i) : ((x.node : Int), x.data) = whereS t i := by
  obtain ⟨r, hr⟩ := h
  have e : (partsS t)[pre.length]? = some x := by rw [← hr]; simp
  obtain ⟨h1, h2⟩ := parts_at e
  rw [h2, ← hi, h1]
theorem where_miss {t : List Nd} {i : Int} (h : ∀ p ∈ partsS t, (p.at_ : Int) ≠ i) : whereS t i = (-1, -1) := by
  unfold whereS
  refine if_neg ?_
  rintro ⟨h0, h1⟩
  have hlt : i.toNat < (partsS t).length := by rw [parts_length]; omega
  obtain ⟨p, hp⟩ : ∃ p, (partsS t)[i.toNat]? = some p := ⟨_, List.getElem?_eq_getElem hlt⟩
  refine h p (List.mem_of_getElem? hp) ?_
  rw [(parts_at hp).1]
  omega

/-- Where nodes begin, gathered. -/
def gatherP (acc : List Nat) (p : Pt) : List Nat := if p.node = acc.length then acc ++ [p.at_] else acc
def startsF (ps : List Pt) : List Nat := ps.foldl gatherP []
theorem startsF_snoc (ps : List Pt) (p : Pt) : startsF (ps ++ [p]) = gatherP (startsF ps) p := by simp [startsF]
theorem gather_len (ps : List Pt) (acc : List Nat) : (ps.foldl gatherP acc).length ≤ acc.length + ps.length := by
  induction ps generalizing acc with
  | nil => simp
  | cons p ps ih =>
    have := ih (gatherP acc p)
    have h2 : (gatherP acc p).length ≤ acc.length + 1 := by unfold gatherP; split <;> simp
    simp only [List.foldl_cons, List.length_cons]
    omega
theorem startsF_len (ps : List Pt) : (startsF ps).length ≤ ps.length := by
  have := gather_len ps []
  simpa [startsF] using this
theorem fold_pts (k : Nat) (ls : List L) (d at0 : Nat) (acc : List Nat) (ha : acc.length = k) (hls : ls ≠ []) : (ptsOf k ls d at0).foldl gatherP acc = acc ++ [at0] := by
  have key : ∀ (qs : List Pt) (acc : List Nat), (∀ p ∈ qs, p.node = k) → acc.length = k + 1 → qs.foldl gatherP acc = acc := by
    intro qs
    induction qs with
    | nil => intro acc _ _; rfl
    | cons p qs ih =>
      intro acc h1 h2
      have hp := h1 p (by simp)
      rw [List.foldl_cons, show gatherP acc p = acc by unfold gatherP; rw [if_neg (by omega)]]
      exact ih acc (fun q hq => h1 q (by simp [hq])) h2
  cases ls with
  | nil => exact absurd rfl hls
  | cons b ls =>
    have e : ptsOf k (b :: ls) d at0 = ⟨at0, k, dataOf (ls.length + 1) d 0, b⟩ :: (ptsOf k (b :: ls) d at0).drop 1 := by
      unfold ptsOf
      rw [List.mapIdx_cons]
      rfl
    have hn : ∀ p ∈ ptsOf k (b :: ls) d at0, p.node = k := by
      intro p hp
      obtain ⟨i, hi⟩ := List.getElem?_of_mem hp
      unfold ptsOf at hi
      rw [List.getElem?_mapIdx] at hi
      cases hx : (b :: ls)[i]? with
      | none => rw [hx] at hi; simp at hi
      | some y => rw [hx] at hi; simp at hi; rw [← hi]
    rw [e, List.foldl_cons, show gatherP acc ⟨at0, k, dataOf (ls.length + 1) d 0, b⟩ = acc ++ [at0] by unfold gatherP; rw [if_pos ha.symm]]
    exact key _ _ (fun p hp => hn p (List.mem_of_mem_drop hp)) (by simp [ha])
theorem startsF_nodes {t : List Nd} (ht : mayT t = true) : ∀ k, k ≤ t.length → startsF (nodesP t k) = (List.range k).map (startN t)
  | 0, _ => rfl
  | k + 1, h => by
    obtain ⟨n, hn⟩ : ∃ n, t[k]? = some n := ⟨_, List.getElem?_eq_getElem (by omega)⟩
    have hp := put_pos (Tree.may_one ht hn)
    have ih := startsF_nodes ht k (by omega)
    unfold startsF at ih ⊢
    rw [nodesP_step hn, List.foldl_append, ih, fold_pts k _ _ _ _ (by simp) (by intro e; rw [e] at hp; simp at hp), List.range_succ, List.map_append]
    rfl
theorem startsF_parts (t : List Nd) : startsF (partsS t) = startsS t := by
  cases ht : mayT t
  · rw [parts_no ht, startsS_no ht]
    rfl
  · have ih := startsF_nodes ht t.length (Nat.le_refl _)
    unfold startsF at ih ⊢
    rw [parts_yes ht, startsS_yes ht, List.foldl_append, ih, fold_pts t.length _ _ _ _ (by simp) (by rw [endsV_is]; simp), List.range_succ, List.map_append]
    rfl
end Go.Proofs.YtcgdeeinnfkgkaaGreat.Stream
