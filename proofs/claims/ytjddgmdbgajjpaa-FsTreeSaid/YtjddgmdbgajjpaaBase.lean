/-
  Plain lemmas on slices of one-cell elements that a call reads or owns, over any program: no statement is proved here.
  What the frames of the statements' proofs share: a slice of bytes that came in, read as a list: no statement is proved here.
  Slices whose elements are slices of bytes, as lists of lists: plain lemmas over any program; no statement is proved here.
  Strings over lists of bytes at this program's numbers: pieces, sums, bytes; make and copy over any program: no statement is proved here.
  Rows of slices of bytes that are appended to, as lists of lists: plain lemmas over any program; no statement is proved here.
-/
import Derived.WalkKit
import Derived.WalkSpells
import Derived.WalkLawsBesides
import Derived.Lib.Hide
import Derived.OneCell
import Derived.Laws.IdiomStrings
import Derived.ProofKit
import Derived.OpenShut
import Derived.ShutString
import Derived.ChangeOld
import Derived.Below
import Derived.Deep.Matrix
import Derived.Test.YtjddgmdbgajjpaaProg
import Derived.OwnWalkIn
namespace Go.Proofs.Ytjddgmdbgajjpaa.Base
open Go.RowKit

/-- A block known whole, none of it frozen. -/
def Blk (w : World) (g : Nat) (t : TypeId) (cs : Array Value) : Prop := w.heap[g]? = some (.cells cs t (0, 0))

section
variable {w w' : World} {g : Nat} {t : TypeId} {cs : Array Value}
theorem Blk.lt (h : Blk w g t cs) : g < w.heap.size := lt_of_block h
theorem Blk.cell (h : Blk w g t cs) (i : Nat) : w.cell? ⟨g, i, none⟩ = cs[i]? := cell_of_row w g i cs t (0, 0) h
theorem Blk.free (h : Blk w g t cs) (i : Nat) : w.frozen? ⟨g, i, none⟩ = false := frozen_of_row w g i cs t h
theorem Blk.new (w : World) (t : TypeId) (cs : Array Value) : Blk (w.alloc (.cells cs t)) w.heap.size t cs := heap_alloc_new w _
theorem Blk.drew (h : Blk w g t cs) : Blk w.drew g t cs := h
theorem Blk.alloc (h : Blk w g t cs) (o : Obj) : Blk (w.alloc o) g t cs := (Below.heap_alloc w o g h.lt).trans h
theorem Blk.put (h : Blk w g t cs) (i : Nat) (u : Value) : Blk (w.setCell ⟨g, i, none⟩ u) g t (cs.setIfInBounds i u) := by
  unfold Blk at h ⊢
  simp [World.setCell, Array.getElem?_modify, h]
theorem Blk.far (h : Blk w g t cs) {p : Addr} (hp : g ≠ p.block) (u : Value) : Blk (w.setCell p u) g t cs := (Below.heap_setCell w p u g hp).trans h
theorem Blk.keep {B : Nat} (h : Blk w g t cs) (hb : Below B w w') (hg : g < B) : Blk w' g t cs := (hb.block g hg).trans h
theorem Blk.grown {row : Option Nat} (h : Blk w g t cs) (hb : w.grownBy w' row) (hg : some g ≠ row) : Blk w' g t cs := (hb.block g h.lt hg).trans h
end

/-- The slice value v reads as the one-cell elements xs, all below block B. -/
def Rd (w : World) (B : Nat) (v : Value) (xs : List Value) : Prop :=
  ∃ A cap, v = .slice A xs.length cap ∧ xs.length ≤ cap ∧ (xs ≠ [] → ∃ b o, A = some ⟨b, o, none⟩ ∧ b < B ∧ ∀ j u, xs[j]? = some u → w.cell? ⟨b, o + j, none⟩ = some u)

/-- The slice value v owns the one-cell elements xs: it begins at the head of a block from lo on, of which no cell is frozen. -/
def Own (w : World) (lo : Nat) (e : TypeId) (v : Value) (xs : List Value) : Prop :=
  (v = .slice none 0 0 ∧ xs = []) ∨
  ∃ g cap cur fz, v = .slice (some ⟨g, 0, none⟩) xs.length cap ∧ lo ≤ g ∧ w.heap[g]? = some (.cells cur e fz) ∧ (fz.2 = 0 ∨ cap ≤ fz.1) ∧ xs.length ≤ cap ∧ cap ≤ maxLen ∧ cur.size = cap ∧ cur.toList.take xs.length = xs

section
variable {w w' : World} {B lo : Nat} {e : TypeId} {v : Value} {xs : List Value}

theorem Rd.nil (w : World) (B : Nat) : Rd w B (.slice none 0 0) [] := ⟨none, 0, rfl, Nat.le_refl _, fun h => absurd rfl h⟩
theorem Rd.keep (h : Rd w B v xs) (hb : Below B w w') : Rd w' B v xs := by
  obtain ⟨A, cap, rfl, hc, hr⟩ := h
  refine ⟨A, cap, rfl, hc, fun hn => ?_⟩
  obtain ⟨b, o, rfl, hB, hu⟩ := hr hn
  exact ⟨b, o, rfl, hB, fun j u hj => (hb.cell (p := ⟨b, o + j, none⟩) hB).trans (hu j u hj)⟩
theorem Rd.more {B' : Nat} (h : Rd w B v xs) (hB : B ≤ B') : Rd w B' v xs := by
  obtain ⟨A, cap, rfl, hc, hr⟩ := h
  refine ⟨A, cap, rfl, hc, fun hn => ?_⟩
  obtain ⟨b, o, rfl, hb, hu⟩ := hr hn
  exact ⟨b, o, rfl, by omega, hu⟩
theorem Rd.at_ (h : Rd w B v xs) {j : Nat} (hj : j < xs.length) : ∃ b o cap, v = .slice (some ⟨b, o, none⟩) xs.length cap ∧ xs.length ≤ cap ∧ b < B ∧ ∀ j u, xs[j]? = some u → w.cell? ⟨b, o + j, none⟩ = some u := by
  obtain ⟨A, cap, rfl, hc, hr⟩ := h
  obtain ⟨b, o, rfl, hb, hu⟩ := hr (by intro h; subst h; simp at hj)
  exact ⟨b, o, cap, rfl, hc, hb, hu⟩

theorem Own.nil (w : World) (lo : Nat) (e : TypeId) : Own w lo e (.slice none 0 0) [] := .inl ⟨rfl, rfl⟩
theorem Own.lt (h : Own w lo e v xs) : ∀ k, v.ownBlock = some k → lo ≤ k ∧ k < w.heap.size := by
  intro k hk
  rcases h with ⟨rfl, _⟩ | ⟨g, cap, cur, fz, rfl, hb, hg, _⟩
  · simp [Value.ownBlock] at hk
  · simp [Value.ownBlock] at hk
    subst hk
    exact ⟨hb, lt_of_block hg⟩
theorem Own.grown {row : Option Nat} (h : Own w lo e v xs) (hg : w.grownBy w' row) (hne : v.ownBlock = none ∨ v.ownBlock ≠ row) : Own w' lo e v xs := by
  rcases h with hn | ⟨g, cap, cur, fz, rfl, hb, hgg, rest⟩
  · exact .inl hn
  · refine .inr ⟨g, cap, cur, fz, rfl, hb, ?_, rest⟩
    rw [hg.block g (lt_of_block hgg) (by simpa [Value.ownBlock] using hne)]
    exact hgg
theorem Own.keep (h : Own w lo e v xs) (hb : Below w.heap.size w w') : Own w' lo e v xs := by
  rcases h with hn | ⟨g, cap, cur, fz, rfl, hl, hgg, rest⟩
  · exact .inl hn
  · exact .inr ⟨g, cap, cur, fz, rfl, hl, (hb.block g (lt_of_block hgg)).trans hgg, rest⟩
theorem Own.less {lo' : Nat} (h : Own w lo e v xs) (hl : lo' ≤ lo) : Own w lo' e v xs := by
  rcases h with hn | ⟨g, cap, cur, fz, rfl, hb, rest⟩
  · exact .inl hn
  · exact .inr ⟨g, cap, cur, fz, rfl, by omega, rest⟩
theorem Own.alloc (h : Own w lo e v xs) (o : Obj) : Own (w.alloc o) lo e v xs := h.keep ((Below.refl _ _).alloc (Nat.le_refl _) o)
theorem Own.drew (h : Own w lo e v xs) : Own w.drew lo e v xs := h
theorem Own.far (h : Own w lo e v xs) {p : Addr} (hp : v.ownBlock ≠ some p.block) (u : Value) : Own (w.setCell p u) lo e v xs := by
  rcases h with hn | ⟨g, cap, cur, fz, rfl, hb, hg, rest⟩
  · exact .inl hn
  · exact .inr ⟨g, cap, cur, fz, rfl, hb, (Below.heap_setCell w p u g (fun e => hp (by simp [Value.ownBlock, e]))).trans hg, rest⟩
theorem Own.rd (h : Own w lo e v xs) : Rd w w.heap.size v xs := by
  rcases h with ⟨rfl, rfl⟩ | ⟨g, cap, cur, fz, rfl, hb, hg, _, hc, _, _, ht⟩
  · exact Rd.nil _ _
  · refine ⟨_, cap, rfl, hc, fun _ => ⟨g, 0, rfl, lt_of_block hg, fun j u hj => ?_⟩⟩
    rw [Nat.zero_add, cell_of_row w g j cur e fz hg]
    rw [← ht, List.getElem?_take] at hj
    split at hj
    · simpa using hj
    · cases hj
theorem Own.of_blk {g : Nat} {cur : Array Value} {n : Nat} (h : Blk w g e cur) (hl : lo ≤ g) (hn : cur.size = n) (hm : n ≤ maxLen) : Own w lo e (.slice (some ⟨g, 0, none⟩) n n) cur.toList :=
  .inr ⟨g, n, cur, (0, 0), by simp [hn], hl, h, .inl rfl, by simp [hn], hm, hn, by simp [List.take_of_length_le]⟩
/-- A store into an owned row. -/
theorem Own.put {g cap : Nat} (h : Own w lo e (.slice (some ⟨g, 0, none⟩) xs.length cap) xs) (j : Nat) (u : Value) : Own (w.setCell ⟨g, j, none⟩ u) lo e (.slice (some ⟨g, 0, none⟩) xs.length cap) (xs.set j u) := by
  rcases h with ⟨h, _⟩ | ⟨g', cap', cur, fz, h, hb, hg, hfz, hc, hm, hs, ht⟩
  · simp at h
  · simp only [Value.slice.injEq, Option.some.injEq, Addr.mk.injEq, and_true, true_and] at h
    obtain ⟨rfl, rfl⟩ := h
    refine .inr ⟨g, cap, cur.setIfInBounds j u, fz, by simp, hb, ?_, hfz, by simpa using hc, hm, by simpa using hs, ?_⟩
    · simp [World.setCell, Array.getElem?_modify, hg]
    · rw [Array.toList_setIfInBounds, List.length_set]
      conv => rhs; rw [← ht]
      rw [List.take_set]
theorem Own.free {g cap : Nat} (h : Own w lo e (.slice (some ⟨g, 0, none⟩) xs.length cap) xs) (j : Nat) (hj : j < xs.length) : w.frozen? ⟨g, j, none⟩ = false := by
  rcases h with ⟨h, _⟩ | ⟨g', cap', cur, fz, h, hb, hg, hfz, hc, hm, hs, ht⟩
  · simp at h
  · simp only [Value.slice.injEq, Option.some.injEq, Addr.mk.injEq, and_true, true_and] at h
    obtain ⟨rfl, rfl⟩ := h
    obtain ⟨p, q⟩ := fz
    simp only [World.frozen?, hg, Bool.and_eq_false_iff, decide_eq_false_iff_not]
    simp only at hfz
    omega
theorem Own.free_n {g n cap : Nat} (h : Own w lo e (.slice (some ⟨g, 0, none⟩) n cap) xs) (hn : xs.length = n) (j : Nat) (hj : j < n) : w.frozen? ⟨g, j, none⟩ = false := by
  subst hn
  exact h.free j hj
theorem Own.put_n {g n cap : Nat} (h : Own w lo e (.slice (some ⟨g, 0, none⟩) n cap) xs) (hn : xs.length = n) (j : Nat) (u : Value) : Own (w.setCell ⟨g, j, none⟩ u) lo e (.slice (some ⟨g, 0, none⟩) n cap) (xs.set j u) := by
  subst hn
  exact h.put j u
theorem Own.form (h : Own w lo e v xs) (hx : xs ≠ []) : ∃ g cap, v = .slice (some ⟨g, 0, none⟩) xs.length cap ∧ lo ≤ g ∧ g < w.heap.size := by
  rcases h with ⟨_, h⟩ | ⟨g, cap, cur, fz, rfl, hb, hg, _⟩
  · exact absurd h hx
  · exact ⟨g, cap, rfl, hb, lt_of_block hg⟩
end

/-- A literal of one element lies in a block of its own. -/
theorem own_lit (w : World) (e : TypeId) (u : Value) : Own (w.alloc (.cells #[u] e)) w.heap.size e (.slice (some ⟨w.heap.size, 0, none⟩) 1 1) [u] :=
  Own.of_blk (cur := #[u]) (Blk.new w e #[u]) (Nat.le_refl _) rfl (by unfold maxLen; omega)
theorem rd_lit (w : World) (e : TypeId) (u : Value) : Rd (w.alloc (.cells #[u] e)) (w.heap.size + 1) (.slice (some ⟨w.heap.size, 0, none⟩) 1 1) [u] := by
  have h := (own_lit w e u).rd
  rwa [World.size_alloc] at h

/-- Stores behind one another into a block of which the cells that are written are not frozen. -/
theorem run_storeCells_free (P : Program) (g o : Nat) (t : TypeId) (fz : Nat × Nat) : ∀ (vs : List Value) (i : Nat) (cur : Array Value) (w : World), w.heap[g]? = some (.cells cur t fz) → (fz.2 = 0 ∨ o + i + vs.length ≤ fz.1) → o + i + vs.length ≤ cur.size → (∀ v ∈ vs, v.oneCell' = true) →
    (storeCells ⟨g, o, none⟩ vs i).run P w = .ok () (w.setRow g (cur.toList.take (o + i) ++ vs ++ cur.toList.drop (o + i + vs.length)).toArray)
  | [], i, cur, w, hg, _, _, _ => by
    simp only [storeCells, List.append_nil, List.length_nil, Nat.add_zero, List.take_append_drop, Array.toArray_toList]
    rw [setRow_self w g cur t fz hg]
    rfl
  | v :: rest, i, cur, w, hg, hfz, hl, h1 => by
    have hi : o + i < cur.size := by simp at hl; omega
    have hadd : (⟨g, o, none⟩ : Addr).add i = ⟨g, o + i, none⟩ := by unfold Addr.add; split <;> simp_all
    have hcell : w.cell? ⟨g, o + i, none⟩ = some cur[o + i] := by simp [World.cell?, hg, hi]
    have hfro : w.frozen? ⟨g, o + i, none⟩ = false := by
      obtain ⟨a, b⟩ := fz
      simp only [World.frozen?, hg, Bool.and_eq_false_iff, decide_eq_false_iff_not]
      simp only [List.length_cons] at hfz
      omega
    have hst : (store ((⟨g, o, none⟩ : Addr).add i) v).run P w = .ok () (w.setRow g (cur.setIfInBounds (o + i) v)) := by
      rw [hadd, run_store P w _ v _ (h1 v (by simp)), hcell]
      simp [hfro, setCell_eq_setRow w g (o + i) cur t fz v hg]
    have ih := run_storeCells_free P g o t fz rest (i + 1) (cur.setIfInBounds (o + i) v) (w.setRow g (cur.setIfInBounds (o + i) v)) (setRow_heap w g cur _ t _ hg) (by simp at hfz ⊢; omega) (by simp at hl ⊢; omega) (fun x hx => h1 x (by simp [hx]))
    simp only [storeCells, Sem.run_bind, hst, Result.andThen_ok, ih, setRow_setRow]
    congr 3
    have e := list_seg_step cur.toList (o + i) v rest (by simp at hl ⊢; omega)
    simpa [Array.toList_setIfInBounds, Nat.add_assoc] using e

section
variable {P : Program} (w : World)

theorem run_append_nothing (lo : Nat) (t ty e : TypeId) (i : TypeInfo) (ht : P.underlying t = some (.slice e)) (hi : P.info? e = some i)
    (v : Value) (xs : List Value) (hown : Own w lo e v xs) (A : Option Addr) (c : Nat) : (Builtin.append_ #[t, t] ty #[v, .slice A 0 c]).run P w = .ok v w := by
  rcases hown with ⟨rfl, rfl⟩ | ⟨g, cap, cur, fz, rfl, _, hg, _, hnc, _⟩
  · cases A <;> simp [Builtin.append_, run_underlying ht, sizeOf, typeInfo, hi, Builtin.lenOf, Builtin.firstCells, loadCells, loadCellsFrom]
  · cases A <;> simp [Builtin.append_, run_underlying ht, sizeOf, typeInfo, hi, Builtin.lenOf, Builtin.firstCells, hnc, loadCells, loadCellsFrom, storeCells]

/-- append onto a row of the call's own, the source whatever. -/
theorem run_append_rd (lo : Nat) (t ty e : TypeId) (i : TypeInfo) (z : Value) (bytes : Nat) (ht : P.underlying t = some (.slice e)) (hi : P.info? e = some i) (hz : i.zero = some z)
    (hsize : i.size = 1) (hby : i.bytes = bytes) (hzs : z.cells.size = 1)
    (v : Value) (xs : List Value) (hown : Own w lo e v xs) (B : Nat) (u : Value) (news : List Value) (hr : Rd w B u news) (h1 : ∀ u ∈ news, u.oneCell' = true)
    (h63 : xs.length + news.length ≤ maxLen) (hbytes : (xs.length + news.length) * bytes ≤ 140737488355328) (hlo : lo ≤ w.heap.size) :
    ∃ v' w', (Builtin.append_ #[t, t] ty #[v, u]).run P w = .ok v' w' ∧ Own w' lo e v' (xs ++ news) ∧ w.grownBy w' v.ownBlock ∧ (v'.ownBlock = v.ownBlock ∨ v'.ownBlock = some w.heap.size) := by
  by_cases hn : news = []
  · subst hn
    obtain ⟨A, c, rfl, _, _⟩ := hr
    exact ⟨v, w, by simpa using run_append_nothing (P := P) w lo t ty e i ht hi v xs hown A c, by simpa using hown, World.grownBy.refl w _, .inl rfl⟩
  · obtain ⟨A, c, rfl, hnc, hrr⟩ := hr
    obtain ⟨b, o, rfl, hb, hcell⟩ := hrr hn
    have hnews : ∀ j u, news[j]? = some u → w.cell? ((⟨b, o, none⟩ : Addr).add j) = some u := fun j u hj => by rw [Addr.add_lit]; exact hcell j u hj
    have hpos : 0 < news.length := List.length_pos_iff.2 hn
    have hsmall : xs.length + news.length ≤ 9223372036854775807 := by simp only [maxLen] at h63; omega
    rcases hown with ⟨rfl, rfl⟩ | ⟨g, cap, cur, fz, rfl, hbg, hg, hfz, hxc, hcm, hcs, htake⟩
    · simp only [List.length_nil, Nat.zero_add] at hsmall hbytes h63
      have hrun := run_append_nil (P := P) w t ty e i z ht hi hz ⟨b, o, none⟩ news.length c news (by rw [hsize]; omega) hnews hpos (by omega) (by rw [hby]; omega)
      have hge := grownCap_ge w news.length 0 e
      have hcm2 : grownCap w news.length 0 e ≤ maxLen := grownCap_le_maxLen w news.length 0 e h63
      refine ⟨_, _, hrun, .inr ⟨w.heap.size, _, _, (0, 0), rfl, hlo, heap_alloc_new w.drew _, .inl rfl, hge, hcm2, ?_, ?_⟩, ⟨rfl, rfl, rfl, by simp, fun k hk _ => Below.heap_alloc w.drew _ k hk⟩, .inr rfl⟩
      · simp only [Array.size_append, List.size_toArray, size_zeroCells, hzs]
        omega
      · simp
    · by_cases hroom : xs.length + news.length ≤ cap
      · have hf := run_firstCells_some (P := P) w 1 news.length ⟨b, o, none⟩ news.length c news (by omega) hnews
        have hst := run_storeCells_free P g xs.length e fz news 0 cur w hg (by omega) (by omega) h1
        simp only [Nat.add_zero] at hst
        have hrun : (Builtin.append_ #[t, t] ty #[.slice (some ⟨g, 0, none⟩) xs.length cap, .slice (some ⟨b, o, none⟩) news.length c]).run P w =
            .ok (.slice (some ⟨g, 0, none⟩) (xs.length + news.length) cap) (w.setRow g (cur.toList.take xs.length ++ news ++ cur.toList.drop (xs.length + news.length)).toArray) := by
          simp [Builtin.append_, run_underlying ht, sizeOf, typeInfo, hi, Builtin.lenOf, hroom, hf, Addr.add_lit, hsize, hst]
        refine ⟨_, _, hrun, .inr ⟨g, cap, _, fz, by rw [List.length_append], hbg, setRow_heap w g cur _ e _ hg, hfz, by simpa using hroom, hcm, ?_, ?_⟩, ⟨rfl, rfl, rfl, by simp, fun k _ hk => setRow_other w g k _ (fun e => hk (by simp [Value.ownBlock, e]))⟩, .inl rfl⟩
        · simp only [List.size_toArray, List.length_append, List.length_take, List.length_drop, Array.length_toList]
          omega
        · rw [htake]
          exact List.take_left
      · have holds : ∀ j u, xs[j]? = some u → w.cell? ((⟨g, 0, none⟩ : Addr).add j) = some u := by
          intro j u hj
          rw [Addr.add_lit, Nat.zero_add, cell_of_row w g j cur e fz hg]
          rw [← htake, List.getElem?_take] at hj
          split at hj
          · simpa using hj
          · cases hj
        have hrun := run_append_grow (P := P) w t ty e i z ht hi hz ⟨g, 0, none⟩ xs.length cap xs (by rw [hsize]; omega) holds ⟨b, o, none⟩ news.length c news (by rw [hsize]; omega) hnews (by omega) (by omega) (growslice_fits (by omega) (by rw [hby]; exact hbytes))
        have hge := grownCap_ge w (xs.length + news.length) cap e
        have hcm2 : grownCap w (xs.length + news.length) cap e ≤ maxLen := grownCap_le_maxLen w (xs.length + news.length) cap e h63
        refine ⟨_, _, hrun, .inr ⟨w.heap.size, _, _, (0, 0), by rw [List.length_append], hlo, heap_alloc_new w.drew _, .inl rfl, by simpa using hge, hcm2, ?_, ?_⟩, ⟨rfl, rfl, rfl, by simp, fun k hk _ => Below.heap_alloc w.drew _ k hk⟩, .inr rfl⟩
        · simp only [Array.size_append, List.size_toArray, size_zeroCells, hzs]
          omega
        · simp only [Array.toList_append]
          exact List.take_left

theorem wpList_append_rd {ops : Array Oper} {rest : List Oper} {o : Oper} {a : Act} {Q : Exit → Act → World → Prop} (hgd : o.guard = none) (s x : Operand) (t : TypeId)
    (ho : o.op = .call { callee := .builtin .append, args := #[s, x], argTypes := #[t, t] })
    (lo : Nat) (e : TypeId) (z : Value) (bytes : Nat) (ht : P.underlying t = some (.slice e)) (hi : (P.info? e).map (fun i => (i.zero, i.size, i.bytes)) = some (some z, 1, bytes)) (hzs : z.cells.size = 1)
    (v : Value) (xs : List Value) (hs : a.eval s = v) (hown : Own w lo e v xs)
    (B : Nat) (u : Value) (news : List Value) (hx : a.eval x = u) (hr : Rd w B u news) (h1 : ∀ u ∈ news, u.oneCell' = true)
    (h63 : xs.length + news.length ≤ maxLen) (hbytes : (xs.length + news.length) * bytes ≤ 140737488355328) (hlo : lo ≤ w.heap.size)
    (h : ∀ v' w', Own w' lo e v' (xs ++ news) → w.grownBy w' v.ownBlock → (v'.ownBlock = v.ownBlock ∨ v'.ownBlock = some w.heap.size) → wpList P ops Q rest (a.put o.dst v') w') : wpList P ops Q (o :: rest) a w := by
  refine wpList_plain hgd fun K hK => ?_
  obtain ⟨i, hi', hz, hsz, hby⟩ := info_parts hi
  obtain ⟨v', w', hr', h2, h3, h4⟩ := run_append_rd (P := P) w lo t o.type e i z bytes ht hi' hz hsz hby hzs v xs hown B u news hr h1 h63 hbytes hlo
  unfold Oper.wp execOp
  simp only [ho, resolve, invoke, builtin, Sem.run_bind, Sem.run_pure, Result.andThen_ok, List.map_toArray, List.map_cons, List.map_nil, hs, hx, hr']
  exact hK _ _ (h v' w' h2 h3 h4)

/-- The same, where something is there behind it: the slice written out. -/
theorem wpList_append_form {ops : Array Oper} {rest : List Oper} {o : Oper} {a : Act} {Q : Exit → Act → World → Prop} (hgd : o.guard = none) (s x : Operand) (t : TypeId)
    (ho : o.op = .call { callee := .builtin .append, args := #[s, x], argTypes := #[t, t] })
    (lo : Nat) (e : TypeId) (z : Value) (bytes : Nat) (ht : P.underlying t = some (.slice e)) (hi : (P.info? e).map (fun i => (i.zero, i.size, i.bytes)) = some (some z, 1, bytes)) (hzs : z.cells.size = 1)
    (v : Value) (xs : List Value) (hs : a.eval s = v) (hown : Own w lo e v xs)
    (B : Nat) (u : Value) (news : List Value) (hx : a.eval x = u) (hr : Rd w B u news) (h1 : ∀ u ∈ news, u.oneCell' = true)
    (n : Nat) (hn : (xs ++ news).length = n) (hpos : 0 < n) (h63 : n ≤ maxLen) (hbytes : n * bytes ≤ 140737488355328) (hlo : lo ≤ w.heap.size)
    (h : ∀ g cap w', Own w' lo e (.slice (some ⟨g, 0, none⟩) n cap) (xs ++ news) → w.grownBy w' v.ownBlock → lo ≤ g → g < w'.heap.size → (v.ownBlock = some g ∨ g = w.heap.size) → wpList P ops Q rest (a.put o.dst (.slice (some ⟨g, 0, none⟩) n cap)) w') : wpList P ops Q (o :: rest) a w := by
  subst hn
  refine wpList_append_rd w hgd s x t ho lo e z bytes ht hi hzs v xs hs hown B u news hx hr h1 (by rw [List.length_append] at h63; exact h63) (by rw [List.length_append] at hbytes; exact hbytes) hlo ?_
  intro v' w' hv' hg hat
  obtain ⟨g, cap, hv, hl, hlt⟩ := hv'.form (by intro e; rw [e] at hpos; simp at hpos)
  subst hv
  refine h g cap w' hv' hg hl hlt ?_
  rcases hat with e | e
  · exact .inl (by rw [← e]; rfl)
  · simp [Value.ownBlock] at e
    exact .inr e

/-- make([]T, n): a block of n zeros. -/
theorem wpList_make_blk {ops : Array Oper} {rest : List Oper} {o : Oper} {a : Act} {Q : Exit → Act → World → Prop} (hgd : o.guard = none) (l c : Operand) (t : TypeId) (ho : o.op = .makeSlice t l c)
    (e : TypeId) (z : Value) (bytes : Nat) (ht : P.underlying t = some (.slice e)) (hi : (P.info? e).map (fun i => (i.zero, i.size, i.bytes)) = some (some z, 1, bytes)) (hzc : z.cells = #[z])
    (kl kc : IntKind) (C : Int) (n : Nat) (hl : a.eval l = .int kl C) (hc : a.eval c = .int kc C) (hC : C = (n : Int)) (b2 : bytes * n ≤ 281474976710656) (b3 : n ≤ maxLen)
    (h : ∀ w', Blk w' w.heap.size e (Array.replicate n z) → w'.heap.size = w.heap.size + 1 → w.grownBy w' none → wpList P ops Q rest (a.put o.dst (.slice (some ⟨w.heap.size, 0, none⟩) n n)) w') : wpList P ops Q (o :: rest) a w := by
  refine wpList_plain hgd fun K hK => ?_
  obtain ⟨i, hi', hz, hsz, hby⟩ := info_parts hi
  subst hC
  have h63 : (n : Int) ≤ 9223372036854775807 := by simp only [maxLen] at b3; omega
  have hb : (i.bytes : Int) * (n : Int) ≤ 281474976710656 := by
    have h : ((i.bytes * n : Nat) : Int) ≤ 281474976710656 := by rw [hby]; omega
    rwa [Int.natCast_mul] at h
  have hr := run_make (P := P) w t e i z ht hi' hz kl kc n n (by omega) (Int.le_refl _) hb h63
  rw [Int.toNat_natCast, hsz, Nat.mul_one, hzc] at hr
  have hrow : madeCells #[z] n = Array.replicate n z := by
    apply Array.ext'
    rw [toList_madeCells_one, Array.toList_replicate]
  rw [hrow] at hr
  unfold Oper.wp execOp
  simp only [ho, hl, hc, Sem.run_bind, Sem.run_pure, hr, Result.andThen_ok]
  exact hK _ _ (h _ (Blk.new w e _) (by simp) (World.grownBy_alloc w _ none))

/-- The bytes of a string, or of a slice, as cells. -/
def bs (l : List UInt8) : List Value := l.map fun b => .int .u8 (b.toNat : Int)
theorem bs_length (l : List UInt8) : (bs l).length = l.length := by simp [bs]
theorem bs_append (l m : List UInt8) : bs (l ++ m) = bs l ++ bs m := by simp [bs]
theorem bs_one (l : List UInt8) : ∀ u ∈ bs l, u.oneCell' = true := by
  intro u hu
  obtain ⟨_, _, rfl⟩ := List.mem_map.1 hu
  rfl
theorem bs_inj {l m : List UInt8} (h : bs l = bs m) : l = m := by
  have hf : Function.Injective (fun b : UInt8 => Value.int .u8 (b.toNat : Int)) := by
    intro a b h
    simp only [Value.int.injEq, true_and] at h
    exact UInt8.toNat_inj.1 (by omega)
  exact (List.map_inj_right (fun _ _ h => hf h)).1 h
theorem bs_at {l : List UInt8} {j : Nat} (hj : j < l.length) : (bs l)[j]? = some (.int .u8 (l[j].toNat : Int)) := by simp [bs, hj]
theorem bs_set (l : List UInt8) (j : Nat) (c : UInt8) : bs (l.set j c) = (bs l).set j (.int .u8 (c.toNat : Int)) := by simp [bs, List.map_set]

/-- string(b). -/
theorem run_string_rd (src dst e : TypeId) (hs : P.underlying src = some (.slice e)) (he : P.underlying e = some (.int .u8)) (hd : P.underlying dst = some .string) (B : Nat) (v : Value) (l : List UInt8) (h : Rd w B v (bs l)) :
    (convert src dst v).run P w = .ok (.string ⟨l.toArray⟩) w := by
  obtain ⟨A, cap, rfl, _, hr⟩ := h
  rw [bs_length]
  by_cases hl : l = []
  · subst hl
    cases A with
    | none => rw [run_convert_bytes_string w src dst e _ _ _ hs he hd]; simp [Conv.bytesToString]; rfl
    | some a => exact run_convert_bytes_back w src dst e a cap [] hs he hd (by intro j hj; simp at hj)
  · obtain ⟨b, o, rfl, _, hc⟩ := hr (by simpa [bs] using hl)
    exact run_convert_bytes_back w src dst e ⟨b, o, none⟩ cap l hs he hd (fun j hj => by rw [Addr.add_lit]; exact hc j _ (bs_at hj))

/-- []byte(s). -/
theorem own_bytesRow (w : World) (e : TypeId) (s : ByteArray) (hm : s.size ≤ maxLen) :
    Own (w.drew.alloc (.cells (bytesRow s (grownCap w s.size 0 e)) e ((bytesRow s (grownCap w s.size 0 e)).size, (bytesRow s (grownCap w s.size 0 e)).size + 1))) w.heap.size e
      (.slice (some ⟨w.heap.size, 0, none⟩) s.size (grownCap w s.size 0 e)) (bs s.data.toList) := by
  have hge := grownCap_ge w s.size 0 e
  have hcm : grownCap w s.size 0 e ≤ maxLen := grownCap_le_maxLen w s.size 0 e hm
  have hsz : (bytesRow s (grownCap w s.size 0 e)).size = grownCap w s.size 0 e := by
    have hd : s.data.size = s.size := rfl
    simp only [bytesRow, Array.size_append, Array.size_map, Array.size_replicate]
    omega
  have hss : s.size = s.data.toList.length := by rw [Array.length_toList]; rfl
  refine .inr ⟨w.heap.size, _, _, _, by rw [bs_length, ← hss], Nat.le_refl _, heap_alloc_new w.drew _, .inr (by simp only; omega), by rw [bs_length, ← hss]; exact hge, hcm, hsz, ?_⟩
  simp [bytesRow, bs]

theorem wpList_bytes {ops : Array Oper} {rest : List Oper} {o : Oper} {a : Act} {Q : Exit → Act → World → Prop} (hgd : o.guard = none) (src dst : TypeId) (x : Operand) (ho : o.op = .convert src dst x)
    (e : TypeId) (hs : P.underlying src = some .string) (hd : P.underlying dst = some (.slice e)) (he : P.underlying e = some (.int .u8)) (s : ByteArray) (hx : a.eval x = .string s) (hm : s.size ≤ maxLen)
    (h : ∀ v' w', Own w' w.heap.size e v' (bs s.data.toList) → w.grownBy w' none → v'.ownBlock = some w.heap.size → wpList P ops Q rest (a.put o.dst v') w') : wpList P ops Q (o :: rest) a w := by
  refine wpList_plain hgd fun K hK => ?_
  have hr := run_bytes_of_string (P := P) w src dst e s hs hd he
  unfold Oper.wp execOp
  simp only [ho, hx, Sem.run_bind, Sem.run_pure, hr, Result.andThen_ok]
  exact hK _ _ (h _ _ (own_bytesRow w e s hm) ⟨rfl, rfl, rfl, by simp, fun k hk _ => Below.heap_alloc w.drew _ k hk⟩ rfl)
end

/-- Nothing that was there is written. -/
def Stp (w w' : World) : Prop := Below w.heap.size w w'
section
variable {w w' w1 w2 : World}
theorem Stp.refl (w : World) : Stp w w := Below.refl _ _
theorem Stp.trans {a b c : World} (h : Stp a b) (k : Stp b c) : Stp a c := Below.trans h (Below.mono k h.size)
theorem Stp.drewN (h : Stp w w1) (n : Nat) : Stp w (w1.drewN n) := ⟨h.os, h.tape, h.output, h.size, h.block⟩
theorem Stp.alloc (h : Stp w w1) (o : Obj) : Stp w (w1.alloc o) := Below.alloc h h.size o
end
theorem ret_bool {b : Bool} (h : b = true) : Ending.returned (.bool b) = .returned (.bool true) := by rw [h]
/-- The slice at A reads as the one-cell elements xs, of which it has as many. -/
def RdA (w : World) (A : Option Addr) (cap : Nat) (xs : List Value) : Prop := Rd w w.heap.size (.slice A xs.length cap) xs
theorem RdA.keep {w w' : World} {A : Option Addr} {cap : Nat} {xs : List Value} (h : RdA w A cap xs) (hs : Stp w w') : RdA w' A cap xs := (Rd.keep h hs).more hs.size
theorem RdA.of {w : World} {v : Value} {xs : List Value} (h : Rd w w.heap.size v xs) : ∃ A cap, v = .slice A xs.length cap ∧ RdA w A cap xs := by
  obtain ⟨A, cap, rfl, h1, h2⟩ := h
  exact ⟨A, cap, rfl, A, cap, rfl, h1, h2⟩
theorem RdA.at_ {w : World} {A : Option Addr} {cap : Nat} {xs : List Value} (h : RdA w A cap xs) {j : Nat} (hj : j < xs.length) : ∃ b o, A = some ⟨b, o, none⟩ ∧ ∀ i u, xs[i]? = some u → w.cell? ⟨b, o + i, none⟩ = some u := by
  obtain ⟨A', cap', h1, _, h2⟩ := h
  obtain ⟨b, o, rfl, _, hu⟩ := h2 (by intro h; subst h; simp at hj)
  simp only [Value.slice.injEq] at h1
  exact ⟨b, o, h1.1, hu⟩
end Go.Proofs.Ytjddgmdbgajjpaa.Base

namespace Go.Proofs.Ytjddgmdbgajjpaa.Frame
open Go.ChangeShapes Go.WideShapes Go.ChangeAt Go.RowKit Go.Proofs.Ytjddgmdbgajjpaa.Base

/-- A slice of bytes that came in reads as a list of bytes. -/
theorem rd_of_ints {w : World} {a : Option Addr} {len cap : Nat}
    (h : (a = none ∧ len = 0 ∧ cap = 0) ∨ ∃ (x : Addr) (zs : List Int), a = some x ∧ len ≤ cap ∧ cap ≤ maxLen ∧ zs.length = cap ∧ (∀ i, i < zs.length → w.cell? (x.add i) = some (.int .u8 (zs.getD i 0))) ∧ ∀ n ∈ zs, (Lit.int .u8 n).wf = true) :
    ∃ l : List UInt8, Rd w w.heap.size (.slice a len cap) (bs l) ∧ l.length < 9223372036854775808 := by
  rcases h with ⟨rfl, rfl, rfl⟩ | ⟨x, zs, rfl, hl, hm, hz, hc, hw⟩
  · exact ⟨[], Rd.nil _ _, by simp⟩
  · have hlen : (bs ((zs.take len).map fun n => UInt8.ofNat n.toNat)).length = len := by
      rw [bs_length, List.length_map, List.length_take]; omega
    refine ⟨(zs.take len).map fun n => UInt8.ofNat n.toNat, ⟨some x, cap, by rw [hlen], by rw [hlen]; exact hl, fun hne => ?_⟩, ?_⟩
    · have hpos : 0 < len := by
        rcases Nat.eq_zero_or_pos len with h0 | h0
        · subst h0; simp at hlen; exact absurd (List.eq_nil_of_length_eq_zero (by simpa using hlen)) hne
        · exact h0
      have h0 := hc 0 (by omega)
      obtain ⟨b, o, s⟩ := x
      have hs : s = none := by simpa [Addr.add] using World.cell?_spot h0
      subst hs
      refine ⟨b, o, rfl, ?_, fun j u hj => ?_⟩
      · have := World.block_lt_of_cell? w _ h0
        simpa [Addr.add] using this
      · have hjl : j < len := by
          have := (List.getElem?_eq_some_iff.1 hj).1
          rwa [hlen] at this
        have hcj := hc j (by omega)
        rw [Addr.add_lit] at hcj
        rw [hcj]
        have hjz : j < zs.length := by omega
        have hb := bounds_u8 (hw zs[j] (List.getElem_mem hjz))
        have e : (bs ((zs.take len).map fun n => UInt8.ofNat n.toNat))[j]? = some (.int .u8 ((UInt8.ofNat (zs[j]).toNat).toNat : Int)) := by
          simp [bs, hjl, hjz]
        rw [e] at hj
        rw [← hj]
        have e2 : ((UInt8.ofNat (zs[j]).toNat).toNat : Int) = zs[j] := by
          rw [UInt8.toNat_ofNat']
          omega
        rw [e2]
        simp [List.getD, hjz]
    · rw [List.length_map, List.length_take]
      unfold maxLen at hm
      omega
end Go.Proofs.Ytjddgmdbgajjpaa.Frame

namespace Go.Proofs.Ytjddgmdbgajjpaa.Base
open Go.RowKit

theorem RdA.length_le {w : World} {A : Option Addr} {cap : Nat} {xs : List Value} (h : RdA w A cap xs) : xs.length ≤ cap := by
  obtain ⟨A', cap', h1, h2, _⟩ := h
  simp only [Value.slice.injEq] at h1
  omega
theorem RdA.nil (w : World) : RdA w none 0 [] := Rd.nil _ _
theorem RdA.take {w : World} {A : Option Addr} {cap : Nat} {xs : List Value} (h : RdA w A cap xs) (k : Nat) : RdA w A cap (xs.take k) := by
  obtain ⟨A', cap', h1, h2, h3⟩ := h
  simp only [Value.slice.injEq, true_and] at h1
  obtain ⟨rfl, rfl⟩ := h1
  refine ⟨_, _, rfl, by rw [List.length_take]; omega, fun hn => ?_⟩
  obtain ⟨b, o, rfl, hb, hu⟩ := h3 (by rintro rfl; exact hn (by simp))
  refine ⟨b, o, rfl, hb, fun j u hj => hu j u ?_⟩
  rw [List.getElem?_take] at hj
  split at hj
  · exact hj
  · cases hj

theorem rd_of_row {w : World} {lo n : Nat} {e : TypeId} {v : Value} {xs : List Value} (h : w.ownsRow lo e 1 v n xs) : Rd w w.heap.size v xs := by
  obtain ⟨hl, ⟨rfl, rfl⟩ | ⟨g, cap, cur, rfl, hb, hg, hn, hcap, hs, ht⟩⟩ := h
  · obtain rfl : xs = [] := List.eq_nil_of_length_eq_zero (by simpa using hl)
    exact Rd.nil _ _
  · simp only [Nat.mul_one] at hl ht
    refine ⟨_, cap, by rw [hl], by omega, fun _ => ⟨g, 0, rfl, lt_of_block hg, fun j u hj => ?_⟩⟩
    rw [Nat.zero_add, cell_of_row w g j cur e _ hg]
    rw [← ht, List.getElem?_take] at hj
    split at hj
    · simpa using hj
    · cases hj

/-- The slice at A reads as slices that read as the texts ls. -/
def RdL (w : World) (A : Option Addr) (cap : Nat) (ls : List (List UInt8)) : Prop :=
  ∃ us : List Value, us.length = ls.length ∧ RdA w A cap us ∧ ∀ (j : Nat) (l : List UInt8), ls[j]? = some l → ∃ u, us[j]? = some u ∧ Rd w w.heap.size u (bs l)
section
variable {w w' : World} {A : Option Addr} {cap : Nat} {ls : List (List UInt8)}
theorem RdL.nil (w : World) : RdL w none 0 [] := ⟨[], rfl, RdA.nil w, by simp⟩
theorem RdL.keep (h : RdL w A cap ls) (hs : Stp w w') : RdL w' A cap ls := by
  obtain ⟨us, h1, h2, h3⟩ := h
  refine ⟨us, h1, h2.keep hs, fun j l hj => ?_⟩
  obtain ⟨u, hu, hr⟩ := h3 j l hj
  exact ⟨u, hu, (hr.keep hs).more hs.size⟩
theorem RdL.length_le (h : RdL w A cap ls) : ls.length ≤ cap := by
  obtain ⟨us, h1, h2, _⟩ := h
  rw [← h1]
  exact h2.length_le
/-- One element: its cell, and what it reads as. -/
theorem RdL.at_ (h : RdL w A cap ls) {j : Nat} {l : List UInt8} (hj : ls[j]? = some l) : ∃ b o A1 cap1, A = some ⟨b, o, none⟩ ∧ w.cell? ⟨b, o + j, none⟩ = some (.slice A1 l.length cap1) ∧ RdA w A1 cap1 (bs l) := by
  obtain ⟨us, h1, h2, h3⟩ := h
  obtain ⟨u, hu, hr⟩ := h3 j l hj
  obtain ⟨b, o, rfl, hc⟩ := h2.at_ (j := j) (List.getElem?_eq_some_iff.1 hu).1
  obtain ⟨A1, cap1, rfl, hA⟩ := RdA.of hr
  exact ⟨b, o, A1, cap1, rfl, by rw [← bs_length]; exact hc j _ hu, hA⟩
theorem RdL.rd (h : RdL w A cap ls) : ∃ us : List Value, us.length = ls.length ∧ RdA w A cap us ∧ ∀ (j : Nat) (l : List UInt8), ls[j]? = some l → ∃ u, us[j]? = some u ∧ Rd w w.heap.size u (bs l) := h
/-- A list that is longer by those of another one. -/
theorem RdL.of_append {A : Option Addr} {c : Nat} {ls ms : List (List UInt8)} {us vs : List Value} (hu : us.length = ls.length) (hv : vs.length = ms.length)
    (h1 : ∀ (j : Nat) (l : List UInt8), ls[j]? = some l → ∃ u, us[j]? = some u ∧ Rd w w.heap.size u (bs l)) (h2 : ∀ (j : Nat) (l : List UInt8), ms[j]? = some l → ∃ u, vs[j]? = some u ∧ Rd w w.heap.size u (bs l))
    (h : RdA w A c (us ++ vs)) : RdL w A c (ls ++ ms) := by
  refine ⟨us ++ vs, by simp [hu, hv], h, fun j l hj => ?_⟩
  by_cases hlt : j < ls.length
  · rw [List.getElem?_append_left hlt] at hj
    rw [List.getElem?_append_left (by omega)]
    exact h1 j l hj
  · rw [List.getElem?_append_right (by omega)] at hj
    rw [List.getElem?_append_right (by omega), hu]
    exact h2 _ l hj
end

/-- A slice of slices of bytes that came in. -/
theorem rdL_of_rows {w : World} {a : Option Addr} {len cap : Nat}
    (h : (a = none ∧ len = 0 ∧ cap = 0) ∨ ∃ (x : Addr) (A : Nat → Option Addr) (Ln C : Nat → Nat) (Z : Nat → List Int), a = some x ∧ len ≤ cap ∧ cap ≤ maxLen ∧
      ∀ r, r < cap → w.cell? (x.add r) = some (.slice (A r) (Ln r) (C r)) ∧ Ln r ≤ C r ∧ C r ≤ maxLen ∧ (Z r).length = C r ∧ (∀ n ∈ Z r, (Lit.int .u8 n).wf = true) ∧ (A r = none → C r = 0) ∧
        ∀ a', A r = some a' → ∀ c, c < C r → w.cell? (a'.add c) = some (.int .u8 ((Z r).getD c 0))) :
    ∃ ls : List (List UInt8), ls.length = len ∧ RdL w a cap ls ∧ (∀ l ∈ ls, l.length < 9223372036854775808) ∧ len < 9223372036854775808 := by
  rcases h with ⟨rfl, rfl, rfl⟩ | ⟨x, A, Ln, C, Z, rfl, hl, hm, hr⟩
  · exact ⟨[], rfl, RdL.nil w, by simp, by omega⟩
  · have each : ∀ r, r < len → ∃ l : List UInt8, Rd w w.heap.size (.slice (A r) (Ln r) (C r)) (bs l) ∧ l.length < 9223372036854775808 := by
      intro r hlt
      obtain ⟨_, h1, h2, h3, h4, h5, h6⟩ := hr r (by omega)
      refine Frame.rd_of_ints ?_
      cases hA : A r with
      | none =>
        have := h5 hA
        exact .inl ⟨rfl, by omega, this⟩
      | some a' => exact .inr ⟨a', Z r, rfl, h1, h2, h3, fun i hi => h6 a' hA i (by omega), h4⟩
    obtain ⟨f, hf⟩ := Deep.choose_lt each
    have hlt63 : len < 9223372036854775808 := by unfold maxLen at hm; omega
    refine ⟨(List.range len).map f, by simp, ?_, ?_, hlt63⟩
    · refine ⟨(List.range len).map fun r => .slice (A r) (Ln r) (C r), by simp, ?_, ?_⟩
      · refine ⟨_, cap, rfl, by simpa using hl, fun hn => ?_⟩
        have h0 : 0 < len := by
          rcases Nat.eq_zero_or_pos len with h0 | h0
          · subst h0; simp at hn
          · exact h0
        have hc := (hr 0 (by omega)).1
        obtain ⟨b, o, sp⟩ := x
        have hs : sp = none := by simpa [Addr.add] using World.cell?_spot hc
        subst hs
        refine ⟨b, o, rfl, ?_, fun j u hj => ?_⟩
        · have := World.block_lt_of_cell? w _ hc
          simpa [Addr.add] using this
        · have hjl : j < len := by have := (List.getElem?_eq_some_iff.1 hj).1; simpa using this
          rw [List.getElem?_map, List.getElem?_range hjl] at hj
          obtain rfl : Value.slice (A j) (Ln j) (C j) = u := by simpa using hj
          have := (hr j (by omega)).1
          rwa [Addr.add_lit] at this
      · intro j l hj
        have hjl : j < len := by have := (List.getElem?_eq_some_iff.1 hj).1; simpa using this
        rw [List.getElem?_map, List.getElem?_range hjl] at hj
        refine ⟨_, by rw [List.getElem?_map, List.getElem?_range hjl]; rfl, ?_⟩
        obtain rfl : f j = l := by simpa using hj
        exact (hf j hjl).1
    · intro l hl
      obtain ⟨r, hr', rfl⟩ := List.mem_map.1 hl
      exact (hf r (by simpa using hr')).2
end Go.Proofs.Ytjddgmdbgajjpaa.Base

namespace Go.Proofs.Ytjddgmdbgajjpaa.Str
open Go.RowKit Go.Proofs.Ytjddgmdbgajjpaa.Base

theorem ba_eq {s : ByteArray} {l : List UInt8} (h : s.data.toList = l) : s = ⟨l.toArray⟩ := by
  obtain ⟨⟨d⟩⟩ := s
  simp only at h
  subst h
  rfl
theorem ba_size (s : ByteArray) : s.data.toList.length = s.size := by rw [Array.length_toList]; rfl
theorem str_form (s : ByteArray) (h : s.size ≤ maxLen) : ∃ l : List UInt8, s = ⟨l.toArray⟩ ∧ l.length ≤ 9223372036854775807 :=
  ⟨s.data.toList, ba_eq rfl, by rw [ba_size]; unfold maxLen at h; exact h⟩
theorem extract_take (s : ByteArray) (k : Nat) : (s.extract 0 k).data.toList = s.data.toList.take k := by
  simp [ByteArray.data_extract]
theorem extract_drop (s : ByteArray) (k : Nat) : (s.extract k s.size).data.toList = s.data.toList.drop k := by
  rw [ByteArray.data_extract, Array.toList_extract, List.extract_eq_take_drop, List.take_of_length_le]
  rw [List.length_drop, ba_size]
  exact Nat.le_refl _
theorem cut_h (p : List UInt8) (k : Nat) (h : k ≤ p.length) (w : World) : (Instr.slice 9 (.string ⟨p.toArray⟩) none (some (.int .i64 (k : Int))) none).run Try.prog w = .ok (.string ⟨(p.take k).toArray⟩) w := by
  rw [run_slice_string_h (P := Try.prog) w 9 _ Try.underlying9 .i64 k (by omega) (by show (k : Int) ≤ (p.toArray.size : Int); simp; omega)]
  have e := ba_eq (extract_take ⟨p.toArray⟩ k)
  rw [Int.toNat_natCast, e]
theorem cut_l (p : List UInt8) (k : Nat) (h : k ≤ p.length) (w : World) : (Instr.slice 9 (.string ⟨p.toArray⟩) (some (.int .i64 (k : Int))) none none).run Try.prog w = .ok (.string ⟨(p.drop k).toArray⟩) w := by
  rw [run_slice_string_l (P := Try.prog) w 9 _ Try.underlying9 .i64 k (by omega) (by show (k : Int) ≤ (p.toArray.size : Int); simp; omega)]
  have e := ba_eq (extract_drop ⟨p.toArray⟩ k)
  rw [Int.toNat_natCast, e]
theorem add_ll (a b : List UInt8) (h : a.length + b.length ≤ 9223372036854775807) (w : World) : (Op.stringOp .add ⟨a.toArray⟩ ⟨b.toArray⟩).run Try.prog w = .ok (.string ⟨(a ++ b).toArray⟩) w := by
  rw [run_string_add_sum (P := Try.prog) w _ _ (by show a.toArray.size + b.toArray.size ≤ _; simpa using h)]
  have e : (⟨a.toArray⟩ ++ ⟨b.toArray⟩ : ByteArray) = ⟨(a ++ b).toArray⟩ := ba_eq (by rw [ByteArray.data_append]; simp)
  rw [e]
theorem idx_l (p : List UInt8) (i : Int) (c : UInt8) (h0 : 0 ≤ i) (h : p[i.toNat]? = some c) (w : World) : (Instr.index 9 (.string ⟨p.toArray⟩) (.int .i64 i)).run Try.prog w = .ok (.int .u8 (c.toNat : Int)) w := by
  obtain ⟨hl, hc⟩ := List.getElem?_eq_some_iff.1 h
  rw [run_index_string (P := Try.prog) w 9 _ .i64 i Try.underlying9, dif_pos ⟨h0, by show i < (p.toArray.size : Int); simp; omega⟩]
  rw [← hc]
  rfl

/-! ### make and copy, inside a fence -/
section
variable {P : Program} (w : World)
theorem run_make_blk (t e : TypeId) (z : Value) (bytes : Nat) (ht : P.underlying t = some (.slice e)) (hi : (P.info? e).map (fun i => (i.zero, i.size, i.bytes)) = some (some z, 1, bytes)) (hzc : z.cells = #[z])
    (kl kc : IntKind) (n : Nat) (b2 : bytes * n ≤ 281474976710656) (b3 : n ≤ maxLen) :
    (Instr.makeSlice t (.int kl (n : Int)) (.int kc (n : Int))).run P w = .ok (.slice (some ⟨w.heap.size, 0, none⟩) n n) (w.alloc (.cells (Array.replicate n z) e)) := by
  obtain ⟨i, hi', hz, hsz, hby⟩ := info_parts hi
  have h63 : (n : Int) ≤ 9223372036854775807 := by simp only [maxLen] at b3; omega
  have hb : (i.bytes : Int) * (n : Int) ≤ 281474976710656 := by
    have h : ((i.bytes * n : Nat) : Int) ≤ 281474976710656 := by rw [hby]; omega
    rwa [Int.natCast_mul] at h
  have hr := run_make (P := P) w t e i z ht hi' hz kl kc n n (by omega) (Int.le_refl _) hb h63
  rw [Int.toNat_natCast, hsz, Nat.mul_one, hzc] at hr
  rw [hr]
  have hrow : madeCells #[z] n = Array.replicate n z := by
    apply Array.ext'
    rw [toList_madeCells_one, Array.toList_replicate]
  rw [hrow]

/-- copy(dst, s): as many bytes as go in. -/
theorem run_copy_str (dT sT ty elem : TypeId) (g n cap : Nat) (t : TypeId) (cur : Array Value) (s : List UInt8) (hu : P.underlying dT = some (.slice elem)) (hs : (P.info? elem).map (·.size) = some 1)
    (hb : Blk w g t cur) (hn : n ≤ cur.size) :
    ∃ w', (Builtin.copy_ #[dT, sT] ty #[.slice (some ⟨g, 0, none⟩) n cap, .string ⟨s.toArray⟩]).run P w = .ok (.int .i64 (min s.length n : Nat)) w' ∧ Blk w' g t (bs (s.take n) ++ cur.toList.drop (min s.length n)).toArray ∧ w.grownBy w' (some g) := by
  have hlen : (bs (s.take n)).length = min s.length n := by rw [bs_length, List.length_take, Nat.min_comm]
  have hst := run_storeCells_free P g 0 t (0, 0) (bs (s.take n)) 0 cur w hb (.inl rfl) (by rw [hlen]; omega) (bs_one _)
  simp only [Nat.zero_add, List.take_zero, List.nil_append, hlen] at hst
  refine ⟨_, ?_, setRow_heap w g cur _ t _ hb, ⟨rfl, rfl, rfl, by simp [World.setRow], fun k _ hk => setRow_other w g k _ (fun e => hk (by rw [e]))⟩⟩
  have hsz : (ByteArray.mk s.toArray).size = s.length := by simp [ByteArray.size]
  have htk : List.take (min s.length n) (List.map (fun b : UInt8 => Value.int IntKind.u8 (b.toNat : Int)) s) = bs (s.take n) := by
    rw [← List.map_take]
    unfold bs
    congr 1
    rw [List.take_eq_take_iff]
    omega
  cases hq : P.info? elem with
  | none => simp [hq] at hs
  | some i =>
    simp [Builtin.copy_, run_underlying hu, Builtin.lenOf, Builtin.firstCells, sizeOf, typeInfo, hq, hsz]
    rw [show s.length.min n = min s.length n from rfl, htk, hst]
    rfl
end

section
variable {F : Fence} {n : Nat} {P : Program} (w : World) {ops : Array Oper} {rest : List Oper} {o : Oper} {a : Act} {Q : Exit → Act → World → Prop}
theorem wpListIn_make_blk (hg : o.guard = none) (l c : Operand) (t : TypeId) (hop : o.op = Op.makeSlice t l c)
    (e : TypeId) (z : Value) (bytes : Nat) (ht : P.underlying t = some (.slice e)) (hi : (P.info? e).map (fun i => (i.zero, i.size, i.bytes)) = some (some z, 1, bytes)) (hzc : z.cells = #[z])
    (kl kc : IntKind) (C : Int) (m : Nat) (hl : a.eval l = .int kl C) (hc : a.eval c = .int kc C) (hC : C = (m : Int)) (b2 : bytes * m ≤ 281474976710656) (b3 : m ≤ maxLen)
    (hK : wpListIn F n P ops Q rest (a.put o.dst (.slice (some ⟨w.heap.size, 0, none⟩) m m)) (w.alloc (.cells (Array.replicate m z) e))) : wpListIn F n P ops Q (o :: rest) a w := by
  refine wpListIn_plain hg fun K hK' => ?_
  subst hC
  have hrun := run_make_blk (P := P) w t e z bytes ht hi hzc kl kc m b2 b3
  unfold Oper.wpIn
  refine ⟨?_, ?_⟩
  · simp [Oper.about, hop]
  · rw [Oper.semAt_plain F _ _ (by rw [hop]; intro c hc'; cases hc')]
    simp only [execOp, hop, hl, hc, hrun, Sem.run_bind, Sem.run_pure, Result.andThen_ok]
    exact hK' _ _ hK

theorem wpListIn_copy_str (hg : o.guard = none) (d x : Operand) (dT sT : TypeId) (hop : o.op = .call { callee := .builtin .copy, args := #[d, x], argTypes := #[dT, sT] })
    (elem : TypeId) (hu : P.underlying dT = some (.slice elem)) (hs : (P.info? elem).map (·.size) = some 1) (g m cap : Nat) (t : TypeId) (cur : Array Value) (s : List UInt8)
    (hd : a.eval d = .slice (some ⟨g, 0, none⟩) m cap) (hx : a.eval x = .string ⟨s.toArray⟩) (hb : Blk w g t cur) (hn : m ≤ cur.size)
    (hK : ∀ w', Blk w' g t (bs (s.take m) ++ cur.toList.drop (min s.length m)).toArray → w.grownBy w' (some g) → wpListIn F n P ops Q rest (a.put o.dst (.int .i64 (min s.length m : Nat))) w') : wpListIn F n P ops Q (o :: rest) a w := by
  refine wpListIn_plain hg fun K hK' => ?_
  obtain ⟨w', hrun, r1, r2⟩ := run_copy_str (P := P) w dT sT o.type elem g m cap t cur s hu hs hb hn
  unfold Oper.wpIn
  refine ⟨?_, ?_⟩
  · simp [Oper.about, hop, resolve, Target.leads, Sem.run_pure]
  · rw [Oper.semAt_plain F _ _ (by rw [hop]; intro c hc'; cases hc')]
    simp [execOp, hop, resolve, invoke, builtin, hd, hx, hrun, Result.andThen]
    exact hK' _ _ (hK w' r1 r2)
end
end Go.Proofs.Ytjddgmdbgajjpaa.Str

namespace Go.Proofs.Ytjddgmdbgajjpaa.Base
open Go.RowKit

/-- A value that is a slice. -/
def IsSl (c : Value) : Prop := ∃ A n cap, c = .slice A n cap
/-- Of the block that v owns all cells are slices. -/
def AllSl (w : World) (v : Value) : Prop := ∀ g, v.ownBlock = some g → ∀ j c, w.cell? ⟨g, j, none⟩ = some c → IsSl c
section
variable {P : Program} {w w' : World} {lo : Nat} {e : TypeId} {v : Value} {xs : List Value}
theorem isSl_one {c : Value} (h : IsSl c) : c.oneCell' = true := by
  obtain ⟨A, n, cap, rfl⟩ := h
  rfl
theorem AllSl.nil (w : World) : AllSl w (.slice none 0 0) := fun g h => by simp [Value.ownBlock] at h
theorem own_lt (h : Own w lo e v xs) {g : Nat} (hg : v.ownBlock = some g) : g < w.heap.size := (h.lt g hg).2
theorem AllSl.keep (h : AllSl w v) (ho : Own w lo e v xs) (hs : Stp w w') : AllSl w' v := fun g hg j c hc => by
  rw [hs.cell (p := ⟨g, j, none⟩) (own_lt ho hg)] at hc
  exact h g hg j c hc
theorem AllSl.grown {row : Option Nat} (h : AllSl w v) (ho : Own w lo e v xs) (hb : w.grownBy w' row) (hne : v.ownBlock = none ∨ v.ownBlock ≠ row) : AllSl w' v := fun g hg j c hc => by
  have hr : some g ≠ row := by
    rcases hne with q | q
    · rw [hg] at q; cases q
    · rw [← hg]; exact q
  have e := hb.block g (own_lt ho hg) hr
  have e2 : w'.cell? ⟨g, j, none⟩ = w.cell? ⟨g, j, none⟩ := by simp only [World.cell?, e]
  rw [e2] at hc
  exact h g hg j c hc
/-- Bytes do not lie among slices. -/
theorem Rd.past {B : Nat} {u : Value} {l : List UInt8} (h : Rd w B u (bs l)) (hs : AllSl w v) (hb : w.grownBy w' v.ownBlock) (hB : B ≤ w.heap.size) : Rd w' B u (bs l) := by
  obtain ⟨A, cap, rfl, hc, hr⟩ := h
  refine ⟨A, cap, rfl, hc, fun hn => ?_⟩
  obtain ⟨b, o, rfl, hB2, hu⟩ := hr hn
  refine ⟨b, o, rfl, hB2, fun j u hj => ?_⟩
  have hj2 := hu j u hj
  have hne : some b ≠ v.ownBlock := fun q => by
    obtain ⟨A, n, cp, e⟩ := hs b q.symm (o + j) u hj2
    subst e
    have := bs_one l _ (List.mem_of_getElem? hj)
    have hm := List.mem_of_getElem? hj
    simp [bs] at hm
  have e := hb.block b (by omega) hne
  rw [← hj2]
  simp only [World.cell?, e]

/-- append onto a row of slices of the call's own. -/
theorem run_append_sl (lo : Nat) (t ty e : TypeId) (i : TypeInfo) (z : Value) (bytes : Nat) (ht : P.underlying t = some (.slice e)) (hi : P.info? e = some i) (hz : i.zero = some z)
    (hsize : i.size = 1) (hby : i.bytes = bytes) (hzs : z.cells = #[z]) (hzl : IsSl z)
    (v : Value) (xs : List Value) (hown : Own w lo e v xs) (hall : AllSl w v) (B : Nat) (u : Value) (news : List Value) (hr : Rd w B u news) (h1 : ∀ u ∈ news, IsSl u)
    (h63 : xs.length + news.length ≤ maxLen) (hbytes : (xs.length + news.length) * bytes ≤ 140737488355328) (hlo : lo ≤ w.heap.size) :
    ∃ v' w', (Builtin.append_ #[t, t] ty #[v, u]).run P w = .ok v' w' ∧ Own w' lo e v' (xs ++ news) ∧ AllSl w' v' ∧ w.grownBy w' v.ownBlock := by
  have hzs1 : z.cells.size = 1 := by rw [hzs]; rfl
  by_cases hn : news = []
  · subst hn
    obtain ⟨A, c, rfl, _, _⟩ := hr
    exact ⟨v, w, by simpa using run_append_nothing (P := P) w lo t ty e i ht hi v xs hown A c, by simpa using hown, hall, World.grownBy.refl w _⟩
  · obtain ⟨A, c, rfl, hnc, hrr⟩ := hr
    obtain ⟨b, o, rfl, hb, hcell⟩ := hrr hn
    have hnews : ∀ j u, news[j]? = some u → w.cell? ((⟨b, o, none⟩ : Addr).add j) = some u := fun j u hj => by rw [Addr.add_lit]; exact hcell j u hj
    have hpos : 0 < news.length := List.length_pos_iff.2 hn
    have hsmall : xs.length + news.length ≤ 9223372036854775807 := by simp only [maxLen] at h63; omega
    have hzm : ∀ n c, c ∈ (Builtin.zeroCells z.cells n).toList → IsSl c := by
      intro n c hc
      rw [hzs] at hc
      unfold Builtin.zeroCells at hc
      simp only [Array.toList_map, List.mem_map] at hc
      obtain ⟨i, _, rfl⟩ := hc
      rw [show i % (#[z] : Array Value).size = 0 from Nat.mod_one i]
      exact hzl
    rcases hown with ⟨rfl, rfl⟩ | ⟨g, cap, cur, fz, rfl, hbg, hg, hfz, hxc, hcm, hcs, htake⟩
    · simp only [List.length_nil, Nat.zero_add] at hsmall hbytes h63
      have hrun := run_append_nil (P := P) w t ty e i z ht hi hz ⟨b, o, none⟩ news.length c news (by rw [hsize]; omega) hnews hpos (by omega) (by rw [hby]; omega)
      have hge := grownCap_ge w news.length 0 e
      have hcm2 : grownCap w news.length 0 e ≤ maxLen := grownCap_le_maxLen w news.length 0 e h63
      refine ⟨_, _, hrun, .inr ⟨w.heap.size, _, _, (0, 0), rfl, hlo, heap_alloc_new w.drew _, .inl rfl, hge, hcm2, ?_, ?_⟩, ?_, ⟨rfl, rfl, rfl, by simp, fun k hk _ => Below.heap_alloc w.drew _ k hk⟩⟩
      · simp only [Array.size_append, List.size_toArray, size_zeroCells, hzs1]
        omega
      · simp
      · intro g' hg' j c hc
        have hg2 : w.heap.size = g' := by simpa [Value.ownBlock] using hg'
        subst hg2
        rw [show w.heap.size = w.drew.heap.size from rfl, World.cell?_alloc_new] at hc
        have hm := Array.mem_of_getElem? hc
        rw [← Array.mem_toList_iff, Array.toList_append, List.mem_append] at hm
        rcases hm with hm | hm
        · exact h1 c hm
        · exact hzm _ c hm
    · by_cases hroom : xs.length + news.length ≤ cap
      · have hf := run_firstCells_some (P := P) w 1 news.length ⟨b, o, none⟩ news.length c news (by omega) hnews
        have hst := run_storeCells_free P g xs.length e fz news 0 cur w hg (by omega) (by omega) (fun u hu => isSl_one (h1 u hu))
        simp only [Nat.add_zero] at hst
        have hrun : (Builtin.append_ #[t, t] ty #[.slice (some ⟨g, 0, none⟩) xs.length cap, .slice (some ⟨b, o, none⟩) news.length c]).run P w =
            .ok (.slice (some ⟨g, 0, none⟩) (xs.length + news.length) cap) (w.setRow g (cur.toList.take xs.length ++ news ++ cur.toList.drop (xs.length + news.length)).toArray) := by
          simp [Builtin.append_, run_underlying ht, sizeOf, typeInfo, hi, Builtin.lenOf, hroom, hf, Addr.add_lit, hsize, hst]
        refine ⟨_, _, hrun, .inr ⟨g, cap, _, fz, by rw [List.length_append], hbg, setRow_heap w g cur _ e _ hg, hfz, by simpa using hroom, hcm, ?_, ?_⟩, ?_, ⟨rfl, rfl, rfl, by simp, fun k _ hk => setRow_other w g k _ (fun e => hk (by simp [Value.ownBlock, e]))⟩⟩
        · simp only [List.size_toArray, List.length_append, List.length_take, List.length_drop, Array.length_toList]
          omega
        · rw [htake]
          exact List.take_left
        · intro g' hg' j c hc
          have hg2 : g = g' := by simpa [Value.ownBlock] using hg'
          subst hg2
          rw [cell_of_row _ g j _ e fz (setRow_heap w g cur _ e _ hg)] at hc
          have hm := Array.mem_of_getElem? hc
          rw [List.mem_toArray, List.mem_append, List.mem_append] at hm
          have hcur : ∀ c ∈ cur.toList, IsSl c := fun c hc => by
            obtain ⟨k, hk⟩ := List.getElem?_of_mem hc
            exact hall g (by simp [Value.ownBlock]) k c (by rw [cell_of_row w g k cur e fz hg]; simpa using hk)
          rcases hm with (hm | hm) | hm
          · exact hcur c (List.mem_of_mem_take hm)
          · exact h1 c hm
          · exact hcur c (List.mem_of_mem_drop hm)
      · have holds : ∀ j u, xs[j]? = some u → w.cell? ((⟨g, 0, none⟩ : Addr).add j) = some u := by
          intro j u hj
          rw [Addr.add_lit, Nat.zero_add, cell_of_row w g j cur e fz hg]
          rw [← htake, List.getElem?_take] at hj
          split at hj
          · simpa using hj
          · cases hj
        have hrun := run_append_grow (P := P) w t ty e i z ht hi hz ⟨g, 0, none⟩ xs.length cap xs (by rw [hsize]; omega) holds ⟨b, o, none⟩ news.length c news (by rw [hsize]; omega) hnews (by omega) (by omega) (growslice_fits (by omega) (by rw [hby]; exact hbytes))
        have hge := grownCap_ge w (xs.length + news.length) cap e
        have hcm2 : grownCap w (xs.length + news.length) cap e ≤ maxLen := grownCap_le_maxLen w (xs.length + news.length) cap e h63
        refine ⟨_, _, hrun, .inr ⟨w.heap.size, _, _, (0, 0), by rw [List.length_append], hlo, heap_alloc_new w.drew _, .inl rfl, by simpa using hge, hcm2, ?_, ?_⟩, ?_, ⟨rfl, rfl, rfl, by simp, fun k hk _ => Below.heap_alloc w.drew _ k hk⟩⟩
        · simp only [Array.size_append, List.size_toArray, size_zeroCells, hzs1]
          omega
        · simp only [Array.toList_append]
          exact List.take_left
        · intro g' hg' j c hc
          have hg2 : w.heap.size = g' := by simpa [Value.ownBlock] using hg'
          subst hg2
          rw [show w.heap.size = w.drew.heap.size from rfl, World.cell?_alloc_new] at hc
          have hm := Array.mem_of_getElem? hc
          rw [← Array.mem_toList_iff, Array.toList_append, Array.toList_append, List.mem_append, List.mem_append] at hm
          rcases hm with (hm | hm) | hm
          · obtain ⟨k, hk⟩ := List.getElem?_of_mem hm
            have := holds k c (by simpa using hk)
            exact hall g (by simp [Value.ownBlock]) (0 + k) c (by rwa [Addr.add_lit] at this)
          · exact h1 c hm
          · exact hzm _ c hm
end

/-- A row of the call's own that holds slices which read as texts. -/
def Rows (w : World) (lo : Nat) (e : TypeId) (v : Value) (ls : List (List UInt8)) : Prop :=
  ∃ us : List Value, Own w lo e v us ∧ AllSl w v ∧ us.length = ls.length ∧ ∀ (j : Nat) (l : List UInt8), ls[j]? = some l → ∃ u, us[j]? = some u ∧ Rd w w.heap.size u (bs l)
section
variable {P : Program} {w w' : World} {lo : Nat} {e : TypeId} {v : Value} {ls ms : List (List UInt8)}
theorem Rows.nil (w : World) (lo : Nat) (e : TypeId) : Rows w lo e (.slice none 0 0) [] := ⟨[], Own.nil _ _ _, AllSl.nil w, rfl, by simp⟩
theorem Rows.keep (h : Rows w lo e v ls) (hs : Stp w w') : Rows w' lo e v ls := by
  obtain ⟨us, h1, h2, h3, h4⟩ := h
  refine ⟨us, h1.keep hs, h2.keep h1 hs, h3, fun j l hj => ?_⟩
  obtain ⟨u, hu, hr⟩ := h4 j l hj
  exact ⟨u, hu, (hr.keep hs).more hs.size⟩
theorem Rows.rdL (h : Rows w lo e v ls) : ∃ A cap, v = .slice A ls.length cap ∧ RdL w A cap ls := by
  obtain ⟨us, h1, h2, h3, h4⟩ := h
  obtain ⟨A, cap, rfl, hA⟩ := RdA.of h1.rd
  exact ⟨A, cap, by rw [h3], us, h3, hA, h4⟩
/-- A literal of one slice. -/
theorem Rows.one {A : Option Addr} {n cap : Nat} {l : List UInt8} (h : RdA w A cap (bs l)) (hn : l.length = n) : Rows (w.alloc (.cells #[.slice A n cap] e)) w.heap.size e (.slice (some ⟨w.heap.size, 0, none⟩) 1 1) [l] := by
  subst hn
  refine ⟨[.slice A l.length cap], own_lit w e _, ?_, rfl, fun j k hj => ?_⟩
  · intro g hg j c hc
    have hg2 : w.heap.size = g := by simpa [Value.ownBlock] using hg
    subst hg2
    rw [World.cell?_alloc_new] at hc
    have hm := Array.mem_of_getElem? hc
    simp only [List.mem_toArray, List.mem_singleton] at hm
    exact ⟨_, _, _, hm⟩
  · cases j with
    | zero =>
      simp only [List.getElem?_cons_zero, Option.some.injEq] at hj
      subst hj
      refine ⟨_, rfl, ?_⟩
      have := h.keep (Stp.alloc (Stp.refl w) (.cells #[.slice A l.length cap] e))
      unfold RdA at this
      rwa [bs_length] at this
    | succ j => simp at hj
/-- append of a slice of slices. -/
theorem Rows.more (h : Rows w lo e v ls) (t ty : TypeId) (ht : P.underlying t = some (.slice e)) (hi : (P.info? e).map (fun i => (i.zero, i.size, i.bytes)) = some (some (.slice none 0 0), 1, 24))
    {A : Option Addr} {n c : Nat} (hm : RdL w A c ms) (hn : ms.length = n) (hl : ls.length + ms.length ≤ 1000000000) (hlo : lo ≤ w.heap.size) :
    ∃ v' w', (Builtin.append_ #[t, t] ty #[v, .slice A n c]).run P w = .ok v' w' ∧ Rows w' lo e v' (ls ++ ms) ∧ w.grownBy w' v.ownBlock := by
  subst hn
  obtain ⟨us, h1, h2, h3, h4⟩ := h
  obtain ⟨ns, k1, k2, k3⟩ := hm
  have hsl : ∀ u ∈ ns, IsSl u := fun u hu => by
    obtain ⟨j, hj⟩ := List.getElem?_of_mem hu
    have hjl : j < ms.length := by rw [← k1]; exact (List.getElem?_eq_some_iff.1 hj).1
    obtain ⟨u2, hu2, hr⟩ := k3 j _ (List.getElem?_eq_getElem hjl)
    rw [hj] at hu2
    cases hu2
    obtain ⟨A, cap, hv, _⟩ := hr
    exact ⟨A, _, cap, hv⟩
  obtain ⟨i, hi', hz, hsz, hby⟩ := info_parts hi
  obtain ⟨v', w', q1, q2, q3, q4⟩ := run_append_sl (P := P) (w := w) lo t ty e i _ 24 ht hi' hz hsz hby rfl ⟨_, _, _, rfl⟩ v us h1 h2 w.heap.size (.slice A ms.length c) ns (by rw [← k1]; exact k2) hsl
    (by rw [h3, k1]; unfold maxLen; omega) (by rw [h3, k1]; omega) hlo
  refine ⟨v', w', q1, ⟨us ++ ns, q2, q3, by simp [h3, k1], fun j l hj => ?_⟩, q4⟩
  by_cases hlt : j < ls.length
  · rw [List.getElem?_append_left hlt] at hj
    rw [List.getElem?_append_left (by omega)]
    obtain ⟨u, hu, hr⟩ := h4 j l hj
    exact ⟨u, hu, (hr.past h2 q4 (Nat.le_refl _)).more q4.size⟩
  · rw [List.getElem?_append_right (by omega)] at hj
    rw [List.getElem?_append_right (by omega), h3]
    obtain ⟨u, hu, hr⟩ := k3 _ l hj
    exact ⟨u, hu, (hr.past h2 q4 (Nat.le_refl _)).more q4.size⟩
theorem wpList_append_rows {ops : Array Oper} {rest : List Oper} {o : Oper} {a : Act} {Q : Exit → Act → World → Prop} (hgd : o.guard = none) (s x : Operand) (t : TypeId)
    (ho : o.op = .call { callee := .builtin .append, args := #[s, x], argTypes := #[t, t] })
    (e : TypeId) (ht : P.underlying t = some (.slice e)) (hi : (P.info? e).map (fun i => (i.zero, i.size, i.bytes)) = some (some (.slice none 0 0), 1, 24))
    (v : Value) (hs : a.eval s = v) (h : Rows w lo e v ls) {A : Option Addr} {n c : Nat} (hx : a.eval x = .slice A n c) (hm : RdL w A c ms) (hn : ms.length = n) (hl : ls.length + ms.length ≤ 1000000000) (hlo : lo ≤ w.heap.size)
    (hK : ∀ v' w', Rows w' lo e v' (ls ++ ms) → w.grownBy w' v.ownBlock → wpList P ops Q rest (a.put o.dst v') w') : wpList P ops Q (o :: rest) a w := by
  refine wpList_plain hgd fun K hK2 => ?_
  obtain ⟨v', w', hr', h2, h3⟩ := h.more (P := P) t o.type ht hi hm hn hl hlo
  unfold Oper.wp execOp
  simp only [ho, resolve, invoke, builtin, Sem.run_bind, Sem.run_pure, Result.andThen_ok, List.map_toArray, List.map_cons, List.map_nil, hs, hx, hr']
  exact hK2 _ _ (hK v' w' h2 h3)
/-- Nothing that was there at the call's beginning is written. -/
theorem Rows.stp {w0 : World} (h : Rows w lo e v ls) (h0 : Stp w0 w) (hlo : w0.heap.size ≤ lo) (hg : w.grownBy w' v.ownBlock) : Stp w0 w' := by
  obtain ⟨us, h1, _, _, _⟩ := h
  exact Below.grown h0 hg h0.size (fun j hj => Nat.le_trans hlo (h1.lt j hj).1)
end
end Go.Proofs.Ytjddgmdbgajjpaa.Base

