/-
  The document's own answers for package tree: May: no statement is proved here.
  What holds of trees that may be, as plain lists of nodes: no Go, and no statement, is proved here.
  What package stream answers, as plain functions over lists of nodes: no Go, and no statement, is proved here.
-/
import Derived.Test.YtjddgmdbgajjpaaTreeOne
import Derived.Sort.Walk0
import Derived.Test.YtjddgmdbgajjpaaEntryM
namespace Go.Proofs.Ytjddgmdbgajjpaa.Tree
open Go.RowKit Go.Proofs.Ytjddgmdbgajjpaa.Base Go.Proofs.Ytjddgmdbgajjpaa.Node Go.Proofs.Ytjddgmdbgajjpaa.Long

theorem mayT_iff {ns : List Nd} : mayT ns = true ↔ ns.length ≤ 20 ∧ ∀ (j : Nat) (m : Nd), ns[j]? = some m → stepB (ns.take j) m = true := by
  unfold mayT
  rw [Bool.and_eq_true, decide_eq_true_eq, List.all_eq_true]
  refine and_congr_right fun _ => ⟨fun h j m hj => ?_, fun h j hj => ?_⟩
  · have := h j (by rw [List.mem_range]; exact (List.getElem?_eq_some_iff.1 hj).1)
    rw [hj] at this
    simpa using this
  · rw [List.mem_range] at hj
    rw [List.getElem?_eq_getElem hj]
    simpa using h j _ (List.getElem?_eq_getElem hj)
theorem mayT_long {ns : List Nd} (h : ¬ ns.length ≤ 20) : mayT ns = false := by
  rw [Bool.eq_false_iff]
  intro hm
  exact h (mayT_iff.1 hm).1
theorem mayT_no {ns : List Nd} {k : Nat} {n : Nd} (hk : ns[k]? = some n) (h : stepB (ns.take k) n = false) : mayT ns = false := by
  rw [Bool.eq_false_iff]
  intro hm
  rw [(mayT_iff.1 hm).2 k n hk] at h
  cases h
theorem mayT_yes {ns : List Nd} (hl : ns.length ≤ 20) (h : ∀ (j : Nat) (m : Nd), j < ns.length → ns[j]? = some m → stepB (ns.take j) m = true) : mayT ns = true :=
  mayT_iff.2 ⟨hl, fun j m hj => h j m (List.getElem?_eq_some_iff.1 hj).1 hj⟩
theorem yes_step {ns : List Nd} {k : Nat} {n : Nd} (hk : ns[k]? = some n) (hn : stepB (ns.take k) n = true) (h : ∀ (j : Nat) (m : Nd), j < k → ns[j]? = some m → stepB (ns.take j) m = true) : ∀ (j : Nat) (m : Nd), j < k + 1 → ns[j]? = some m → stepB (ns.take j) m = true := by
  intro j m hj hm
  by_cases e : j = k
  · subst e
    rw [hk] at hm
    cases hm
    exact hn
  · exact h j m (by omega) hm
/-- What is asked of a node's path and the one ahead. -/
def riseB (ns : List Nd) (k : Nat) (n : Nd) : Bool := match (ns.take k).getLast? with | none => true | some m => !(Op.bytesLess n.path m.path || n.path == m.path)
theorem rise_zero (ns : List Nd) (n : Nd) : riseB ns 0 n = true := rfl
theorem rise_succ {ns : List Nd} {k : Nat} {m : Nd} (h : ns[k]? = some m) (n : Nd) : riseB ns (k + 1) n = !(Op.bytesLess n.path m.path || n.path == m.path) := by
  unfold riseB
  rw [List.take_add_one, h]
  simp
theorem step_is (ns : List Nd) (k : Nat) (n : Nd) : stepB (ns.take k) n = (oneB n && (riseB ns k n && ((!(PathM.parB n.path) || hasB (ns.take k) (PathM.parV n.path) 53) && (!(decide (n.kind = 49)) || hasB (ns.take k) n.link 48)))) := rfl
theorem nslice_h (b o n c k : Nat) (hk : k ≤ c) (w : World) : (Instr.slice 22 (.slice (some ⟨b, o, none⟩) n c) none (some (.int .i64 (k : Int))) none).run Try.prog w = .ok (.slice (some ⟨b, o, none⟩) k c) w := by
  have he : Try.prog.elem 22 = 26 := by kernel_rfl
  have hs : (sizeOf 26).run Try.prog w = .ok 8 w := by
    have hi : (Try.prog.info? 26).map (·.size) = some 8 := by kernel_rfl
    cases hq : Try.prog.info? 26 with
    | none => simp [hq] at hi
    | some i =>
      have : i.size = 8 := by simpa [hq] using hi
      simp [sizeOf, typeInfo, hq, this]
  rw [run_slice_h (P := Try.prog) w 22 _ _ _ (by rw [he]; exact Try.underlying22) .i64 k (by omega) (by omega), he, hs]
  simp only [Result.andThen_ok, sliced]
  simp
  intro _
  rw [Addr.add_lit, Nat.add_zero]
theorem k53 : (53 : Int) = ((53 : UInt8).toNat : Int) := rfl
theorem k48 : (48 : Int) = ((48 : UInt8).toNat : Int) := rfl

end Go.Proofs.Ytjddgmdbgajjpaa.Tree

namespace Go.Proofs.Ytjddgmdbgajjpaa.Tree
open Go.Proofs.Ytjddgmdbgajjpaa.Node Go.Proofs.Ytjddgmdbgajjpaa.Long

/-! ### the order of paths -/
theorem tri : ∀ x y : L, x < y ∨ x = y ∨ y < x
  | [], [] => .inr (.inl rfl)
  | [], _ :: _ => .inl (List.nil_lt_cons _ _)
  | _ :: _, [] => .inr (.inr (List.nil_lt_cons _ _))
  | a :: x, b :: y => by
    rw [List.cons_lt_cons_iff, List.cons_lt_cons_iff, UInt8.lt_iff_toNat_lt, UInt8.lt_iff_toNat_lt]
    rcases Nat.lt_trichotomy a.toNat b.toNat with h | h | h
    · exact .inl (.inl h)
    · have e := UInt8.toNat_inj.1 h
      subst e
      rcases tri x y with h1 | h1 | h1
      · exact .inl (.inr ⟨rfl, h1⟩)
      · exact .inr (.inl (by rw [h1]))
      · exact .inr (.inr (.inr ⟨rfl, h1⟩))
    · exact .inr (.inr (.inl h))
theorem not_le_lt {p q : L} (h : (!(Op.bytesLess p q || p == q)) = true) : q < p := by
  rw [bytesLess_eq] at h
  simp only [Bool.not_eq_true', Bool.or_eq_false_iff, decide_eq_false_iff_not, beq_eq_false_iff_ne] at h
  rcases tri q p with h1 | h1 | h1
  · exact h1
  · exact absurd h1.symm h.2
  · exact absurd h1 h.1
theorem lt_ne {p q : L} (h : p < q) : p ≠ q := by
  rintro rfl
  exact List.lt_irrefl _ h
theorem below_lt {p q : L} (h : PathM.belowB p q = true) : q < p := by
  obtain ⟨h1, h2, r, rfl⟩ := PathM.belowB_iff.1 h
  clear h h1 h2
  induction q with
  | nil => exact List.nil_lt_cons _ _
  | cons c q ih =>
    rw [List.cons_append, List.cons_lt_cons_iff]
    exact .inr ⟨rfl, ih⟩

/-! ### what each node of a tree is -/
theorem may_at {t : List Nd} {j : Nat} {m : Nd} (h : mayT t = true) (hj : t[j]? = some m) : stepB (t.take j) m = true := (mayT_iff.1 h).2 j m hj
theorem may_one {t : List Nd} {j : Nat} {m : Nd} (h : mayT t = true) (hj : t[j]? = some m) : oneB m = true := by
  have := may_at h hj
  unfold stepB at this
  rw [Bool.and_eq_true] at this
  exact this.1
theorem may_path {t : List Nd} {j : Nat} {m : Nd} (h : mayT t = true) (hj : t[j]? = some m) : PathM.mayB m.path = true := by
  have := may_one h hj
  unfold oneB at this
  rw [Bool.and_eq_true] at this
  exact this.1
theorem may_next {t : List Nd} {j : Nat} {a b : Nd} (h : mayT t = true) (ha : t[j]? = some a) (hb : t[j + 1]? = some b) : a.path < b.path := by
  have h1 := may_at h hb
  rw [step_is, rise_succ ha, Bool.and_eq_true, Bool.and_eq_true] at h1
  exact not_le_lt h1.2.1
theorem may_lt {t : List Nd} (h : mayT t = true) : ∀ (d i : Nat) (a b : Nd), t[i]? = some a → t[i + (d + 1)]? = some b → a.path < b.path
  | 0, i, a, b, ha, hb => may_next h ha hb
  | d + 1, i, a, b, ha, hb => by
    have hlt : i + (d + 1) < t.length := by
      have := (List.getElem?_eq_some_iff.1 hb).1
      omega
    have h1 := may_lt h d i a _ ha (List.getElem?_eq_getElem hlt)
    exact List.lt_trans h1 (may_next h (List.getElem?_eq_getElem hlt) hb)
theorem may_order {t : List Nd} {i k : Nat} {a b : Nd} (h : mayT t = true) (ha : t[i]? = some a) (hb : t[k]? = some b) (hik : i < k) : a.path < b.path :=
  may_lt h (k - i - 1) i a b ha (by rw [show i + (k - i - 1 + 1) = k by omega]; exact hb)
theorem may_behind {t : List Nd} {i k : Nat} {a b : Nd} (h : mayT t = true) (ha : t[i]? = some a) (hb : t[k]? = some b) (hl : a.path < b.path) : i < k := by
  rcases Nat.lt_trichotomy i k with h1 | h1 | h1
  · exact h1
  · subst h1
    rw [ha] at hb
    cases hb
    exact absurd hl (List.lt_irrefl _)
  · exact absurd (List.lt_trans hl (may_order h hb ha h1)) (List.lt_irrefl _)
theorem may_take {t : List Nd} (h : mayT t = true) (k : Nat) : mayT (t.take k) = true := by
  rw [mayT_iff] at h ⊢
  refine ⟨by rw [List.length_take]; omega, fun j m hj => ?_⟩
  have hjk : j < k := by
    have := (List.getElem?_eq_some_iff.1 hj).1
    rw [List.length_take] at this
    omega
  rw [List.take_take, Nat.min_eq_left (Nat.le_of_lt hjk)]
  rw [List.getElem?_take_of_lt hjk] at hj
  exact h.2 j m hj
/-- Each node is found at its place. -/
theorem may_find {t : List Nd} {k : Nat} {m : Nd} (h : mayT t = true) (hk : t[k]? = some m) : findN m.path t = some k :=
  findN_of hk rfl fun _ _ hj hx => lt_ne (may_order h hx hk hj)
theorem may_findV {t : List Nd} {k : Nat} {m : Nd} (h : mayT t = true) (hk : t[k]? = some m) : findV t m.path = (k : Int) := by
  rw [findV, may_find h hk]

/-! ### what stands ahead of a node -/
theorem has_ahead {t : List Nd} {j : Nat} {q : L} {kd : UInt8} (h : hasB (t.take j) q kd = true) : ∃ i n, i < j ∧ t[i]? = some n ∧ n.path = q ∧ n.kind = kd ∧ findN q t = some i := by
  unfold hasB at h
  split at h
  · rename_i i hf
    obtain ⟨n, h1, h2, h3⟩ := findN_lt hf
    rw [h1] at h
    have hi : i < j := by
      have := findN_bound hf
      rw [List.length_take] at this
      omega
    rw [List.getElem?_take_of_lt hi] at h1
    refine ⟨i, n, hi, h1, h2, by simpa using h, findN_of h1 h2 fun a x ha hx => h3 a x ha ?_⟩
    rw [List.getElem?_take_of_lt (by omega)]
    exact hx
  · cases h
theorem may_parent {t : List Nd} {j : Nat} {m : Nd} (h : mayT t = true) (hj : t[j]? = some m) (hp : PathM.parB m.path = true) : ∃ i n, i < j ∧ t[i]? = some n ∧ n.path = PathM.parV m.path ∧ n.kind = 53 ∧ findN (PathM.parV m.path) t = some i := by
  have h1 := may_at h hj
  rw [step_is, hp] at h1
  simp only [Bool.and_eq_true, Bool.not_true, Bool.false_or] at h1
  exact has_ahead h1.2.2.1
theorem may_hard {t : List Nd} {j : Nat} {m : Nd} (h : mayT t = true) (hj : t[j]? = some m) (hk : m.kind = 49) : ∃ i n, i < j ∧ t[i]? = some n ∧ n.path = m.link ∧ n.kind = 48 ∧ findN m.link t = some i := by
  have h1 := may_at h hj
  rw [step_is] at h1
  simp only [Bool.and_eq_true, hk, decide_true, Bool.not_true, Bool.false_or] at h1
  exact has_ahead h1.2.2.2

/-! ### below -/
theorem below_parent {p q : L} (h : PathM.belowB p q = true) : PathM.parB p = true ∧ (PathM.parV p = q ∨ PathM.belowB (PathM.parV p) q = true) := by
  obtain ⟨hp, hq, r, rfl⟩ := PathM.belowB_iff.1 h
  unfold PathM.parB PathM.parV
  rw [hp]
  cases hr : PathM.lastCut r with
  | none =>
    rw [PathM.lastCut_of (PathM.lastCut_none hr)]
    exact ⟨rfl, .inl rfl⟩
  | some x =>
    obtain ⟨a, b⟩ := x
    obtain ⟨rfl, hb⟩ := PathM.lastCut_some hr
    have e : q ++ 47 :: (a ++ 47 :: b) = (q ++ 47 :: a) ++ 47 :: b := by simp
    rw [e] at hp ⊢
    rw [PathM.lastCut_of hb]
    rw [PathM.mayB_append, Bool.and_eq_true] at hp
    exact ⟨rfl, .inr (PathM.belowB_iff.2 ⟨hp.1, hq, a, rfl⟩)⟩
theorem findN_no {p : L} {ns : List Nd} (h : findN p ns = none) : ∀ m ∈ ns, m.path ≠ p := by
  induction ns with
  | nil => simp
  | cons x ns ih =>
    unfold findN at h
    split at h
    · cases h
    · rename_i hx
      have h2 : findN p ns = none := by
        cases hf : findN p ns with
        | none => rfl
        | some k => rw [hf] at h; simp at h
      intro m hm
      rcases List.mem_cons.1 hm with rfl | hm
      · exact hx
      · exact ih h2 m hm
theorem below_dir {t : List Nd} (h : mayT t = true) : ∀ (k i : Nat) (a b : Nd), t[i]? = some a → t[k]? = some b → PathM.belowB b.path a.path = true → a.kind = 53 := by
  intro k
  induction k using Nat.strongRecOn with
  | _ k ih =>
    intro i a b ha hb hbl
    obtain ⟨hp, hq⟩ := below_parent hbl
    obtain ⟨j, n, hjk, hn, hnp, hnk, hf⟩ := may_parent h hb hp
    rcases hq with hq | hq
    · rw [hq, may_find h ha] at hf
      cases hf
      rw [ha] at hn
      cases hn
      exact hnk
    · exact ih j hjk i a n ha hn (by rw [hnp]; exact hq)
theorem under_fewer {t : List Nd} {i : Nat} {a : Nd} (ha : t[i]? = some a) : (underV t a.path).length < t.length := by
  unfold underV
  rw [List.length_filter_lt_length_iff_exists]
  exact ⟨a, List.mem_of_getElem? ha, by rw [PathM.belowB_irrefl]; decide⟩
theorem under_found {t : List Nd} {p : L} {k : Nat} {b : Nd} (hb : t[k]? = some b) : decide (0 ≤ findV (underV t p) b.path) = PathM.belowB b.path p := by
  unfold findV
  cases hf : findN b.path (underV t p) with
  | some j =>
    obtain ⟨n, hn, hp, _⟩ := findN_lt hf
    have := (List.mem_filter.1 (List.mem_of_getElem? hn)).2
    rw [hp] at this
    rw [this]
    simp
  | none =>
    symm
    rw [show decide ((0 : Int) ≤ -1) = false from rfl, Bool.eq_false_iff]
    intro hbl
    have hm : b ∈ underV t p := List.mem_filter.2 ⟨List.mem_of_getElem? hb, hbl⟩
    exact findN_no hf b hm rfl

/-! ### one node more -/
theorem may_more (t : List Nd) (n : Nd) (h : mayT t = true) : mayT (t ++ [n]) = (decide (t.length < 20) && stepB t n) := by
  rw [Bool.eq_iff_iff, mayT_iff, Bool.and_eq_true, decide_eq_true_eq]
  constructor
  · rintro ⟨h1, h2⟩
    refine ⟨by simp at h1; omega, ?_⟩
    have := h2 t.length n (by simp)
    rwa [List.take_left'] at this
    rfl
  · rintro ⟨h1, h2⟩
    refine ⟨by simp; omega, fun j m hj => ?_⟩
    rcases Nat.lt_trichotomy j t.length with hl | hl | hl
    · rw [List.getElem?_append_left hl] at hj
      rw [List.take_append_of_le_length (Nat.le_of_lt hl)]
      exact may_at h hj
    · subst hl
      rw [List.getElem?_append_right (Nat.le_refl _)] at hj
      simp at hj
      subst hj
      rw [List.take_left' rfl]
      exact h2
    · rw [List.getElem?_eq_none (by simp; omega)] at hj
      cases hj
end Go.Proofs.Ytjddgmdbgajjpaa.Tree

namespace Go.Proofs.Ytjddgmdbgajjpaa.Stream
open Go.Proofs.Ytjddgmdbgajjpaa.Node Go.Proofs.Ytjddgmdbgajjpaa.Head Go.Proofs.Ytjddgmdbgajjpaa.Long Go.Proofs.Ytjddgmdbgajjpaa.Entry
open Go.Proofs.Ytjddgmdbgajjpaa.Tree (oneB mayT)
abbrev L := List UInt8

/-- The nodes' blocks, the stream's, where a node begins, and whose a block is. -/
def blocksT (t : List Nd) : List L := t.flatMap putE
def endsV : List L := BlockM.blks 2 []
def allS (t : List Nd) : List L := if mayT t = true then blocksT t ++ endsV else []
def startN (t : List Nd) (k : Nat) : Nat := (blocksT (t.take k)).length
def startsS (t : List Nd) : List Nat := if mayT t = true then (List.range (t.length + 1)).map (startN t) else []
def ownV (n : Nd) (i : Nat) : Int := if i + dataE n < (putE n).length then -1 else ((i + dataE n : Nat) : Int) - ((putE n).length : Int)
def whereL : List Nd → Nat → Nat → Int × Int
  | [], k, _ => ((k : Int), -1)
  | n :: ns, k, i => if i < (putE n).length then ((k : Int), ownV n i) else whereL ns (k + 1) (i - (putE n).length)
def whereS (t : List Nd) (i : Int) : Int × Int := if 0 ≤ i ∧ i < ((allS t).length : Int) then whereL t 0 i.toNat else (-1, -1)

theorem endsV_length : endsV.length = 2 := BlockM.blks_length _ _
theorem endsV_is : endsV = [zeros 512, zeros 512] := by decide +kernel
theorem allS_yes {t : List Nd} (h : mayT t = true) : allS t = blocksT t ++ endsV := by rw [allS, if_pos h]
theorem allS_no {t : List Nd} (h : mayT t = false) : allS t = [] := by rw [allS, if_neg (by simp [h])]
theorem startsS_yes {t : List Nd} (h : mayT t = true) : startsS t = (List.range (t.length + 1)).map (startN t) := by rw [startsS, if_pos h]
theorem startsS_no {t : List Nd} (h : mayT t = false) : startsS t = [] := by rw [startsS, if_neg (by simp [h])]
theorem blocks_cons (n : Nd) (t : List Nd) : blocksT (n :: t) = putE n ++ blocksT t := by simp [blocksT]
theorem blocks_append (t u : List Nd) : blocksT (t ++ u) = blocksT t ++ blocksT u := by simp [blocksT]
theorem blocks_step {t : List Nd} {k : Nat} {n : Nd} (h : t[k]? = some n) : blocksT (t.take (k + 1)) = blocksT (t.take k) ++ putE n := by
  rw [List.take_add_one, h, blocks_append]
  simp [blocksT]
theorem start_zero (t : List Nd) : startN t 0 = 0 := by simp [startN, blocksT]
theorem start_step {t : List Nd} {k : Nat} {n : Nd} (h : t[k]? = some n) : startN t (k + 1) = startN t k + (putE n).length := by
  unfold startN
  rw [blocks_step h, List.length_append]
theorem start_end (t : List Nd) : startN t t.length = (blocksT t).length := by rw [startN, List.take_length]
theorem start_over {t : List Nd} {k : Nat} (h : t.length ≤ k) : startN t k = (blocksT t).length := by rw [startN, List.take_of_length_le h]
theorem start_mono (t : List Nd) {a b : Nat} (h : a ≤ b) : startN t a ≤ startN t b := by
  unfold startN
  rw [← List.take_append_drop a (t.take b), blocks_append, List.length_append, List.take_take, Nat.min_eq_left h]
  omega
theorem start_le (t : List Nd) (k : Nat) : startN t k ≤ (blocksT t).length := by
  by_cases h : k ≤ t.length
  · rw [← start_end]; exact start_mono t h
  · rw [start_over (by omega)]
    omega
theorem start_take (t : List Nd) {j k : Nat} (h : j ≤ k) : startN (t.take k) j = startN t j := by rw [startN, List.take_take, Nat.min_eq_left h, startN]
theorem all_length {t : List Nd} (h : mayT t = true) : (allS t).length = startN t t.length + 2 := by rw [allS_yes h, List.length_append, endsV_length, start_end]
theorem may_len {t : List Nd} (h : mayT t = true) : t.length ≤ 20 := by
  unfold Tree.mayT at h
  simp only [Bool.and_eq_true, decide_eq_true_eq] at h
  exact h.1
theorem put_le20 (n : Nd) : (putE n).length ≤ 20 := by
  cases h : oneB n
  · rw [putE_no h]; simp
  · have h8 : BlockM.manyN n.data.length ≤ 8 := BlockM.manyN_small (by have := (oneF h).data; omega)
    rw [putE_length h, ahead_length h]
    split <;> split <;> omega
theorem blocks_le (t : List Nd) : (blocksT t).length ≤ 20 * t.length := by
  induction t with
  | nil => simp [blocksT]
  | cons n t ih =>
    have := put_le20 n
    rw [blocks_cons, List.length_append, List.length_cons]
    omega
theorem put_pos {n : Nd} (h : oneB n = true) : 0 < (putE n).length := by rw [putE_length h]; omega
theorem data_le (n : Nd) : dataE n ≤ (putE n).length := by
  cases h : oneB n
  · rw [dataE, if_neg (by simp [h])]; omega
  · rw [putE_length h, dataE, if_pos h]; omega

/-! ### a node's blocks are told by themselves -/
theorem zeros_len : (zeros 512).length = 512 := by unfold zeros; rw [List.length_replicate]
theorem blk_no_zeros {h : Hd} (hm : mayH h = true) (hs : SmallH h) : blk h ≠ zeros 512 := by
  intro e
  have h1 := code_blk hm hs
  rw [e] at h1
  revert h1
  unfold codeB
  rw [if_pos zeros_len, if_pos rfl]
  decide
theorem put_head {n : Nd} (h : oneB n = true) : ∃ k r, putE n = blk k :: r ∧ mayH k = true ∧ SmallH k := by
  have h0 := putE_first h
  obtain ⟨a, b⟩ := first_ok h
  cases e : putE n with
  | nil => rw [e] at h0; simp at h0
  | cons x r =>
    rw [e] at h0
    simp only [List.getElem?_cons_zero, Option.some.injEq] at h0
    subst h0
    exact ⟨_, r, rfl, a, b⟩
theorem pre_len {n m : Nd} {r s : List L} (hn : oneB n = true) (hm : oneB m = true) (e : putE n ++ r = putE m ++ s) : (putE n).length = (putE m).length := by
  have e0 := e
  rw [putE_is hn, putE_is hm, List.append_assoc, List.append_assoc] at e
  have key : needL n = needL m ∧ tailE n ++ r = tailE m ++ s := by
    unfold aL at e
    cases h1 : needL n <;> cases h2 : needL m <;> simp only [h1, h2, if_true, Bool.false_eq_true, if_false, List.nil_append, List.cons_append, List.cons.injEq] at e
    · exact ⟨rfl, e⟩
    · obtain ⟨k, q, ek, k1, k2, k3⟩ := tail_first hn
      rw [ek] at e
      have l := llH_ok (link_ok hm h2)
      exact absurd (ty_of k1 l.1 k2 l.2.1 (List.cons.inj e).1) (by rw [l.2.2]; exact k3)
    · obtain ⟨k, q, ek, k1, k2, k3⟩ := tail_first hm
      rw [ek] at e
      have l := llH_ok (link_ok hn h1)
      exact absurd (ty_of l.1 k1 l.2.1 k2 (List.cons.inj e).1).symm (by rw [l.2.2]; exact k3)
    · exact ⟨rfl, e.2.2⟩
  obtain ⟨hl, et⟩ := key
  have key2 : needN n = needN m ∧ headE n = headE m := by
    unfold tailE aN at et
    cases h1 : needN n <;> cases h2 : needN m <;> simp only [h1, h2, if_true, Bool.false_eq_true, if_false, List.nil_append, List.cons_append, List.cons.injEq] at et
    · exact ⟨rfl, blk_inj (head_may hn) (head_may hm) (head_small hn) (head_small hm) et.1⟩
    · have k := llH_ok (name_ok h2)
      exact absurd (ty_of (head_may hn) k.1 (head_small hn) k.2.1 et.1) (by rw [head_ty, k.2.2]; exact (kind_ne hn).2)
    · have k := llH_ok (name_ok h1)
      exact absurd (ty_of k.1 (head_may hm) k.2.1 (head_small hm) et.1).symm (by rw [head_ty, k.2.2]; exact (kind_ne hm).2)
    · exact ⟨rfl, blk_inj (head_may hn) (head_may hm) (head_small hn) (head_small hm) et.2.2.1⟩
  obtain ⟨hnn, eh⟩ := key2
  have hd : n.data.length = m.data.length := by
    have := congrArg Hd.size eh
    unfold headE at this
    simp only at this
    omega
  rw [putE_length hn, putE_length hm, ahead_length hn, ahead_length hm, hl, hnn, hd]
theorem pre_inj {n m : Nd} {r s : List L} (hn : oneB n = true) (hm : oneB m = true) (e : putE n ++ r = putE m ++ s) : n = m ∧ r = s := by
  obtain ⟨e1, e2⟩ := List.append_inj e (pre_len hn hm e)
  exact ⟨putE_inj hn hm e1, e2⟩
theorem blocks_inj : ∀ (t u : List Nd), (∀ n ∈ t, oneB n = true) → (∀ n ∈ u, oneB n = true) → blocksT t ++ endsV = blocksT u ++ endsV → t = u
  | [], [], _, _, _ => rfl
  | [], m :: u, _, hu, e => by
    obtain ⟨k, r, ek, k1, k2⟩ := put_head (hu m (by simp))
    rw [blocks_cons, ek, endsV_is] at e
    simp only [blocksT, List.flatMap_nil, List.nil_append, List.cons_append, List.cons.injEq] at e
    exact absurd e.1.symm (blk_no_zeros k1 k2)
  | n :: t, [], ht, _, e => by
    obtain ⟨k, r, ek, k1, k2⟩ := put_head (ht n (by simp))
    rw [blocks_cons, ek, endsV_is] at e
    simp only [blocksT, List.flatMap_nil, List.nil_append, List.cons_append, List.cons.injEq] at e
    exact absurd e.1 (blk_no_zeros k1 k2)
  | n :: t, m :: u, ht, hu, e => by
    rw [blocks_cons, blocks_cons, List.append_assoc, List.append_assoc] at e
    obtain ⟨rfl, e2⟩ := pre_inj (ht n (by simp)) (hu m (by simp)) e
    rw [blocks_inj t u (fun x hx => ht x (by simp [hx])) (fun x hx => hu x (by simp [hx])) e2]
theorem all_ones {t : List Nd} (h : mayT t = true) : ∀ n ∈ t, oneB n = true := fun n hn => by
  obtain ⟨j, hj⟩ := List.getElem?_of_mem hn
  exact Tree.may_one h hj
theorem allS_inj {t u : List Nd} (ht : mayT t = true) (hu : mayT u = true) (e : allS t = allS u) : t = u := by
  rw [allS_yes ht, allS_yes hu] at e
  exact blocks_inj t u (all_ones ht) (all_ones hu) e

/-! ### whose a block is -/
theorem whereL_step {t : List Nd} {k i : Nat} {n : Nd} (hk : t[k]? = some n) (hi : startN t k ≤ i) :
    whereL (t.drop k) k (i - startN t k) = if i < startN t (k + 1) then ((k : Int), ownV n (i - startN t k)) else whereL (t.drop (k + 1)) (k + 1) (i - startN t (k + 1)) := by
  obtain ⟨hlt, hk2⟩ := List.getElem?_eq_some_iff.1 hk
  rw [List.drop_eq_getElem_cons hlt, hk2, whereL, start_step hk]
  by_cases h : i < startN t k + (putE n).length
  · rw [if_pos (by omega), if_pos h]
  · rw [if_neg (by omega), if_neg h, Nat.sub_sub]
theorem whereL_end {t : List Nd} {k i : Nat} (hk : t.length ≤ k) : whereL (t.drop k) k i = ((k : Int), -1) := by rw [List.drop_eq_nil_of_le hk, whereL]
/-- Up to a node whose blocks lie behind. -/
theorem whereL_in {t : List Nd} {k i : Nat} {n : Nd} (hk : t[k]? = some n) (h1 : startN t k ≤ i) (h2 : i < startN t (k + 1)) : whereL t 0 i = ((k : Int), ownV n (i - startN t k)) := by
  have key : ∀ j, j ≤ k → whereL t 0 i = whereL (t.drop j) j (i - startN t j) := by
    intro j hj
    induction j with
    | zero => rw [start_zero]; rfl
    | succ j ih =>
      have hlt := (List.getElem?_eq_some_iff.1 hk).1
      obtain ⟨m, hm⟩ : ∃ m, t[j]? = some m := ⟨_, List.getElem?_eq_getElem (by omega)⟩
      have hs := start_mono t (show j + 1 ≤ k by omega)
      rw [ih (by omega), whereL_step hm (by have := start_mono t (show j ≤ k by omega); omega), if_neg (by omega)]
  rw [key k (Nat.le_refl _), whereL_step hk h1, if_pos h2]
theorem whereL_out {t : List Nd} {i : Nat} (h : startN t t.length ≤ i) : whereL t 0 i = ((t.length : Int), -1) := by
  have key : ∀ j, j ≤ t.length → whereL t 0 i = whereL (t.drop j) j (i - startN t j) := by
    intro j hj
    induction j with
    | zero => rw [start_zero]; rfl
    | succ j ih =>
      obtain ⟨m, hm⟩ : ∃ m, t[j]? = some m := ⟨_, List.getElem?_eq_getElem (by omega)⟩
      have hs := start_mono t hj
      rw [ih (by omega), whereL_step hm (by have := start_mono t (show j ≤ t.length by omega); omega), if_neg (by omega)]
  rw [key t.length (Nat.le_refl _), whereL_end (Nat.le_refl _)]
/-- Each block of a stream is one node's, or one of the two behind. -/
theorem place (t : List Nd) (i : Nat) (h : i < startN t t.length) : ∃ k n, t[k]? = some n ∧ startN t k ≤ i ∧ i < startN t (k + 1) := by
  have key : ∀ j, j ≤ t.length → i < startN t j → ∃ k n, t[k]? = some n ∧ startN t k ≤ i ∧ i < startN t (k + 1) := by
    intro j hj hi
    induction j with
    | zero => rw [start_zero] at hi; omega
    | succ j ih =>
      by_cases h2 : i < startN t j
      · exact ih (by omega) h2
      · exact ⟨j, t[j], List.getElem?_eq_getElem (by omega), by omega, hi⟩
  exact key t.length (Nat.le_refl _) h
/-- A node's blocks in the stream. -/
theorem all_part {t : List Nd} {k : Nat} {n : Nd} (h : mayT t = true) (hk : t[k]? = some n) : ∃ B, allS t = blocksT (t.take k) ++ putE n ++ B := by
  have hlt := (List.getElem?_eq_some_iff.1 hk).1
  refine ⟨blocksT (t.drop (k + 1)) ++ endsV, ?_⟩
  rw [allS_yes h, ← blocks_step hk, ← List.append_assoc, ← blocks_append, List.take_append_drop]
theorem all_at {t : List Nd} {k i : Nat} {n : Nd} (h : mayT t = true) (hk : t[k]? = some n) (h1 : startN t k ≤ i) (h2 : i < startN t (k + 1)) : (allS t)[i]? = (putE n)[i - startN t k]? := by
  obtain ⟨B, e⟩ := all_part h hk
  rw [start_step hk] at h2
  unfold startN at h1 h2
  rw [e, List.append_assoc, List.getElem?_append_right h1, List.getElem?_append_left (by omega)]
  rfl
theorem put_data {n : Nd} {i : Nat} (h : oneB n = true) (hi : (putE n).length ≤ i + dataE n) : (putE n)[i]? = (BlockM.cutV n.data)[i + dataE n - (putE n).length]? := by
  have e := putE_yes h
  have hl := putE_length h
  have hd : dataE n = BlockM.manyN n.data.length := by rw [dataE, if_pos h]
  rw [hd] at hi ⊢
  rw [show putE n = (aheadV n ++ [blk (headE n)]) ++ BlockM.cutV n.data by rw [e]; simp]
  have h1 : (aheadV n ++ [blk (headE n)]).length = (aheadV n).length + 1 := by simp
  rw [List.getElem?_append_right (by rw [h1]; omega), h1]
  congr 1
  rw [List.length_append, h1, BlockM.cutV_length]
  omega
end Go.Proofs.Ytjddgmdbgajjpaa.Stream

