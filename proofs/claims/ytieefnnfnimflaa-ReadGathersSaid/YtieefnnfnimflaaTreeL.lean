/-
  What holds of trees that may be, as plain lists of nodes: no Go, and no statement, is proved here.
-/
import Derived.Test.YtieefnnfnimflaaTreeMay
import Derived.Sort.Walk0
namespace Go.Proofs.Ytieefnnfnimflaa.Tree
open Go.Proofs.Ytieefnnfnimflaa.Node Go.Proofs.Ytieefnnfnimflaa.Long

/-! ### the order of paths -/
theorem tri : ∀ x y : L, x < y ∨ x = y ∨ y < x
  | [], [] => .inr (.inl rfl)
  | [], _ :: _ => .inl (List.nil_lt_cons _ _)
  | _ :: _, [] => .inr (.inr (List.nil_lt_cons _ _))
  | a :: x, b :: y => by
    rw [List.cons_lt_cons_iff, List.cons_lt_cons_iff, UInt8.lt_iff_toNat_lt, UInt8.lt_iff_toNat_lt]
    rcases Nat.lt_trichotomy a.toNat b.toNat with h | h | h
    · exact .inl (.inl h)
    · have e := UInt8.toNat_inj.1 h
      subst e
      rcases tri x y with h1 | h1 | h1
      · exact .inl (.inr ⟨rfl, h1⟩)
      · exact .inr (.inl (by rw [h1]))
      · exact .inr (.inr (.inr ⟨rfl, h1⟩))
    · exact .inr (.inr (.inl h))
theorem not_le_lt {p q : L} (h : (!(Op.bytesLess p q || p == q)) = true) : q < p := by
  rw [bytesLess_eq] at h
  simp only [Bool.not_eq_true', Bool.or_eq_false_iff, decide_eq_false_iff_not, beq_eq_false_iff_ne] at h
  rcases tri q p with h1 | h1 | h1
  · exact h1
  · exact absurd h1.symm h.2
  · exact absurd h1 h.1
theorem lt_ne {p q : L} (h : p < q) : p ≠ q := by
  rintro rfl
  exact List.lt_irrefl _ h
theorem below_lt {p q : L} (h : PathM.belowB p q = true) : q < p := by
  obtain ⟨h1, h2, r, rfl⟩ := PathM.belowB_iff.1 h
  clear h h1 h2
  induction q with
  | nil => exact List.nil_lt_cons _ _
  | cons c q ih =>
    rw [List.cons_append, List.cons_lt_cons_iff]
    exact .inr ⟨rfl, ih⟩

/-! ### what each node of a tree is -/
theorem may_at {t : List Nd} {j : Nat} {m : Nd} (h : mayT t = true) (hj : t[j]? = some m) : stepB (t.take j) m = true := (mayT_iff.1 h).2 j m hj
theorem may_one {t : List Nd} {j : Nat} {m : Nd} (h : mayT t = true) (hj : t[j]? = some m) : oneB m = true := by
  have := may_at h hj
  unfold stepB at this
  rw [Bool.and_eq_true] at this
  exact this.1
theorem may_path {t : List Nd} {j : Nat} {m : Nd} (h : mayT t = true) (hj : t[j]? = some m) : PathM.mayB m.path = true := by
  have := may_one h hj
  unfold oneB at this
  rw [Bool.and_eq_true] at this
  exact this.1
theorem may_next {t : List Nd} {j : Nat} {a b : Nd} (h : mayT t = true) (ha : t[j]? = some a) (hb : t[j + 1]? = some b) : a.path < b.path := by
  have h1 := may_at h hb
  rw [step_is, rise_succ ha, Bool.and_eq_true, Bool.and_eq_true] at h1
  exact not_le_lt h1.2.1
theorem may_lt {t : List Nd} (h : mayT t = true) : ∀ (d i : Nat) (a b : Nd), t[i]? = some a → t[i + (d + 1)]? = some b → a.path < b.path
  | 0, i, a, b, ha, hb => may_next h ha hb
  | d + 1, i, a, b, ha, hb => by
    have hlt : i + (d + 1) < t.length := by
      have := (List.getElem?_eq_some_iff.1 hb).1
      omega
    have h1 := may_lt h d i a _ ha (List.getElem?_eq_getElem hlt)
    exact List.lt_trans h1 (may_next h (List.getElem?_eq_getElem hlt) hb)
theorem may_order {t : List Nd} {i k : Nat} {a b : Nd} (h : mayT t = true) (ha : t[i]? = some a) (hb : t[k]? = some b) (hik : i < k) : a.path < b.path :=
  may_lt h (k - i - 1) i a b ha (by rw [show i + (k - i - 1 + 1) = k by omega]; exact hb)
theorem may_behind {t : List Nd} {i k : Nat} {a b : Nd} (h : mayT t = true) (ha : t[i]? = some a) (hb : t[k]? = some b) (hl : a.path < b.path) : i < k := by
  rcases Nat.lt_trichotomy i k with h1 | h1 | h1
  · exact h1
  · subst h1
    rw [ha] at hb
    cases hb
    exact absurd hl (List.lt_irrefl _)
  · exact absurd (List.lt_trans hl (may_order h hb ha h1)) (List.lt_irrefl _)
theorem may_take {t : List Nd} (h : mayT t = true) (k : Nat) : mayT (t.take k) = true := by
  rw [mayT_iff] at h ⊢
  refine ⟨by rw [List.length_take]; omega, fun j m hj => ?_⟩
  have hjk : j < k := by
    have := (List.getElem?_eq_some_iff.1 hj).1
    rw [List.length_take] at this
    omega
  rw [List.take_take, Nat.min_eq_left (Nat.le_of_lt hjk)]
  rw [List.getElem?_take_of_lt hjk] at hj
  exact h.2 j m hj
/-- Each node is found at its place. -/
theorem may_find {t : List Nd} {k : Nat} {m : Nd} (h : mayT t = true) (hk : t[k]? = some m) : findN m.path t = some k :=
  findN_of hk rfl fun _ _ hj hx => lt_ne (may_order h hx hk hj)
theorem may_findV {t : List Nd} {k : Nat} {m : Nd} (h : mayT t = true) (hk : t[k]? = some m) : findV t m.path = (k : Int) := by
  rw [findV, may_find h hk]

/-! ### what stands ahead of a node -/
theorem has_ahead {t : List Nd} {j : Nat} {q : L} {kd : UInt8} (h : hasB (t.take j) q kd = true) : ∃ i n, i < j ∧ t[i]? = some n ∧ n.path = q ∧ n.kind = kd ∧ findN q t = some i := by
  unfold hasB at h
  split at h
  · rename_i i hf
    obtain ⟨n, h1, h2, h3⟩ := findN_lt hf
    rw [h1] at h
    have hi : i < j := by
      have := findN_bound hf
      rw [List.length_take] at this
      omega
    rw [List.getElem?_take_of_lt hi] at h1
    refine ⟨i, n, hi, h1, h2, by simpa using h, findN_of h1 h2 fun a x ha hx => h3 a x ha ?_⟩
    rw [List.getElem?_take_of_lt (by omega)]
    exact hx
  · cases h
theorem may_parent {t : List Nd} {j : Nat} {m : Nd} (h : mayT t = true) (hj : t[j]? = some m) (hp : PathM.parB m.path = true) : ∃ i n, i < j ∧ t[i]? = some n ∧ n.path = PathM.parV m.path ∧ n.kind = 53 ∧ findN (PathM.parV m.path) t = some i := by
  have h1 := may_at h hj
  rw [step_is, hp] at h1
  simp only [Bool.and_eq_true, Bool.not_true, Bool.false_or] at h1
  exact has_ahead h1.2.2.1
theorem may_hard {t : List Nd} {j : Nat} {m : Nd} (h : mayT t = true) (hj : t[j]? = some m) (hk : m.kind = 49) : ∃ i n, i < j ∧ t[i]? = some n ∧ n.path = m.link ∧ n.kind = 48 ∧ findN m.link t = some i := by
  have h1 := may_at h hj
  rw [step_is] at h1
  simp only [Bool.and_eq_true, hk, decide_true, Bool.not_true, Bool.false_or] at h1
  exact has_ahead h1.2.2.2

/-! ### below -/
theorem below_parent {p q : L} (h : PathM.belowB p q = true) : PathM.parB p = true ∧ (PathM.parV p = q ∨ PathM.belowB (PathM.parV p) q = true) := by
  obtain ⟨hp, hq, r, rfl⟩ := PathM.belowB_iff.1 h
  unfold PathM.parB PathM.parV
  rw [hp]
  cases hr : PathM.lastCut r with
  | none =>
    rw [PathM.lastCut_of (PathM.lastCut_none hr)]
    exact ⟨rfl, .inl rfl⟩
  | some x =>
    obtain ⟨a, b⟩ := x
    obtain ⟨rfl, hb⟩ := PathM.lastCut_some hr
    have e : q ++ 47 :: (a ++ 47 :: b) = (q ++ 47 :: a) ++ 47 :: b := by simp
    rw [e] at hp ⊢
    rw [PathM.lastCut_of hb]
    rw [PathM.mayB_append, Bool.and_eq_true] at hp
    exact ⟨rfl, .inr (PathM.belowB_iff.2 ⟨hp.1, hq, a, rfl⟩)⟩
theorem findN_no {p : L} {ns : List Nd} (h : findN p ns = none) : ∀ m ∈ ns, m.path ≠ p := by
  induction ns with
  | nil => simp
  | cons x ns ih =>
    unfold findN at h
    split at h
    · cases h
    · rename_i hx
      have h2 : findN p ns = none := by
        cases hf : findN p ns with
        | none => rfl
        | some k => rw [hf] at h; simp at h
      intro m hm
      rcases List.mem_cons.1 hm with rfl | hm
      · exact hx
      · exact ih h2 m hm
theorem below_dir {t : List Nd} (h : mayT t = true) : ∀ (k i : Nat) (a b : Nd), t[i]? = some a → t[k]? = some b → PathM.belowB b.path a.path = true → a.kind = 53 := by
  intro k
  induction k using Nat.strongRecOn with
  | _ k ih =>
    intro i a b ha hb hbl
    obtain ⟨hp, hq⟩ := below_parent hbl
    obtain ⟨j, n, hjk, hn, hnp, hnk, hf⟩ := may_parent h hb hp
    rcases hq with hq | hq
    · rw [hq, may_find h ha] at hf
      cases hf
      rw [ha] at hn
      cases hn
      exact hnk
    · exact ih j hjk i a n ha hn (by rw [hnp]; exact hq)
theorem under_fewer {t : List Nd} {i : Nat} {a : Nd} (ha : t[i]? = some a) : (underV t a.path).length < t.length := by
  unfold underV
  rw [List.length_filter_lt_length_iff_exists]
  exact ⟨a, List.mem_of_getElem? ha, by rw [PathM.belowB_irrefl]; decide⟩
theorem under_found {t : List Nd} {p : L} {k : Nat} {b : Nd} (hb : t[k]? = some b) : decide (0 ≤ findV (underV t p) b.path) = PathM.belowB b.path p := by
  unfold findV
  cases hf : findN b.path (underV t p) with
  | some j =>
    obtain ⟨n, hn, hp, _⟩ := findN_lt hf
    have := (List.mem_filter.1 (List.mem_of_getElem? hn)).2
    rw [hp] at this
    rw [this]
    simp
  | none =>
    symm
    rw [show decide ((0 : Int) ≤ -1) = false from rfl, Bool.eq_false_iff]
    intro hbl
    have hm : b ∈ underV t p := List.mem_filter.2 ⟨List.mem_of_getElem? hb, hbl⟩
    exact findN_no hf b hm rfl

/-! ### one node more -/
theorem may_more (t : List Nd) (n : Nd) (h : mayT t = true) : mayT (t ++ [n]) = (decide (t.length < 20) && stepB t n) := by
  rw [Bool.eq_iff_iff, mayT_iff, Bool.and_eq_true, decide_eq_true_eq]
  constructor
  · rintro ⟨h1, h2⟩
    refine ⟨by simp at h1; omega, ?_⟩
    have := h2 t.length n (by simp)
    rwa [List.take_left'] at this
    rfl
  · rintro ⟨h1, h2⟩
    refine ⟨by simp; omega, fun j m hj => ?_⟩
    rcases Nat.lt_trichotomy j t.length with hl | hl | hl
    · rw [List.getElem?_append_left hl] at hj
      rw [List.take_append_of_le_length (Nat.le_of_lt hl)]
      exact may_at h hj
    · subst hl
      rw [List.getElem?_append_right (Nat.le_refl _)] at hj
      simp at hj
      subst hj
      rw [List.take_left' rfl]
      exact h2
    · rw [List.getElem?_eq_none (by simp; omega)] at hj
      cases hj
end Go.Proofs.Ytieefnnfnimflaa.Tree
