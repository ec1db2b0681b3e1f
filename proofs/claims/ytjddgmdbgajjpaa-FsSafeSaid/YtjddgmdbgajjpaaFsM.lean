/-
  A file system's nodes: plain functions, and what follows of them: no Go, and no statement, is proved here.
-/
import Derived.Test.YtjddgmdbgajjpaaStreamM
namespace Go.Proofs.Ytjddgmdbgajjpaa.FsM
open Go.Proofs.Ytjddgmdbgajjpaa.Node Go.Proofs.Ytjddgmdbgajjpaa.Long Go.Proofs.Ytjddgmdbgajjpaa.Tree
set_option linter.unusedVariables false
abbrev L := List UInt8

/-- Does a node's parent, and what it links to, stand among the nodes? -/
def standsB (ns : List Nd) (n : Nd) : Bool := (!(PathM.parB n.path) || hasB ns (PathM.parV n.path) 53) && (!(decide (n.kind = 49)) || hasB ns n.link 48)
def okF (ns : List Nd) (i : Nat) : Bool := match ns[i]? with | some n => oneB n && (standsB ns n && riseB ns i n) | none => true
def mayF (ns : List Nd) : Bool := decide (ns.length ≤ 20) && (List.range ns.length).all (okF ns)
def getF (ns : List Nd) (p : L) : Nd × Int :=
  if mayF ns = false then (zeroN, 1) else match findN p ns with | some i => (ns.getD i zeroN, 0) | none => (zeroN, 9)
/-- Where its path belongs. -/
def insF (n : Nd) : List Nd → List Nd
  | [] => [n]
  | m :: ms => if n.path < m.path then n :: m :: ms else m :: insF n ms
def putF (ns : List Nd) (n : Nd) : List Nd × Int :=
  if mayF ns = false ∨ oneB n = false then (ns, 1)
  else if (findN n.path ns).isSome = true then (ns, 10)
  else if standsB ns n = false then (ns, 9)
  else if 20 ≤ ns.length then (ns, 8)
  else (insF n ns, 0)
def moreN (n : Nd) (d : L) : Nd := { n with data := n.data ++ d }
def growF (ns : List Nd) (p d : L) : List Nd × Int :=
  if mayF ns = false then (ns, 1)
  else match findN p ns with
    | none => (ns, 9)
    | some i => if (ns.getD i zeroN).kind ≠ 48 then (ns, 9)
      else if 4000 < (ns.getD i zeroN).data.length + d.length then (ns, 8)
      else (ns.set i (moreN (ns.getD i zeroN) d), 0)
/-- The file that a path is, or links to. -/
def fileF (ns : List Nd) (p : L) : Option Nat :=
  match findN p ns with
  | none => none
  | some i => if (ns.getD i zeroN).kind = 49 then findN (ns.getD i zeroN).link ns else some i
def textF (ns : List Nd) (p : L) : L × Int :=
  if mayF ns = false then ([], 1)
  else match fileF ns p with
    | none => ([], 9)
    | some i => if (ns.getD i zeroN).kind = 48 then ((ns.getD i zeroN).data, 0) else ([], 9)

/-! ### paths that rise -/
def Rises (ns : List Nd) : Prop := ns.Pairwise fun a b => a.path < b.path
theorem has_iff {ns : List Nd} (hr : Rises ns) {p : L} {k : UInt8} : hasB ns p k = true ↔ ∃ n ∈ ns, n.path = p ∧ n.kind = k := by
  unfold hasB
  constructor
  · intro h
    split at h
    · rename_i i hf
      obtain ⟨n, h1, h2, -⟩ := findN_lt hf
      rw [h1] at h
      exact ⟨n, List.mem_of_getElem? h1, h2, by simpa using h⟩
    · cases h
  · rintro ⟨n, hn, h2, h3⟩
    obtain ⟨i, hi⟩ := List.mem_iff_getElem?.1 hn
    have hf : findN p ns = some i := findN_of hi h2 fun j m hj hm => by
      obtain ⟨hi1, e1⟩ := List.getElem?_eq_some_iff.1 hi
      obtain ⟨hj1, e2⟩ := List.getElem?_eq_some_iff.1 hm
      have := List.pairwise_iff_getElem.1 hr j i hj1 hi1 hj
      rw [e1, e2, h2] at this
      exact lt_ne this
    rw [hf]
    simp [hi, h3]
theorem find_some {ns : List Nd} (hr : Rises ns) {i : Nat} {n : Nd} (hi : ns[i]? = some n) : findN n.path ns = some i := findN_of hi rfl fun j m hj hm => by
  obtain ⟨hi1, e1⟩ := List.getElem?_eq_some_iff.1 hi
  obtain ⟨hj1, e2⟩ := List.getElem?_eq_some_iff.1 hm
  have := List.pairwise_iff_getElem.1 hr j i hj1 hi1 hj
  rw [e1, e2] at this
  exact lt_ne this
theorem find_mem {ns : List Nd} {p : L} : (findN p ns).isSome = true ↔ ∃ n ∈ ns, n.path = p := by
  constructor
  · intro h
    cases hf : findN p ns with
    | none => rw [hf] at h; cases h
    | some i =>
      obtain ⟨n, h1, h2, -⟩ := findN_lt hf
      exact ⟨n, List.mem_of_getElem? h1, h2⟩
  · rintro ⟨n, hn, hp⟩
    cases hf : findN p ns with
    | none => exact absurd hp (findN_no hf n hn)
    | some i => rfl
theorem rise_at {ns : List Nd} {k : Nat} {m n : Nd} (h : ns[k]? = some m) : riseB ns (k + 1) n = true ↔ m.path < n.path := by
  rw [rise_succ h]
  constructor
  · exact not_le_lt
  · intro hl
    rw [Go.Proofs.bytesLess_eq]
    simp only [Bool.not_eq_true', Bool.or_eq_false_iff, decide_eq_false_iff_not, beq_eq_false_iff_ne]
    exact ⟨fun h2 => List.lt_irrefl _ (List.lt_trans hl h2), fun e => lt_ne hl e.symm⟩
theorem rise_zero (ns : List Nd) (n : Nd) : riseB ns 0 n = true := rfl
theorem rises_iff {ns : List Nd} : (∀ i n, ns[i]? = some n → riseB ns i n = true) ↔ Rises ns := by
  constructor
  · intro h
    have key : ∀ (d i : Nat) (a b : Nd), ns[i]? = some a → ns[i + (d + 1)]? = some b → a.path < b.path := by
      intro d
      induction d with
      | zero => exact fun i a b ha hb => (rise_at ha).1 (h (i + 1) b hb)
      | succ d ih =>
        intro i a b ha hb
        have hlt : i + (d + 1) < ns.length := by
          have := (List.getElem?_eq_some_iff.1 hb).1
          omega
        exact List.lt_trans (ih i a _ ha (List.getElem?_eq_getElem hlt)) ((rise_at (List.getElem?_eq_getElem hlt)).1 (h _ b hb))
    refine List.pairwise_iff_getElem.2 fun i j hi hj hij => ?_
    refine key (j - i - 1) i _ _ (List.getElem?_eq_getElem hi) ?_
    rw [show i + (j - i - 1 + 1) = j by omega]
    exact List.getElem?_eq_getElem hj
  · intro h i n hi
    cases i with
    | zero => rfl
    | succ i =>
      obtain ⟨hi1, e1⟩ := List.getElem?_eq_some_iff.1 hi
      have hi0 : i < ns.length := by omega
      have := List.pairwise_iff_getElem.1 h i (i + 1) hi0 hi1 (by omega)
      rw [rise_at (List.getElem?_eq_getElem hi0), ← e1]
      exact this
theorem mayF_iff {ns : List Nd} : mayF ns = true ↔ ns.length ≤ 20 ∧ Rises ns ∧ ∀ n ∈ ns, oneB n = true ∧ standsB ns n = true := by
  have hall : (List.range ns.length).all (okF ns) = true ↔ ∀ i n, ns[i]? = some n → (oneB n = true ∧ standsB ns n = true) ∧ riseB ns i n = true := by
    rw [List.all_eq_true]
    constructor
    · intro h i n hi
      have := h i (List.mem_range.2 (List.getElem?_eq_some_iff.1 hi).1)
      rw [okF, hi] at this
      simp only [Bool.and_eq_true] at this
      exact ⟨⟨this.1, this.2.1⟩, this.2.2⟩
    · intro h i hi
      rw [okF, List.getElem?_eq_getElem (List.mem_range.1 hi)]
      obtain ⟨⟨h1, h2⟩, h3⟩ := h i _ (List.getElem?_eq_getElem (List.mem_range.1 hi))
      simp only [Bool.and_eq_true]
      exact ⟨h1, h2, h3⟩
  rw [mayF, Bool.and_eq_true, decide_eq_true_eq, hall]
  constructor
  · rintro ⟨h1, h2⟩
    refine ⟨h1, rises_iff.1 fun i n hi => (h2 i n hi).2, fun n hn => ?_⟩
    obtain ⟨i, hi⟩ := List.mem_iff_getElem?.1 hn
    exact (h2 i n hi).1
  · rintro ⟨h1, h2, h3⟩
    exact ⟨h1, fun i n hi => ⟨h3 n (List.mem_of_getElem? hi), rises_iff.2 h2 i n hi⟩⟩
theorem stands_iff {ns : List Nd} (hr : Rises ns) {n : Nd} : standsB ns n = true ↔ (PathM.parB n.path = true → ∃ m ∈ ns, m.path = PathM.parV n.path ∧ m.kind = 53) ∧ (n.kind = 49 → ∃ m ∈ ns, m.path = n.link ∧ m.kind = 48) := by
  rw [standsB, Bool.and_eq_true, Bool.or_eq_true, Bool.or_eq_true, has_iff hr, has_iff hr]
  constructor
  · rintro ⟨h1, h2⟩
    refine ⟨fun h => ?_, fun h => ?_⟩
    · rcases h1 with h1 | h1
      · rw [h] at h1
        cases h1
      · exact h1
    · rcases h2 with h2 | h2
      · simp [h] at h2
      · exact h2
  · rintro ⟨h1, h2⟩
    constructor
    · cases hp : PathM.parB n.path
      · exact .inl rfl
      · exact .inr (h1 hp)
    · by_cases hk : n.kind = 49
      · exact .inr (h2 hk)
      · exact .inl (by simp [hk])

/-! ### a node put in -/
theorem mem_ins {n m : Nd} : ∀ {ns : List Nd}, m ∈ insF n ns ↔ m = n ∨ m ∈ ns
  | [] => by simp [insF]
  | x :: xs => by
    rw [insF]
    split
    · simp
    · rw [List.mem_cons, mem_ins (ns := xs), List.mem_cons]
      constructor
      · rintro (h | h | h)
        · exact .inr (.inl h)
        · exact .inl h
        · exact .inr (.inr h)
      · rintro (h | h | h)
        · exact .inr (.inl h)
        · exact .inl h
        · exact .inr (.inr h)
theorem ins_length (n : Nd) : ∀ ns : List Nd, (insF n ns).length = ns.length + 1
  | [] => rfl
  | x :: xs => by
    rw [insF]
    split
    · rfl
    · rw [List.length_cons, ins_length n xs, List.length_cons]
theorem ins_rises {n : Nd} : ∀ {ns : List Nd}, Rises ns → (∀ m ∈ ns, m.path ≠ n.path) → Rises (insF n ns)
  | [], _, _ => List.pairwise_singleton _ _
  | x :: xs, hr, hn => by
    obtain ⟨h1, h2⟩ := List.pairwise_cons.1 hr
    rw [insF]
    split
    · rename_i hl
      refine List.pairwise_cons.2 ⟨fun m hm => ?_, hr⟩
      rcases List.mem_cons.1 hm with rfl | hm
      · exact hl
      · exact List.lt_trans hl (h1 m hm)
    · rename_i hl
      have hx : x.path < n.path := by
        rcases tri x.path n.path with h | h | h
        · exact h
        · exact absurd h (hn x (by simp))
        · exact absurd h hl
      refine List.pairwise_cons.2 ⟨fun m hm => ?_, ins_rises h2 fun m hm => hn m (by simp [hm])⟩
      rcases mem_ins.1 hm with rfl | hm
      · exact hx
      · exact h1 m hm
/-- Two lists that rise, and have the same nodes, are the same. -/
theorem rises_ext : ∀ {xs ys : List Nd}, Rises xs → Rises ys → (∀ m, m ∈ xs ↔ m ∈ ys) → xs = ys
  | [], [], _, _, _ => rfl
  | [], y :: ys, _, _, h => absurd ((h y).2 (by simp)) (by simp)
  | x :: xs, [], _, _, h => absurd ((h x).1 (by simp)) (by simp)
  | x :: xs, y :: ys, hx, hy, h => by
    obtain ⟨x1, x2⟩ := List.pairwise_cons.1 hx
    obtain ⟨y1, y2⟩ := List.pairwise_cons.1 hy
    have e : x = y := by
      rcases List.mem_cons.1 ((h x).1 (by simp)) with e | e
      · exact e
      · rcases List.mem_cons.1 ((h y).2 (by simp)) with e2 | e2
        · exact e2.symm
        · exact absurd (List.lt_trans (x1 y e2) (y1 x e)) (List.lt_irrefl _)
    subst e
    have ht : ∀ m, m ∈ xs ↔ m ∈ ys := fun m => by
      constructor
      · intro hm
        rcases List.mem_cons.1 ((h m).1 (by simp [hm])) with e | e
        · subst e
          exact absurd (x1 m hm) (List.lt_irrefl _)
        · exact e
      · intro hm
        rcases List.mem_cons.1 ((h m).2 (by simp [hm])) with e | e
        · subst e
          exact absurd (y1 m hm) (List.lt_irrefl _)
        · exact e
    rw [rises_ext x2 y2 ht]
/-- What may be stays so. -/
theorem ins_may {ns : List Nd} {n : Nd} (h : mayF ns = true) (h1 : oneB n = true) (hn : (findN n.path ns).isSome = false) (hs : standsB ns n = true) (hl : ns.length < 20) : mayF (insF n ns) = true := by
  obtain ⟨a1, a2, a3⟩ := mayF_iff.1 h
  have hne : ∀ m ∈ ns, m.path ≠ n.path := fun m hm e => by
    have := find_mem.2 ⟨m, hm, e⟩
    rw [hn] at this
    cases this
  have hr := ins_rises a2 hne
  refine mayF_iff.2 ⟨by rw [ins_length]; omega, hr, fun m hm => ?_⟩
  have up : ∀ x : Nd, standsB ns x = true → standsB (insF n ns) x = true := fun x hx => by
    obtain ⟨b1, b2⟩ := (stands_iff a2).1 hx
    refine (stands_iff hr).2 ⟨fun h => ?_, fun h => ?_⟩
    · obtain ⟨y, hy, q⟩ := b1 h
      exact ⟨y, mem_ins.2 (.inr hy), q⟩
    · obtain ⟨y, hy, q⟩ := b2 h
      exact ⟨y, mem_ins.2 (.inr hy), q⟩
  rcases mem_ins.1 hm with rfl | hm
  · exact ⟨h1, up _ hs⟩
  · exact ⟨(a3 m hm).1, up m (a3 m hm).2⟩

/-! ### Put, Get -/
theorem find_zero {ns : List Nd} {p : L} {i : Nat} (h : findN p ns = some i) : ∃ n, ns[i]? = some n ∧ n.path = p ∧ ns.getD i zeroN = n := by
  obtain ⟨n, h1, h2, -⟩ := findN_lt h
  exact ⟨n, h1, h2, by rw [List.getD_eq_getElem?_getD, h1]; rfl⟩
theorem put_ok {ns : List Nd} {n : Nd} (h : (putF ns n).2 = 0) : mayF ns = true ∧ oneB n = true ∧ (findN n.path ns).isSome = false ∧ standsB ns n = true ∧ ns.length < 20 ∧ (putF ns n).1 = insF n ns := by
  unfold putF at h ⊢
  split at h
  · cases h
  · rename_i h1
    rw [not_or, Bool.not_eq_false, Bool.not_eq_false] at h1
    split at h
    · cases h
    · rename_i h2
      split at h
      · cases h
      · rename_i h3
        split at h
        · cases h
        · rename_i h4
          rw [if_neg (by rw [not_or, Bool.not_eq_false, Bool.not_eq_false]; exact h1), if_neg h2, if_neg h3, if_neg h4]
          exact ⟨h1.1, h1.2, by simpa using h2, by simpa using h3, by omega, rfl⟩
theorem put_no {ns : List Nd} {n : Nd} (h : (putF ns n).2 ≠ 0) : (putF ns n).1 = ns := by
  unfold putF at h ⊢
  split
  · rfl
  · split
    · rfl
    · split
      · rfl
      · split
        · rfl
        · rename_i h1 h2 h3 h4
          rw [if_neg h1, if_neg h2, if_neg h3, if_neg h4] at h
          exact absurd rfl h
theorem put_yes {ns : List Nd} {n : Nd} (h1 : mayF ns = true) (h2 : oneB n = true) (h3 : (findN n.path ns).isSome = false) (h4 : standsB ns n = true) (h5 : ns.length < 20) : putF ns n = (insF n ns, 0) := by
  rw [putF, if_neg (by simp [h1, h2]), if_neg (by simp [h3]), if_neg (by simp [h4]), if_neg (by omega)]
theorem put_may {ns : List Nd} {n : Nd} (h : (putF ns n).2 = 0) : mayF (putF ns n).1 = true := by
  obtain ⟨a1, a2, a3, a4, a5, a6⟩ := put_ok h
  rw [a6]
  exact ins_may a1 a2 a3 a4 a5
theorem get_of {ns : List Nd} (h : mayF ns = true) {n : Nd} (hn : n ∈ ns) : getF ns n.path = (n, 0) := by
  obtain ⟨-, hr, -⟩ := mayF_iff.1 h
  obtain ⟨i, hi⟩ := List.mem_iff_getElem?.1 hn
  rw [getF, if_neg (by simp [h]), find_some hr hi]
  show (ns.getD i zeroN, (0 : Int)) = _
  rw [List.getD_eq_getElem?_getD, hi]
  rfl
theorem get_none {ns : List Nd} (h : mayF ns = true) {p : L} (hn : ∀ n ∈ ns, n.path ≠ p) : getF ns p = (zeroN, 9) := by
  rw [getF, if_neg (by simp [h])]
  cases hf : findN p ns with
  | none => rfl
  | some i =>
    obtain ⟨n, h1, h2, -⟩ := findN_lt hf
    exact absurd h2 (hn n (List.mem_of_getElem? h1))
theorem get_ok {ns : List Nd} {p : L} (h : (getF ns p).2 = 0) : mayF ns = true ∧ (getF ns p).1 ∈ ns ∧ (getF ns p).1.path = p := by
  unfold getF at h ⊢
  split at h
  · cases h
  · rename_i hm
    rw [if_neg hm]
    cases hf : findN p ns with
    | none => rw [hf] at h; cases h
    | some i =>
      obtain ⟨n, h1, h2, h3⟩ := find_zero hf
      refine ⟨by simpa using hm, ?_⟩
      show ns.getD i zeroN ∈ ns ∧ (ns.getD i zeroN).path = p
      rw [h3]
      exact ⟨List.mem_of_getElem? h1, h2⟩
/-- Files that agree but for one path tell the same of each other one. -/
theorem get_same {ns ms : List Nd} (h1 : mayF ns = true) (h2 : mayF ms = true) {p : L} (h : ∀ n, n.path = p → (n ∈ ns ↔ n ∈ ms)) : getF ns p = getF ms p := by
  by_cases hn : ∃ n ∈ ns, n.path = p
  · obtain ⟨n, hn, rfl⟩ := hn
    rw [get_of h1 hn, get_of h2 ((h n rfl).1 hn)]
  · rw [get_none h1 fun n hm e => hn ⟨n, hm, e⟩, get_none h2 fun n hm e => hn ⟨n, (h n e).2 hm, e⟩]
theorem put_get {ns : List Nd} {n : Nd} (h : (putF ns n).2 = 0) : getF (putF ns n).1 n.path = (n, 0) := by
  have hm := put_may h
  obtain ⟨-, -, -, -, -, a6⟩ := put_ok h
  rw [a6] at hm ⊢
  exact get_of hm (mem_ins.2 (.inl rfl))
theorem put_other {ns : List Nd} {n : Nd} (h : (putF ns n).2 = 0) {p : L} (hp : p ≠ n.path) : getF ns p = getF (putF ns n).1 p := by
  have hm := put_may h
  obtain ⟨a1, -, -, -, -, a6⟩ := put_ok h
  rw [a6] at hm ⊢
  refine get_same a1 hm fun m e => ?_
  rw [mem_ins]
  constructor
  · exact .inr
  · rintro (rfl | h)
    · exact absurd e.symm hp
    · exact h
theorem put_again {ns : List Nd} {n : Nd} (h : (putF ns n).2 = 0) : (putF (putF ns n).1 n).2 = 10 := by
  have hm := put_may h
  obtain ⟨-, a2, -, -, -, a6⟩ := put_ok h
  rw [a6] at hm ⊢
  rw [putF, if_neg (by simp [hm, a2]), if_pos (find_mem.2 ⟨n, mem_ins.2 (.inl rfl), rfl⟩)]
theorem put_length {ns : List Nd} {n : Nd} (h : (putF ns n).2 = 0) : (putF ns n).1.length = ns.length + 1 := by
  obtain ⟨-, -, -, -, -, a6⟩ := put_ok h
  rw [a6, ins_length]
/-- What is put stands below a directory. -/
theorem put_safe {ns : List Nd} {n : Nd} (h : (putF ns n).2 = 0) : oneB n = true ∧ PathM.mayB n.path = true ∧ (PathM.parB n.path = true → ∃ d, getF ns (PathM.parV n.path) = (d, 0) ∧ d.kind = 53) := by
  obtain ⟨a1, a2, -, a4, -, -⟩ := put_ok h
  obtain ⟨-, hr, -⟩ := mayF_iff.1 a1
  refine ⟨a2, ?_, fun hp => ?_⟩
  · unfold oneB at a2
    rw [Bool.and_eq_true] at a2
    exact a2.1
  · obtain ⟨m, hm, e, k⟩ := ((stands_iff hr).1 a4).1 hp
    exact ⟨m, by rw [← e]; exact get_of a1 hm, k⟩

/-! ### two nodes -/
theorem two_put {ns : List Nd} {n m : Nd} (hn : (putF ns n).2 = 0) (hm : (putF ns m).2 = 0) (hne : n.path ≠ m.path) :
    putF (insF n ns) m = if 20 ≤ ns.length + 1 then (insF n ns, 8) else (insF m (insF n ns), 0) := by
  have hmay := put_may hn
  obtain ⟨a1, a2, a3, a4, a5, a6⟩ := put_ok hn
  obtain ⟨-, b2, b3, b4, b5, -⟩ := put_ok hm
  rw [a6] at hmay
  obtain ⟨-, hr, -⟩ := mayF_iff.1 a1
  obtain ⟨-, hr2, -⟩ := mayF_iff.1 hmay
  have hf : (findN m.path (insF n ns)).isSome = false := by
    cases hq : (findN m.path (insF n ns)).isSome
    · rfl
    · obtain ⟨x, hx, e⟩ := find_mem.1 hq
      rcases mem_ins.1 hx with rfl | hx
      · exact absurd e hne
      · have := find_mem.2 ⟨x, hx, e⟩
        rw [b3] at this
        cases this
  have hs : standsB (insF n ns) m = true := by
    obtain ⟨c1, c2⟩ := (stands_iff hr).1 b4
    refine (stands_iff hr2).2 ⟨fun h => ?_, fun h => ?_⟩
    · obtain ⟨y, hy, q⟩ := c1 h
      exact ⟨y, mem_ins.2 (.inr hy), q⟩
    · obtain ⟨y, hy, q⟩ := c2 h
      exact ⟨y, mem_ins.2 (.inr hy), q⟩
  rw [putF, if_neg (by simp [hmay, b2]), if_neg (by simp [hf]), if_neg (by simp [hs]), ins_length]
theorem two_order {ns : List Nd} {n m : Nd} (hn : (putF ns n).2 = 0) (hm : (putF ns m).2 = 0) (hne : n.path ≠ m.path) :
    (putF (insF n ns) m).2 = (putF (insF m ns) n).2 ∧ ((putF (insF n ns) m).2 = 0 → (putF (insF n ns) m).1 = (putF (insF m ns) n).1) := by
  rw [two_put hn hm hne, two_put hm hn (fun e => hne e.symm)]
  by_cases h : 20 ≤ ns.length + 1
  · rw [if_pos h, if_pos h]
    exact ⟨rfl, fun h => by cases h⟩
  · rw [if_neg h, if_neg h]
    refine ⟨rfl, fun _ => ?_⟩
    obtain ⟨a1, -, a3, -, -, -⟩ := put_ok hn
    obtain ⟨-, -, b3, -, -, -⟩ := put_ok hm
    obtain ⟨-, hr, -⟩ := mayF_iff.1 a1
    have no : ∀ {x : Nd}, (findN x.path ns).isSome = false → ∀ y ∈ ns, y.path ≠ x.path := fun {x} hx y hy e => by
      have := find_mem.2 ⟨y, hy, e⟩
      rw [hx] at this
      cases this
    refine rises_ext (ins_rises (ins_rises hr (no a3)) fun y hy => ?_) (ins_rises (ins_rises hr (no b3)) fun y hy => ?_) fun y => ?_
    · rcases mem_ins.1 hy with rfl | hy
      · exact hne
      · exact no b3 y hy
    · rcases mem_ins.1 hy with rfl | hy
      · exact fun e => hne e.symm
      · exact no a3 y hy
    · rw [mem_ins, mem_ins, mem_ins, mem_ins]
      constructor
      · rintro (h | h | h)
        · exact .inr (.inl h)
        · exact .inl h
        · exact .inr (.inr h)
      · rintro (h | h | h)
        · exact .inr (.inl h)
        · exact .inl h
        · exact .inr (.inr h)

/-! ### Grow, Text -/
/-- A file of a path. -/
def IsFile (ns : List Nd) (p : L) (i : Nat) (n : Nd) : Prop := findN p ns = some i ∧ ns[i]? = some n ∧ n.kind = 48
theorem grow_cases (ns : List Nd) (p d : L) : (mayF ns = false ∧ growF ns p d = (ns, 1)) ∨ (mayF ns = true ∧ (∀ i n, ¬ IsFile ns p i n) ∧ growF ns p d = (ns, 9)) ∨
    (mayF ns = true ∧ ∃ i n, IsFile ns p i n ∧ ((4000 < n.data.length + d.length ∧ growF ns p d = (ns, 8)) ∨ (n.data.length + d.length ≤ 4000 ∧ growF ns p d = (ns.set i (moreN n d), 0)))) := by
  cases hm : mayF ns
  · exact .inl ⟨rfl, by rw [growF, if_pos hm]⟩
  · right
    cases hf : findN p ns with
    | none =>
      refine .inl ⟨rfl, fun i n h => ?_, by rw [growF, if_neg (by simp [hm]), hf]⟩
      have h1 := h.1
      rw [hf] at h1
      cases h1
    | some i =>
      obtain ⟨n, h1, h2, h3⟩ := find_zero hf
      by_cases hk : n.kind = 48
      · right
        refine ⟨rfl, i, n, ⟨hf, h1, hk⟩, ?_⟩
        by_cases hl : 4000 < n.data.length + d.length
        · left
          refine ⟨hl, ?_⟩
          rw [growF, if_neg (by simp [hm]), hf]
          show (if (ns.getD i zeroN).kind ≠ 48 then _ else _) = _
          rw [h3, if_neg (by simp [hk]), if_pos hl]
        · right
          refine ⟨by omega, ?_⟩
          rw [growF, if_neg (by simp [hm]), hf]
          show (if (ns.getD i zeroN).kind ≠ 48 then _ else _) = _
          rw [h3, if_neg (by simp [hk]), if_neg hl]
      · left
        refine ⟨rfl, fun j m h => ?_, ?_⟩
        · obtain ⟨q1, q2, q3⟩ := h
          rw [hf] at q1
          cases q1
          rw [h1] at q2
          cases q2
          exact hk q3
        · rw [growF, if_neg (by simp [hm]), hf]
          show (if (ns.getD i zeroN).kind ≠ 48 then _ else _) = _
          rw [h3, if_pos hk]

/-! ### nodes of which only the bytes change -/
def keyF (n : Nd) : L × UInt8 := (n.path, n.kind)
theorem rises_map {ns : List Nd} : Rises ns ↔ ((ns.map keyF).map Prod.fst).Pairwise (· < ·) := by
  rw [List.map_map, List.pairwise_map]
  exact Iff.rfl
theorem rises_key {ns ms : List Nd} (h : ns.map keyF = ms.map keyF) (hr : Rises ns) : Rises ms := by
  rw [rises_map] at hr ⊢
  rwa [← h]
theorem has_key {ns ms : List Nd} (h : ns.map keyF = ms.map keyF) (hr : Rises ns) (p : L) (k : UInt8) : hasB ns p k = hasB ms p k := by
  have hr2 := rises_key h hr
  have mem : ∀ xs : List Nd, (∃ n ∈ xs, n.path = p ∧ n.kind = k) ↔ (p, k) ∈ xs.map keyF := fun xs => by
    rw [List.mem_map]
    constructor
    · rintro ⟨n, hn, rfl, rfl⟩
      exact ⟨n, hn, rfl⟩
    · rintro ⟨n, hn, e⟩
      simp only [keyF, Prod.mk.injEq] at e
      exact ⟨n, hn, e.1, e.2⟩
  rw [Bool.eq_iff_iff, has_iff hr, has_iff hr2, mem, mem, h]
theorem stands_key {ns ms : List Nd} (h : ns.map keyF = ms.map keyF) (hr : Rises ns) (n : Nd) : standsB ns n = standsB ms n := by
  rw [standsB, standsB, has_key h hr, has_key h hr]
theorem set_key {ns : List Nd} {i : Nat} {n x : Nd} (hi : ns[i]? = some n) (hx : keyF x = keyF n) : ns.map keyF = (ns.set i x).map keyF := by
  refine List.ext_getElem? fun j => ?_
  rw [List.getElem?_map, List.getElem?_map]
  by_cases e : i = j
  · subst e
    rw [List.getElem?_set_self (List.getElem?_eq_some_iff.1 hi).1, hi]
    simp [hx]
  · rw [List.getElem?_set_ne e]
theorem more_one {n : Nd} {d : L} (h : oneB n = true) (hk : n.kind = 48) (hl : n.data.length + d.length ≤ 4000) : oneB (moreN n d) = true := by
  unfold oneB at h ⊢
  rw [Bool.and_eq_true, Bool.and_eq_true] at h ⊢
  refine ⟨h.1, h.2.1, ?_⟩
  have h2 := h.2.2
  unfold kindB at h2 ⊢
  rw [if_pos hk] at h2
  rw [if_pos (by exact hk)]
  rw [Bool.and_eq_true, decide_eq_true_eq] at h2 ⊢
  refine ⟨h2.1, ?_⟩
  show (n.data ++ d).length ≤ 4000
  rw [List.length_append]
  exact hl
theorem set_may {ns : List Nd} {i : Nat} {n : Nd} {d : L} (h : mayF ns = true) (hi : ns[i]? = some n) (hk : n.kind = 48) (hl : n.data.length + d.length ≤ 4000) : mayF (ns.set i (moreN n d)) = true := by
  obtain ⟨a1, a2, a3⟩ := mayF_iff.1 h
  have hkey := set_key (x := moreN n d) hi rfl
  refine mayF_iff.2 ⟨by rw [List.length_set]; exact a1, rises_key hkey a2, fun m hm => ?_⟩
  rcases List.mem_or_eq_of_mem_set hm with hm | rfl
  · obtain ⟨b1, b2⟩ := a3 m hm
    exact ⟨b1, by rw [← stands_key hkey a2]; exact b2⟩
  · obtain ⟨b1, b2⟩ := a3 n (List.mem_of_getElem? hi)
    refine ⟨more_one b1 hk hl, ?_⟩
    rw [← stands_key hkey a2]
    exact b2
theorem set_file {ns : List Nd} {p : L} {i : Nat} {n : Nd} {d : L} (hm : mayF (ns.set i (moreN n d)) = true) (h : IsFile ns p i n) : IsFile (ns.set i (moreN n d)) p i (moreN n d) := by
  obtain ⟨h1, h2, h3⟩ := h
  have hi : (ns.set i (moreN n d))[i]? = some (moreN n d) := List.getElem?_set_self (List.getElem?_eq_some_iff.1 h2).1
  obtain ⟨m, q1, q2, -⟩ := findN_lt h1
  rw [h2] at q1
  cases q1
  refine ⟨?_, hi, h3⟩
  rw [← q2]
  show findN (moreN n d).path (ns.set i (moreN n d)) = some i
  exact find_some (mayF_iff.1 hm).2.1 hi
theorem text_file {ns : List Nd} {p : L} {i : Nat} {n : Nd} (hm : mayF ns = true) (h : IsFile ns p i n) : textF ns p = (n.data, 0) := by
  obtain ⟨h1, h2, h3⟩ := h
  have e : ns.getD i zeroN = n := by rw [List.getD_eq_getElem?_getD, h2]; rfl
  have hf : fileF ns p = some i := by
    rw [fileF, h1]
    show (if (ns.getD i zeroN).kind = 49 then _ else _) = _
    rw [e, if_neg (by rw [h3]; decide)]
  rw [textF, if_neg (by simp [hm]), hf]
  show (if (ns.getD i zeroN).kind = 48 then _ else _) = _
  rw [e, if_pos h3]
theorem set_other {ns : List Nd} {i : Nat} {n : Nd} {d p q : L} (h : mayF ns = true) (hm : mayF (ns.set i (moreN n d)) = true) (hf : IsFile ns p i n) (hq : q ≠ p) : getF ns q = getF (ns.set i (moreN n d)) q := by
  obtain ⟨h1, h2, h3⟩ := hf
  obtain ⟨m, q1, q2, -⟩ := findN_lt h1
  rw [h2] at q1
  cases q1
  refine get_same h hm fun x e => ?_
  constructor
  · intro hx
    obtain ⟨j, hj⟩ := List.mem_iff_getElem?.1 hx
    have hne : i ≠ j := by
      rintro rfl
      rw [h2] at hj
      cases hj
      exact hq (e.symm.trans q2)
    exact List.mem_of_getElem? (i := j) (by rw [List.getElem?_set_ne hne]; exact hj)
  · intro hx
    rcases List.mem_or_eq_of_mem_set hx with hx | rfl
    · exact hx
    · exact absurd (e.symm.trans q2) hq
/-- In two steps it grows as in one. -/
theorem grow_twice {ns : List Nd} {p a b : L} (h : (growF ns p a).2 = 0) : mayF ns = true ∧ ∃ i n, IsFile ns p i n ∧ n.data.length + a.length ≤ 4000 ∧ growF ns p a = (ns.set i (moreN n a), 0) ∧ mayF (ns.set i (moreN n a)) = true ∧
    (growF (ns.set i (moreN n a)) p b).2 = (growF ns p (a ++ b)).2 ∧ ((growF ns p (a ++ b)).2 = 0 → (growF (ns.set i (moreN n a)) p b).1 = (growF ns p (a ++ b)).1) := by
  rcases grow_cases ns p a with ⟨-, e⟩ | ⟨-, -, e⟩ | ⟨hm, i, n, hf, ⟨-, e⟩ | ⟨hl, e⟩⟩
  · rw [e] at h; cases h
  · rw [e] at h; cases h
  · rw [e] at h; cases h
  · have hm2 := set_may (d := a) hm hf.2.1 hf.2.2 hl
    have hf2 := set_file hm2 hf
    refine ⟨hm, i, n, hf, hl, e, hm2, ?_⟩
    have uniq : ∀ {xs : List Nd} {i j : Nat} {n m : Nd}, IsFile xs p i n → IsFile xs p j m → i = j ∧ n = m := fun h k => by
      obtain ⟨h1, h2, -⟩ := h
      obtain ⟨k1, k2, -⟩ := k
      rw [h1] at k1
      cases k1
      rw [h2] at k2
      cases k2
      exact ⟨rfl, rfl⟩
    rcases grow_cases (ns.set i (moreN n a)) p b with ⟨e1, -⟩ | ⟨-, e1, -⟩ | ⟨-, j, m, hj, hb⟩
    · rw [hm2] at e1; cases e1
    · exact absurd hf2 (e1 i _)
    · obtain ⟨rfl, rfl⟩ := uniq hf2 hj
      rcases grow_cases ns p (a ++ b) with ⟨e1, -⟩ | ⟨-, e1, -⟩ | ⟨-, k, y, hk, hc⟩
      · rw [hm] at e1; cases e1
      · exact absurd hf (e1 i _)
      · obtain ⟨rfl, rfl⟩ := uniq hf hk
        have el : (moreN n a).data.length = n.data.length + a.length := by show (n.data ++ a).length = _; rw [List.length_append]
        have em : moreN (moreN n a) b = moreN n (a ++ b) := by simp [moreN]
        rw [List.length_append] at hc
        rcases hb with ⟨hb1, hb2⟩ | ⟨hb1, hb2⟩
        · rcases hc with ⟨hc1, hc2⟩ | ⟨hc1, hc2⟩
          · rw [hb2, hc2]
            exact ⟨rfl, fun h => by cases h⟩
          · omega
        · rcases hc with ⟨hc1, hc2⟩ | ⟨hc1, hc2⟩
          · omega
          · rw [hb2, hc2]
            refine ⟨rfl, fun _ => ?_⟩
            show (ns.set i (moreN n a)).set i (moreN (moreN n a) b) = ns.set i (moreN n (a ++ b))
            rw [List.set_set, em]
theorem grow_no {ns : List Nd} {p a b : L} (h : (growF ns p a).2 ≠ 0) : (growF ns p a).1 = ns ∧ (growF ns p (a ++ b)).2 = (growF ns p a).2 := by
  rcases grow_cases ns p a with ⟨hm, e⟩ | ⟨hm, hn, e⟩ | ⟨hm, i, n, hf, ⟨hl, e⟩ | ⟨hl, e⟩⟩
  · rcases grow_cases ns p (a ++ b) with ⟨-, e2⟩ | ⟨hm2, -⟩ | ⟨hm2, -⟩
    · rw [e, e2]; exact ⟨rfl, rfl⟩
    · rw [hm] at hm2; cases hm2
    · rw [hm] at hm2; cases hm2
  · rcases grow_cases ns p (a ++ b) with ⟨hm2, -⟩ | ⟨-, -, e2⟩ | ⟨-, i, n, hf, -⟩
    · rw [hm] at hm2; cases hm2
    · rw [e, e2]; exact ⟨rfl, rfl⟩
    · exact absurd hf (hn i n)
  · rcases grow_cases ns p (a ++ b) with ⟨hm2, -⟩ | ⟨-, hn, -⟩ | ⟨-, j, m, hj, hc⟩
    · rw [hm] at hm2; cases hm2
    · exact absurd hf (hn i n)
    · obtain ⟨h1, h2, -⟩ := hf
      obtain ⟨k1, k2, -⟩ := hj
      rw [h1] at k1
      cases k1
      rw [h2] at k2
      cases k2
      rw [List.length_append] at hc
      rcases hc with ⟨-, e2⟩ | ⟨hc1, -⟩
      · rw [e, e2]; exact ⟨rfl, rfl⟩
      · omega
  · rw [e] at h
    exact absurd rfl h
theorem grow_text {ns : List Nd} {p a : L} {i : Nat} {n : Nd} (hm : mayF ns = true) (hm2 : mayF (ns.set i (moreN n a)) = true) (hf : IsFile ns p i n) : (textF ns p).1 ++ a = (textF (ns.set i (moreN n a)) p).1 ∧ (textF (ns.set i (moreN n a)) p).2 = 0 := by
  rw [text_file hm hf, text_file hm2 (set_file hm2 hf)]
  exact ⟨rfl, rfl⟩

/-! ### a tree, put in order -/
theorem ins_last {n : Nd} : ∀ {ns : List Nd}, (∀ m ∈ ns, m.path < n.path) → insF n ns = ns ++ [n]
  | [], _ => rfl
  | x :: xs, h => by
    rw [insF, if_neg (fun hl => List.lt_irrefl _ (List.lt_trans hl (h x (by simp)))), ins_last fun m hm => h m (by simp [hm])]
    rfl
theorem tree_rises {t : List Nd} (h : mayT t = true) : Rises t := List.pairwise_iff_getElem.2 fun i j hi hj hij => may_order h (List.getElem?_eq_getElem hi) (List.getElem?_eq_getElem hj) hij
theorem step_stands {pre : List Nd} {n : Nd} (h : stepB pre n = true) : oneB n = true ∧ standsB pre n = true := by
  unfold stepB at h
  rw [Bool.and_eq_true, Bool.and_eq_true] at h
  exact ⟨h.1, h.2.2⟩
theorem tree_may {t : List Nd} (h : mayT t = true) : mayF t = true := by
  have hr := tree_rises h
  refine mayF_iff.2 ⟨(mayT_iff.1 h).1, hr, fun n hn => ?_⟩
  obtain ⟨i, hi⟩ := List.mem_iff_getElem?.1 hn
  obtain ⟨h1, h2⟩ := step_stands (may_at h hi)
  refine ⟨h1, ?_⟩
  obtain ⟨b1, b2⟩ := (stands_iff (tree_rises (may_take h i))).1 h2
  refine (stands_iff hr).2 ⟨fun q => ?_, fun q => ?_⟩
  · obtain ⟨y, hy, r⟩ := b1 q
    exact ⟨y, List.mem_of_mem_take hy, r⟩
  · obtain ⟨y, hy, r⟩ := b2 q
    exact ⟨y, List.mem_of_mem_take hy, r⟩
theorem tree_put {t : List Nd} (h : mayT t = true) {i : Nat} {n : Nd} (hi : t[i]? = some n) : putF (t.take i) n = (t.take (i + 1), 0) := by
  have hm := tree_may (may_take h i)
  obtain ⟨h1, h2⟩ := step_stands (may_at h hi)
  have hlt : ∀ m ∈ t.take i, m.path < n.path := fun m hmem => by
    obtain ⟨j, hj⟩ := List.mem_iff_getElem?.1 hmem
    have hji : j < i := by
      have := (List.getElem?_eq_some_iff.1 hj).1
      rw [List.length_take] at this
      omega
    rw [List.getElem?_take_of_lt hji] at hj
    exact may_order h hj hi hji
  have hf : (findN n.path (t.take i)).isSome = false := by
    cases hq : (findN n.path (t.take i)).isSome
    · rfl
    · obtain ⟨x, hx, e⟩ := find_mem.1 hq
      exact absurd e (lt_ne (hlt x hx))
  have hl : (t.take i).length < 20 := by
    have h20 := (mayT_iff.1 h).1
    have := (List.getElem?_eq_some_iff.1 hi).1
    rw [List.length_take]
    omega
  rw [put_yes hm h1 hf h2 hl, ins_last hlt, List.take_add_one, hi]
  rfl
/-- What a path's text is. -/
theorem text_tree {ns : List Nd} (h : mayF ns = true) {k : Nat} {n : Nd} (hk : ns[k]? = some n) :
    (n.kind = 49 ∧ ∃ i m, findN n.link ns = some i ∧ ns[i]? = some m ∧ m.kind = 48 ∧ textF ns n.path = (m.data, 0)) ∨ (n.kind = 48 ∧ textF ns n.path = (n.data, 0)) ∨ (n.kind ≠ 49 ∧ n.kind ≠ 48 ∧ textF ns n.path = ([], 9)) := by
  obtain ⟨-, hr, ha⟩ := mayF_iff.1 h
  have hf := find_some hr hk
  have e : ns.getD k zeroN = n := by rw [List.getD_eq_getElem?_getD, hk]; rfl
  by_cases h1 : n.kind = 49
  · left
    obtain ⟨m, hm, e2, k2⟩ := ((stands_iff hr).1 (ha n (List.mem_of_getElem? hk)).2).2 h1
    obtain ⟨i, hi⟩ := List.mem_iff_getElem?.1 hm
    have hfi := find_some hr hi
    rw [e2] at hfi
    have e3 : ns.getD i zeroN = m := by rw [List.getD_eq_getElem?_getD, hi]; rfl
    refine ⟨h1, i, m, hfi, hi, k2, ?_⟩
    have hff : fileF ns n.path = some i := by
      rw [fileF, hf]
      show (if (ns.getD k zeroN).kind = 49 then findN (ns.getD k zeroN).link ns else some k) = _
      rw [e, if_pos h1, hfi]
    rw [textF, if_neg (by simp [h]), hff]
    show (if (ns.getD i zeroN).kind = 48 then _ else _) = _
    rw [e3, if_pos k2]
  · right
    have hff : fileF ns n.path = some k := by
      rw [fileF, hf]
      show (if (ns.getD k zeroN).kind = 49 then _ else _) = _
      rw [e, if_neg h1]
    by_cases h2 : n.kind = 48
    · exact .inl ⟨h2, text_file h ⟨hf, hk, h2⟩⟩
    · refine .inr ⟨h1, h2, ?_⟩
      rw [textF, if_neg (by simp [h]), hff]
      show (if (ns.getD k zeroN).kind = 48 then _ else _) = _
      rw [e, if_neg h2]
end Go.Proofs.Ytjddgmdbgajjpaa.FsM
