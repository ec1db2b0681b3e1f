/-
  What package long answers, as plain functions over lists of bytes: no Go, and no statement, is proved here.
  What package tree answers, as plain functions over lists of nodes: no Go, and no statement, is proved here.
  What package entry answers, as plain functions over nodes: no Go, and no statement, is proved here.
-/
import Derived.Test.YtjddgmdbgajjpaaHeadM3
import Derived.Test.YtjddgmdbgajjpaaBlockM
import Derived.Test.YtjddgmdbgajjpaaNode
import Derived.Test.YtjddgmdbgajjpaaLongTx
namespace Go.Proofs.Ytjddgmdbgajjpaa.Long
open Go.Proofs.Ytjddgmdbgajjpaa.Node Go.Proofs.Ytjddgmdbgajjpaa.Head

def llName : L := [46, 47, 46, 47, 64, 76, 111, 110, 103, 76, 105, 110, 107]
/-- The header ahead of a long text. -/
def llH (k : UInt8) (s : L) : Hd := ⟨llName, [], [], 0, 0, 0, (s.length : Int) + 1, 0, k, 0, 0⟩
def putOkL (k : UInt8) (s : L) : Bool := (decide (k = 75) || decide (k = 76)) && textL s
/-- A long text's blocks. -/
def putLs (k : UInt8) (s : L) : List L := if putOkL k s = true then [blk (llH k s), BlockM.blk (s ++ [0])] else []
def needN (n : Nd) : Bool := PathM.mayB n.path && !(PathM.splB n.path)
def needL (n : Nd) : Bool := decide (100 < n.link.length)
def nameV (n : Nd) : L := if needN n = true then n.path.take 100 else (PathM.splV n.path).2
def preV (n : Nd) : L := (PathM.splV n.path).1
def linkV (n : Nd) : L := n.link.take 100
def aheadV (n : Nd) : List L := (if needL n = true then putLs 75 n.link else []) ++ (if needN n = true then putLs 76 n.path else [])

theorem putOkL_iff {k : UInt8} {s : L} : putOkL k s = true ↔ (k = 75 ∨ k = 76) ∧ textL s = true := by simp [putOkL]
theorem putLs_yes {k : UInt8} {s : L} (h : putOkL k s = true) : putLs k s = [blk (llH k s), BlockM.blk (s ++ [0])] := by rw [putLs, if_pos h]
theorem putLs_no {k : UInt8} {s : L} (h : putOkL k s = false) : putLs k s = [] := by rw [putLs, if_neg (by simp [h])]
theorem cut_long {s : L} (h : textL s = true) : BlockM.cutV (s ++ [0]) = [BlockM.blk (s ++ [0])] := by
  obtain ⟨h1, h2, _⟩ := textL_iff.1 h
  have e : BlockM.manyN (s ++ [0]).length = 1 := BlockM.manyN_of (by simp; omega) (by simp)
  rw [BlockM.cutV, e]
  rfl
theorem llH_may {k : UInt8} {s : L} (h : putOkL k s = true) : mayH (llH k s) = true := by
  obtain ⟨hk, ht⟩ := putOkL_iff.1 h
  obtain ⟨h1, h2, _⟩ := textL_iff.1 ht
  have hz : Num.putOk 0 8 = true := by decide
  have hz2 : Num.putOk 0 12 = true := by decide
  have hsz : Num.putOk ((s.length : Int) + 1) 12 = true := by
    rw [Num.putOk_iff]
    refine ⟨by omega, by omega, by omega, ?_⟩
    have : ((s.length : Int) + 1).toNat ≤ 301 := by omega
    have h3 : (301 : Nat) < 256 ^ ((12 : Int) - 1).toNat := by decide
    omega
  have hn : okT llName 100 = true := by decide
  have hn0 : okT [] 100 = true := by decide
  have hn1 : okT [] 155 = true := by decide
  unfold mayH elseZ txtsOk numsOk llH
  rcases hk with rfl | rfl
  all_goals
    simp only [hz, hz2, hsz, hn, hn0, hn1]
    simp [llName, typs]
theorem llH_small {k : UInt8} {s : L} (h : s.length ≤ 9000000000000) : SmallH (llH k s) := by
  constructor <;> simp only [llH] <;> first | (simp only [llName]; decide) | omega | simp
theorem llH_inj {k j : UInt8} {s t : L} : llH k s = llH j t ↔ k = j ∧ s.length = t.length := by
  unfold llH
  simp only [Hd.mk.injEq]
  constructor
  · rintro ⟨-, -, -, -, -, -, h, -, h2, -⟩
    exact ⟨h2, by omega⟩
  · rintro ⟨rfl, h⟩
    simp [h]
theorem text_blk_inj {s t : L} (hs : textL s = true) (ht : textL t = true) (h : BlockM.blk (s ++ [0]) = BlockM.blk (t ++ [0])) : s = t := by
  obtain ⟨s1, s2, s3⟩ := textL_iff.1 hs
  obtain ⟨t1, t2, t3⟩ := textL_iff.1 ht
  have key : ∀ {x : L}, (0 : UInt8) ∉ x → x.length ≤ 300 → (BlockM.blk (x ++ [0])).takeWhile (fun b => b != 0) = x := by
    intro x h0 hl
    unfold BlockM.blk
    rw [List.take_of_length_le (by simp; omega), List.append_assoc, List.takeWhile_append_of_pos (by intro b hb; simp; rintro rfl; exact h0 hb)]
    simp
  rw [← key s3 s2, ← key t3 t2, h]
theorem putLs_may (k : UInt8) (s : L) : BlockM.mayV (putLs k s) = true := by
  unfold putLs
  split
  · rename_i h
    obtain ⟨_, ht⟩ := putOkL_iff.1 h
    obtain ⟨_, h2, _⟩ := textL_iff.1 ht
    exact BlockM.mayV_iff.2 (by
      intro b hb
      simp only [List.mem_cons, List.not_mem_nil, or_false] at hb
      rcases hb with rfl | rfl
      · exact blk_length (llH_may h) (llH_small (by omega))
      · exact BlockM.blk_length _)
  · rfl
theorem putLs_length (k : UInt8) (s : L) : (putLs k s).length = if putOkL k s = true then 2 else 0 := by unfold putLs; split <;> rfl
theorem ahead_may (n : Nd) : BlockM.mayV (aheadV n) = true := by
  refine BlockM.mayV_iff.2 fun b hb => ?_
  unfold aheadV at hb
  rcases List.mem_append.1 hb with hb | hb
  · split at hb
    · exact BlockM.mayV_iff.1 (putLs_may _ _) b hb
    · simp at hb
  · split at hb
    · exact BlockM.mayV_iff.1 (putLs_may _ _) b hb
    · simp at hb
theorem needN_facts {n : Nd} (h : needN n = true) : PathM.mayB n.path = true ∧ PathM.splB n.path = false ∧ 100 < n.path.length ∧ PathM.splV n.path = ([], []) := by
  unfold needN at h
  rw [Bool.and_eq_true, Bool.not_eq_true'] at h
  obtain ⟨h1, h2⟩ := h
  refine ⟨h1, h2, ?_, PathM.split_none_facts h2⟩
  rcases PathM.split_none_long h2 with q | q
  · rw [h1] at q; cases q
  · exact q
theorem may_text {p : L} (h : PathM.mayB p = true) : textL p = true := by
  obtain ⟨h1, h2, h3, _⟩ := PathM.mayB_iff.1 h
  exact textL_iff.2 ⟨h1, h2, h3⟩
end Go.Proofs.Ytjddgmdbgajjpaa.Long

namespace Go.Proofs.Ytjddgmdbgajjpaa.Tree
open Go.Proofs.Ytjddgmdbgajjpaa.Node Go.Proofs.Ytjddgmdbgajjpaa.Long
abbrev L := List UInt8

def kindB (n : Nd) : Bool :=
  if n.kind = 48 then (n.link == []) && decide (n.data.length ≤ 4000)
  else if n.kind = 49 then PathM.mayB n.link && ((n.data == []) && (decide (n.mode = 0) && (decide (n.uid = 0) && (decide (n.gid = 0) && decide (n.time = 0)))))
  else if n.kind = 50 then textL n.link && (n.data == [])
  else if n.kind = 53 then (n.link == []) && (n.data == [])
  else false
def numsB (n : Nd) : Bool := decide (0 ≤ n.mode ∧ n.mode ≤ 4095) && (decide (0 ≤ n.uid ∧ n.uid ≤ 1099511627776) && (decide (0 ≤ n.gid ∧ n.gid ≤ 1099511627776) && decide (0 ≤ n.time ∧ n.time ≤ 1099511627776)))
/-- May a node be alone? -/
def oneB (n : Nd) : Bool := PathM.mayB n.path && (numsB n && kindB n)
/-- The place of the first node of a path. -/
def findN (p : L) : List Nd → Option Nat
  | [] => none
  | n :: ns => if n.path = p then some 0 else (findN p ns).map (· + 1)
def findV (ns : List Nd) (p : L) : Int := match findN p ns with | some i => (i : Int) | none => -1
def hasB (ns : List Nd) (p : L) (k : UInt8) : Bool := match findN p ns with | some i => (ns[i]?.map fun n => decide (n.kind = k)).getD false | none => false
def underV (ns : List Nd) (p : L) : List Nd := ns.filter fun n => PathM.belowB n.path p
/-- May n stand behind the nodes of a tree? -/
def stepB (pre : List Nd) (n : Nd) : Bool :=
  oneB n && ((match pre.getLast? with | none => true | some m => !(Op.bytesLess n.path m.path || n.path == m.path)) && ((!(PathM.parB n.path) || hasB pre (PathM.parV n.path) 53) && (!(decide (n.kind = 49)) || hasB pre n.link 48)))
def mayT (ns : List Nd) : Bool := decide (ns.length ≤ 20) && (List.range ns.length).all fun i => (ns[i]?.map (stepB (ns.take i))).getD true

theorem findN_lt {p : L} {ns : List Nd} {i : Nat} (h : findN p ns = some i) : ∃ n, ns[i]? = some n ∧ n.path = p ∧ ∀ j m, j < i → ns[j]? = some m → m.path ≠ p := by
  induction ns generalizing i with
  | nil => simp [findN] at h
  | cons n ns ih =>
    unfold findN at h
    split at h
    · rename_i hp
      cases h
      exact ⟨n, rfl, hp, fun j m hj => by omega⟩
    · rename_i hp
      cases hf : findN p ns with
      | none => rw [hf] at h; simp at h
      | some k =>
        rw [hf] at h
        simp only [Option.map_some, Option.some.injEq] at h
        subst h
        obtain ⟨x, h1, h2, h3⟩ := ih hf
        refine ⟨x, by simpa using h1, h2, fun j m hj hm => ?_⟩
        cases j with
        | zero =>
          simp only [List.getElem?_cons_zero, Option.some.injEq] at hm
          subst hm
          exact hp
        | succ j => exact h3 j m (by omega) (by simpa using hm)
theorem findN_of {p : L} {ns : List Nd} {i : Nat} {n : Nd} (h : ns[i]? = some n) (hp : n.path = p) (hb : ∀ j m, j < i → ns[j]? = some m → m.path ≠ p) : findN p ns = some i := by
  induction ns generalizing i with
  | nil => simp at h
  | cons x ns ih =>
    unfold findN
    cases i with
    | zero =>
      simp only [List.getElem?_cons_zero, Option.some.injEq] at h
      subst h
      rw [if_pos hp]
    | succ i =>
      rw [if_neg (hb 0 x (by omega) rfl), ih (i := i) (by simpa using h) (fun j m hj hm => hb (j + 1) m (by omega) (by simpa using hm))]
      rfl
theorem findN_none {p : L} {ns : List Nd} (h : ∀ (j : Nat) (m : Nd), ns[j]? = some m → m.path ≠ p) : findN p ns = none := by
  induction ns with
  | nil => rfl
  | cons x ns ih =>
    unfold findN
    rw [if_neg (h 0 x (by simp)), ih (fun j m hm => h (j + 1) m (by simpa using hm))]
    rfl
theorem findN_bound {p : L} {ns : List Nd} {i : Nat} (h : findN p ns = some i) : i < ns.length := by
  obtain ⟨n, h1, _⟩ := findN_lt h
  exact (List.getElem?_eq_some_iff.1 h1).1
/-- One node more, read from the front. -/
theorem none_step {p : L} {ns : List Nd} {k : Nat} {n : Nd} (hk : ns[k]? = some n) (hn : n.path ≠ p) (h : ∀ j m, j < k → ns[j]? = some m → m.path ≠ p) : ∀ j m, j < k + 1 → ns[j]? = some m → m.path ≠ p := by
  intro j m hj hm
  by_cases e : j = k
  · subst e
    rw [hk] at hm
    cases hm
    exact hn
  · exact h j m (by omega) hm
theorem under_step {ns : List Nd} {k : Nat} {n : Nd} (hk : ns[k]? = some n) (p : L) : underV (ns.take (k + 1)) p = underV (ns.take k) p ++ (if PathM.belowB n.path p = true then [n] else []) := by
  unfold underV
  rw [List.take_add_one, hk, List.filter_append]
  congr 1
  simp only [Option.toList_some, List.filter_cons, List.filter_nil]
theorem under_le (ns : List Nd) (p : L) : (underV ns p).length ≤ ns.length := List.length_filter_le _ _
end Go.Proofs.Ytjddgmdbgajjpaa.Tree

namespace Go.Proofs.Ytjddgmdbgajjpaa.Entry
open Go.Proofs.Ytjddgmdbgajjpaa.Node Go.Proofs.Ytjddgmdbgajjpaa.Head Go.Proofs.Ytjddgmdbgajjpaa.Long
open Go.Proofs.Ytjddgmdbgajjpaa.Tree (oneB numsB kindB)
abbrev L := List UInt8

/-- A node's header, its blocks, and how many its bytes take. -/
def headE (n : Nd) : Hd := ⟨nameV n, preV n, linkV n, n.mode, n.uid, n.gid, (n.data.length : Int), n.time, n.kind, 0, 0⟩
def headV (n : Nd) : Hd := if oneB n = true then headE n else zeroH
def putE (n : Nd) : List L := if oneB n = true then aheadV n ++ blk (headE n) :: BlockM.cutV n.data else []
def dataE (n : Nd) : Nat := if oneB n = true then BlockM.manyN n.data.length else 0

/-- What is known of a node that may be alone. -/
structure OneF (n : Nd) : Prop where
  path : PathM.mayB n.path = true
  mode : 0 ≤ n.mode ∧ n.mode ≤ 4095
  uid : 0 ≤ n.uid ∧ n.uid ≤ 1099511627776
  gid : 0 ≤ n.gid ∧ n.gid ≤ 1099511627776
  time : 0 ≤ n.time ∧ n.time ≤ 1099511627776
  data : n.data.length ≤ 4000
  kind : n.kind = 48 ∨ n.kind = 49 ∨ n.kind = 50 ∨ n.kind = 53
  link : n.link = [] ∨ textL n.link = true
  none : n.kind = 48 → n.link = []
  only : n.kind ≠ 48 → n.data = []
theorem oneF {n : Nd} (h : oneB n = true) : OneF n := by
  unfold Tree.oneB Tree.numsB at h
  simp only [Bool.and_eq_true, decide_eq_true_eq] at h
  obtain ⟨hp, ⟨h1, h2, h3, h4⟩, hk⟩ := h
  unfold Tree.kindB at hk
  split at hk
  · rename_i e
    simp only [Bool.and_eq_true, decide_eq_true_eq, beq_iff_eq] at hk
    exact ⟨hp, h1, h2, h3, h4, hk.2, .inl e, .inl hk.1, fun _ => hk.1, fun x => absurd e x⟩
  · rename_i e0
    split at hk
    · rename_i e
      simp only [Bool.and_eq_true, decide_eq_true_eq, beq_iff_eq] at hk
      exact ⟨hp, h1, h2, h3, h4, by rw [hk.2.1]; simp, .inr (.inl e), .inr (may_text hk.1), fun x => absurd x e0, fun _ => hk.2.1⟩
    · split at hk
      · rename_i e
        simp only [Bool.and_eq_true, beq_iff_eq] at hk
        exact ⟨hp, h1, h2, h3, h4, by rw [hk.2]; simp, .inr (.inr (.inl e)), .inr hk.1, fun x => absurd x e0, fun _ => hk.2⟩
      · split at hk
        · rename_i e
          simp only [Bool.and_eq_true, beq_iff_eq] at hk
          exact ⟨hp, h1, h2, h3, h4, by rw [hk.2]; simp, .inr (.inr (.inr e)), .inl hk.1, fun x => absurd x e0, fun _ => hk.2⟩
        · cases hk

theorem no_zero_path {p : L} (h : PathM.mayB p = true) : (0 : UInt8) ∉ p := (PathM.mayB_iff.1 h).2.2.1
/-- The names of a node whose path may be. -/
theorem names_f {n : Nd} (h : PathM.mayB n.path = true) : nameV n ≠ [] ∧ (nameV n).length ≤ 100 ∧ (0 : UInt8) ∉ nameV n ∧ (preV n).length ≤ 155 ∧ (0 : UInt8) ∉ preV n := by
  have h0 := no_zero_path h
  have hl := (PathM.mayB_iff.1 h).1
  cases hn : needN n
  · have hs : PathM.splB n.path = true := by
      unfold needN at hn
      rw [h, Bool.true_and] at hn
      simpa using hn
    obtain ⟨_, hj, a1, a2, a3, _, a4, a5⟩ := PathM.split_facts hs
    have e : nameV n = (PathM.splV n.path).2 := by unfold nameV; rw [if_neg (by simp [hn])]
    rw [e]
    refine ⟨a3, a2, no_zero_path a4, a1, ?_⟩
    show (0 : UInt8) ∉ (PathM.splV n.path).1
    rcases a5 with a5 | a5
    · rw [a5]; simp
    · exact no_zero_path a5
  · obtain ⟨_, _, hlen, hsp⟩ := needN_facts hn
    have e : nameV n = n.path.take 100 := by unfold nameV; rw [if_pos hn]
    rw [e]
    unfold preV
    rw [hsp]
    refine ⟨?_, by rw [List.length_take]; omega, fun hm => h0 (List.mem_of_mem_take hm), by simp, by simp⟩
    intro e2
    have := congrArg List.length e2
    rw [List.length_take, List.length_nil] at this
    omega
theorem put_ok {x : Int} {w : Nat} (h0 : 0 ≤ x) (h1 : x ≤ 1099511627776) (hw : 8 ≤ w) (hw2 : w ≤ 20) : Num.putOk x (w : Int) = true := by
  rw [Num.putOk_iff]
  refine ⟨h0, by omega, by omega, ?_⟩
  have h3 : (1099511627776 : Nat) < 256 ^ 7 := by decide
  have h4 : (256 : Nat) ^ 7 ≤ 256 ^ (w - 1) := Nat.pow_le_pow_right (by decide) (by omega)
  have h5 : ((w : Int) - 1).toNat = w - 1 := by omega
  rw [h5]
  omega
theorem head_may {n : Nd} (h : oneB n = true) : mayH (headE n) = true := by
  have f := oneF h
  obtain ⟨a1, a2, a3, a4, a5⟩ := names_f f.path
  have b1 : okT (nameV n) 100 = true := okT_iff.2 ⟨a2, a3⟩
  have b2 : okT (preV n) 155 = true := okT_iff.2 ⟨a4, a5⟩
  have b3 : okT (linkV n) 100 = true := okT_iff.2 ⟨by unfold linkV; rw [List.length_take]; omega, fun hm => by
    have hm2 : (0 : UInt8) ∈ n.link := List.mem_of_mem_take hm
    rcases f.link with e | e
    · rw [e] at hm2; cases hm2
    · exact (textL_iff.1 e).2.2 hm2⟩
  have c1 := put_ok (w := 8) f.mode.1 (by have := f.mode.2; omega) (by omega) (by omega)
  have c2 := put_ok (w := 8) f.uid.1 f.uid.2 (by omega) (by omega)
  have c3 := put_ok (w := 8) f.gid.1 f.gid.2 (by omega) (by omega)
  have c4 := put_ok (x := (n.data.length : Int)) (w := 12) (by omega) (by have := f.data; omega) (by omega) (by omega)
  have c5 := put_ok (w := 12) f.time.1 f.time.2 (by omega) (by omega)
  have d1 : (nameV n).isEmpty = false := by
    cases hq : nameV n
    · exact absurd hq a1
    · rfl
  have d2 : typs.contains n.kind = true := by rcases f.kind with e | e | e | e <;> rw [e] <;> decide
  have d3 : n.kind ≠ 77 := by rcases f.kind with e | e | e | e <;> rw [e] <;> decide
  unfold mayH elseZ txtsOk numsOk headE
  simp only [b1, b2, b3, d1, d2, if_neg d3]
  simp only [decide_eq_false d3, Bool.not_false, Bool.and_true, Bool.true_and, Bool.false_or, decide_true, Bool.true_or, Bool.and_eq_true]
  exact ⟨⟨⟨⟨c1, c2⟩, c3⟩, c4⟩, c5⟩
theorem head_small {n : Nd} (h : oneB n = true) : SmallH (headE n) := by
  have f := oneF h
  obtain ⟨_, a2, _, a4, _⟩ := names_f f.path
  have hm := f.mode.2
  have hu := f.uid.2
  have hg := f.gid.2
  have ht := f.time.2
  have hd := f.data
  refine ⟨?_, ?_, ?_, ?_, ?_, ?_, ?_, ?_, ?_, ?_⟩
  · show (nameV n).length ≤ _
    omega
  · show (preV n).length ≤ _
    omega
  · show (linkV n).length ≤ _
    unfold linkV
    simp
    omega
  · show n.mode < _
    omega
  · show n.uid < _
    omega
  · show n.gid < _
    omega
  · show (n.data.length : Int) < _
    omega
  · show n.time < _
    omega
  · show (0 : Int) < _
    omega
  · show (0 : Int) < _
    omega
theorem head_ty (n : Nd) : (headE n).ty = n.kind := rfl

/-! ### what stands ahead -/
theorem link_ok {n : Nd} (h : oneB n = true) (hl : needL n = true) : putOkL 75 n.link = true := by
  have f := oneF h
  rw [putOkL_iff]
  refine ⟨.inl rfl, ?_⟩
  rcases f.link with e | e
  · unfold needL at hl
    rw [e] at hl
    simp at hl
  · exact e
theorem name_ok {n : Nd} (hn : needN n = true) : putOkL 76 n.path = true := by
  rw [putOkL_iff]
  exact ⟨.inr rfl, may_text (needN_facts hn).1⟩
def aL (n : Nd) : List L := if needL n = true then [blk (llH 75 n.link), BlockM.blk (n.link ++ [0])] else []
def aN (n : Nd) : List L := if needN n = true then [blk (llH 76 n.path), BlockM.blk (n.path ++ [0])] else []
theorem ahead_is {n : Nd} (h : oneB n = true) : aheadV n = aL n ++ aN n := by
  unfold aheadV aL aN
  congr 1
  · split
    · rename_i hl
      exact putLs_yes (link_ok h hl)
    · rfl
  · split
    · rename_i hn
      exact putLs_yes (name_ok hn)
    · rfl
theorem aL_length (n : Nd) : (aL n).length = if needL n = true then 2 else 0 := by unfold aL; split <;> rfl
theorem aN_length (n : Nd) : (aN n).length = if needN n = true then 2 else 0 := by unfold aN; split <;> rfl
/-- What follows the blocks of a long link. -/
def tailE (n : Nd) : List L := aN n ++ blk (headE n) :: BlockM.cutV n.data
theorem putE_yes {n : Nd} (h : oneB n = true) : putE n = aheadV n ++ blk (headE n) :: BlockM.cutV n.data := by rw [putE, if_pos h]
theorem putE_no {n : Nd} (h : oneB n = false) : putE n = [] := by rw [putE, if_neg (by simp [h])]
theorem putE_is {n : Nd} (h : oneB n = true) : putE n = aL n ++ tailE n := by
  rw [putE_yes h, ahead_is h, List.append_assoc]
  rfl
theorem putE_length {n : Nd} (h : oneB n = true) : (putE n).length = (aheadV n).length + 1 + BlockM.manyN n.data.length := by
  rw [putE_yes h, List.length_append, List.length_cons, BlockM.cutV_length]
  omega
theorem ahead_length {n : Nd} (h : oneB n = true) : (aheadV n).length = (if needL n = true then 2 else 0) + (if needN n = true then 2 else 0) := by
  rw [ahead_is h, List.length_append, aL_length, aN_length]
theorem putE_at {n : Nd} (h : oneB n = true) : (putE n)[(aheadV n).length]? = some (blk (headE n)) := by
  rw [putE_yes h, List.getElem?_append_right (Nat.le_refl _)]
  simp
theorem putE_drop {n : Nd} (h : oneB n = true) : (putE n).drop ((aheadV n).length + 1) = BlockM.cutV n.data := by
  rw [putE_yes h, List.drop_append]
  simp
theorem putE_may (n : Nd) : BlockM.mayV (putE n) = true := by
  cases h : oneB n
  · rw [putE_no h]; rfl
  · rw [putE_yes h]
    refine BlockM.mayV_iff.2 fun b hb => ?_
    rcases List.mem_append.1 hb with hb | hb
    · exact BlockM.mayV_iff.1 (ahead_may n) b hb
    · rcases List.mem_cons.1 hb with rfl | hb
      · exact blk_length (head_may h) (head_small h)
      · exact BlockM.mayV_iff.1 (BlockM.cutV_may n.data) b hb

/-! ### the first block, and what it tells -/
theorem kind_ne {n : Nd} (h : oneB n = true) : n.kind ≠ 75 ∧ n.kind ≠ 76 := by
  rcases (oneF h).kind with e | e | e | e <;> rw [e] <;> decide
theorem llH_ok {k : UInt8} {s : L} (h : putOkL k s = true) : mayH (llH k s) = true ∧ SmallH (llH k s) ∧ (llH k s).ty = k :=
  ⟨llH_may h, llH_small (by have := (textL_iff.1 (putOkL_iff.1 h).2).2.1; omega), rfl⟩
/-- The header whose block stands first. -/
def firstH (n : Nd) : Hd := if needL n = true then llH 75 n.link else if needN n = true then llH 76 n.path else headE n
theorem first_ok {n : Nd} (h : oneB n = true) : mayH (firstH n) = true ∧ SmallH (firstH n) := by
  unfold firstH
  split
  · rename_i hl
    exact ⟨(llH_ok (link_ok h hl)).1, (llH_ok (link_ok h hl)).2.1⟩
  · split
    · rename_i hn
      exact ⟨(llH_ok (name_ok hn)).1, (llH_ok (name_ok hn)).2.1⟩
    · exact ⟨head_may h, head_small h⟩
theorem putE_first {n : Nd} (h : oneB n = true) : (putE n)[0]? = some (blk (firstH n)) := by
  rw [putE_is h]
  unfold firstH aL tailE aN
  split
  · rfl
  · split <;> rfl
theorem ty_of {h k : Hd} (hm : mayH h = true) (km : mayH k = true) (hs : SmallH h) (ks : SmallH k) (e : blk h = blk k) : h.ty = k.ty := by rw [blk_inj hm km hs ks e]
theorem tail_inj {n m : Nd} (hn : oneB n = true) (hm : oneB m = true) (e : tailE n = tailE m) : needN n = needN m ∧ (needN n = true → n.path = m.path) ∧ headE n = headE m ∧ BlockM.cutV n.data = BlockM.cutV m.data := by
  unfold tailE aN at e
  cases h1 : needN n <;> cases h2 : needN m <;> simp only [h1, h2, if_true, Bool.false_eq_true, if_false, List.nil_append, List.cons_append, List.cons.injEq] at e
  · obtain ⟨e1, e2⟩ := e
    exact ⟨rfl, fun h => (by cases h), blk_inj (head_may hn) (head_may hm) (head_small hn) (head_small hm) e1, e2⟩
  · obtain ⟨e1, _⟩ := e
    have k := llH_ok (name_ok h2)
    exact absurd (ty_of (head_may hn) k.1 (head_small hn) k.2.1 e1) (by rw [head_ty, k.2.2]; exact (kind_ne hn).2)
  · obtain ⟨e1, _⟩ := e
    have k := llH_ok (name_ok h1)
    exact absurd (ty_of k.1 (head_may hm) k.2.1 (head_small hm) e1).symm (by rw [head_ty, k.2.2]; exact (kind_ne hm).2)
  · obtain ⟨_, e2, e3, e4⟩ := e
    exact ⟨rfl, fun _ => text_blk_inj (may_text (needN_facts h1).1) (may_text (needN_facts h2).1) e2, blk_inj (head_may hn) (head_may hm) (head_small hn) (head_small hm) e3, e4⟩
theorem tail_first {n : Nd} (h : oneB n = true) : ∃ k r, tailE n = blk k :: r ∧ mayH k = true ∧ SmallH k ∧ k.ty ≠ 75 := by
  unfold tailE aN
  cases hn : needN n
  · exact ⟨headE n, BlockM.cutV n.data, rfl, head_may h, head_small h, (kind_ne h).1⟩
  · have k := llH_ok (name_ok hn)
    exact ⟨_, _, rfl, k.1, k.2.1, by rw [k.2.2]; decide⟩
/-- Two nodes that may be alone have the same blocks just if they are the same. -/
theorem putE_inj {n m : Nd} (hn : oneB n = true) (hm : oneB m = true) (e : putE n = putE m) : n = m := by
  rw [putE_is hn, putE_is hm] at e
  have key : needL n = needL m ∧ (needL n = true → n.link = m.link) ∧ tailE n = tailE m := by
    unfold aL at e
    cases h1 : needL n <;> cases h2 : needL m <;> simp only [h1, h2, if_true, Bool.false_eq_true, if_false, List.nil_append, List.cons_append, List.cons.injEq] at e
    · exact ⟨rfl, fun h => (by cases h), e⟩
    · obtain ⟨k, r, ek, k1, k2, k3⟩ := tail_first hn
      rw [ek] at e
      have l := llH_ok (link_ok hm h2)
      exact absurd (ty_of k1 l.1 k2 l.2.1 (List.cons.inj e).1) (by rw [l.2.2]; exact k3)
    · obtain ⟨k, r, ek, k1, k2, k3⟩ := tail_first hm
      rw [ek] at e
      have l := llH_ok (link_ok hn h1)
      exact absurd (ty_of l.1 k1 l.2.1 k2 (List.cons.inj e).1).symm (by rw [l.2.2]; exact k3)
    · obtain ⟨_, e2, e3⟩ := e
      exact ⟨rfl, fun _ => text_blk_inj (putOkL_iff.1 (link_ok hn h1)).2 (putOkL_iff.1 (link_ok hm h2)).2 e2, e3⟩
  obtain ⟨hl, hlink, et⟩ := key
  obtain ⟨hnn, hpath, eh, ec⟩ := tail_inj hn hm et
  unfold headE at eh
  simp only [Hd.mk.injEq] at eh
  obtain ⟨x1, x2, x3, x4, x5, x6, x7, x8, x9, -, -⟩ := eh
  have hdata : n.data = m.data := BlockM.cutV_inj (by omega) ec
  have hlk : n.link = m.link := by
    cases h1 : needL n
    · have l1 : n.link.length ≤ 100 := by unfold needL at h1; simpa using h1
      have h2 := h1
      rw [hl] at h2
      have l2 : m.link.length ≤ 100 := by unfold needL at h2; simpa using h2
      unfold linkV at x3
      rwa [List.take_of_length_le l1, List.take_of_length_le l2] at x3
    · exact hlink h1
  have hpt : n.path = m.path := by
    cases h1 : needN n
    · have h2 := h1
      rw [hnn] at h2
      have key2 : ∀ {k : Nd}, oneB k = true → needN k = false → PathM.joinV (preV k) (nameV k) = k.path := by
        intro k hk hq
        have hs : PathM.splB k.path = true := by
          unfold needN at hq
          rw [(oneF hk).path, Bool.true_and] at hq
          simpa using hq
        have e2 : nameV k = (PathM.splV k.path).2 := by unfold nameV; rw [if_neg (by simp [hq])]
        rw [e2]
        exact (PathM.split_facts hs).2.1
      rw [← key2 hn h1, ← key2 hm h2, x1, x2]
    · exact hpath h1
  obtain ⟨a1, a2, a3, a4, a5, a6, a7, a8⟩ := n
  obtain ⟨b1, b2, b3, b4, b5, b6, b7, b8⟩ := m
  simp only at hdata hlk hpt x4 x5 x6 x8 x9
  rw [hdata, hlk, hpt, x4, x5, x6, x8, x9]
end Go.Proofs.Ytjddgmdbgajjpaa.Entry

