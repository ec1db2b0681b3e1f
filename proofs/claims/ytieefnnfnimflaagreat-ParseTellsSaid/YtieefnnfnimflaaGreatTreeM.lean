/-
  What package tree answers, as plain functions over lists of nodes: no Go, and no statement, is proved here.
-/
import Derived.Test.YtieefnnfnimflaaGreatPathM
import Derived.Test.YtieefnnfnimflaaGreatNode
import Derived.Test.YtieefnnfnimflaaGreatLongTx
namespace Go.Proofs.YtieefnnfnimflaaGreat.Tree
open Go.Proofs.YtieefnnfnimflaaGreat.Node Go.Proofs.YtieefnnfnimflaaGreat.Long
abbrev L := List UInt8

def kindB (n : Nd) : Bool :=
  if n.kind = 48 then (n.link == []) && decide (n.data.length ≤ 4000)
  else if n.kind = 49 then PathM.mayB n.link && ((n.data == []) && (decide (n.mode = 0) && (decide (n.uid = 0) && (decide (n.gid = 0) && decide (n.time = 0)))))
  else if n.kind = 50 then textL n.link && (n.data == [])
  else if n.kind = 53 then (n.link == []) && (n.data == [])
  else false
def numsB (n : Nd) : Bool := decide (0 ≤ n.mode ∧ n.mode ≤ 4095) && (decide (0 ≤ n.uid ∧ n.uid ≤ 1099511627776) && (decide (0 ≤ n.gid ∧ n.gid ≤ 1099511627776) && decide (0 ≤ n.time ∧ n.time ≤ 1099511627776)))
/-- May a node be alone? -/
def oneB (n : Nd) : Bool := PathM.mayB n.path && (numsB n && kindB n)
/-- The place of the first node of a path. -/
def findN (p : L) : List Nd → Option Nat
  | [] => none
  | n :: ns => if n.path = p then some 0 else (findN p ns).map (· + 1)
def findV (ns : List Nd) (p : L) : Int := match findN p ns with | some i => (i : Int) | none => -1
def hasB (ns : List Nd) (p : L) (k : UInt8) : Bool := match findN p ns with | some i => (ns[i]?.map fun n => decide (n.kind = k)).getD false | none => false
def underV (ns : List Nd) (p : L) : List Nd := ns.filter fun n => PathM.belowB n.path p
/-- May n stand behind the nodes of a tree? -/
def stepB (pre : List Nd) (n : Nd) : Bool :=
  oneB n && ((match pre.getLast? with | none => true | some m => !(Op.bytesLess n.path m.path || n.path == m.path)) && ((!(PathM.parB n.path) || hasB pre (PathM.parV n.path) 53) && (!(decide (n.kind = 49)) || hasB pre n.link 48)))
def mayT (ns : List Nd) : Bool := decide (ns.length ≤ 20) && (List.range ns.length).all fun i => (ns[i]?.map (stepB (ns.take i))).getD true

theorem findN_lt {p : L} {ns : List Nd} {i : Nat} (h : findN p ns = some i) : ∃ n, ns[i]? = some n ∧ n.path = p ∧ ∀ j m, j < i → ns[j]? = some m → m.path ≠ p := by
  induction ns generalizing i with
  | nil => simp [findN] at h
  | cons n ns ih =>
    unfold findN at h
    split at h
    · rename_i hp
      cases h
      exact ⟨n, rfl, hp, fun j m hj => by omega⟩
    · rename_i hp
      cases hf : findN p ns with
      | none => rw [hf] at h; simp at h
      | some k =>
        rw [hf] at h
        simp only [Option.map_some, Option.some.injEq] at h
        subst h
        obtain ⟨x, h1, h2, h3⟩ := ih hf
        refine ⟨x, by simpa using h1, h2, fun j m hj hm => ?_⟩
        cases j with
        | zero =>
          simp only [List.getElem?_cons_zero, Option.some.injEq] at hm
          subst hm
          exact hp
        | succ j => exact h3 j m (by omega) (by simpa using hm)
theorem findN_of {p : L} {ns : List Nd} {i : Nat} {n : Nd} (h : ns[i]? = some n) (hp : n.path = p) (hb : ∀ j m, j < i → ns[j]? = some m → m.path ≠ p) : findN p ns = some i := by
  induction ns generalizing i with
  | nil => simp at h
  | cons x ns ih =>
    unfold findN
    cases i with
    | zero =>
      simp only [List.getElem?_cons_zero, Option.some.injEq] at h
      subst h
      rw [if_pos hp]
    | succ i =>
      rw [if_neg (hb 0 x (by omega) rfl), ih (i := i) (by simpa using h) (fun j m hj hm => hb (j + 1) m (by omega) (by simpa using hm))]
      rfl
theorem findN_none {p : L} {ns : List Nd} (h : ∀ (j : Nat) (m : Nd), ns[j]? = some m → m.path ≠ p) : findN p ns = none := by
  induction ns with
  | nil => rfl
  | cons x ns ih =>
    unfold findN
    rw [if_neg (h 0 x (by simp)), ih (fun j m hm => h (j + 1) m (by simpa using hm))]
    rfl
theorem findN_bound {p : L} {ns : List Nd} {i : Nat} (h : findN p ns = some i) : i < ns.length := by
  obtain ⟨n, h1, _⟩ := findN_lt h
  exact (List.getElem?_eq_some_iff.1 h1).1
/-- One node more, read from the front. -/
theorem none_step {p : L} {ns : List Nd} {k : Nat} {n : Nd} (hk : ns[k]? = some n) (hn : n.path ≠ p) (h : ∀ j m, j < k → ns[j]? = some m → m.path ≠ p) : ∀ j m, j < k + 1 → ns[j]? = some m → m.path ≠ p := by
  intro j m hj hm
  by_cases e : j = k
  · subst e
    rw [hk] at hm
    cases hm
    exact hn
  · exact h j m (by omega) hm
theorem under_step {ns : List Nd} {k : Nat} {n : Nd} (hk : ns[k]? = some n) (p : L) : underV (ns.take (k + 1)) p = underV (ns.take k) p ++ (if PathM.belowB n.path p = true then [n] else []) := by
  unfold underV
  rw [List.take_add_one, hk, List.filter_append]
  congr 1
  simp only [Option.toList_some, List.filter_cons, List.filter_nil]
theorem under_le (ns : List Nd) (p : L) : (underV ns p).length ≤ ns.length := List.length_filter_le _ _
end Go.Proofs.YtieefnnfnimflaaGreat.Tree
