/-
  A parser's states and what it tells, as cells and values, and rows of what is told: no statement is proved here.
  A parser's states, and what it tells, compared: no statement is proved here.
-/
import Derived.Test.YtllnnlmhbmladaaGreatDoorParseM
import Derived.Test.YtllnnlmhbmladaaGreatDoorNodes
import Derived.Test.YtllnnlmhbmladaaGreatDoorBase
import Derived.Test.YtllnnlmhbmladaaGreatDoorTreeOne
namespace Go.Proofs.YtllnnlmhbmladaaGreatDoor.Parse
open Go.RowKit Go.Proofs.YtllnnlmhbmladaaGreatDoor.Base Go.Proofs.YtllnnlmhbmladaaGreatDoor.Node

abbrev scells (s : St) : Array Value := #[.int .i64 s.phase, .string ⟨s.node.path.toArray⟩, .string ⟨s.node.link.toArray⟩, .int .u8 (s.node.kind.toNat : Int), .int .i64 s.node.mode, .int .i64 s.node.uid, .int .i64 s.node.gid, .int .i64 s.node.time, .string ⟨s.node.data.toArray⟩, .int .i64 s.size, .int .i64 s.left, .string ⟨s.text.toArray⟩, .string ⟨s.name.toArray⟩, .string ⟨s.link.toArray⟩]
abbrev sv (s : St) : Value := .agg (scells s)
abbrev ecells (x : Evt) : Array Value := #[.int .i64 x.kind, .string ⟨x.node.path.toArray⟩, .string ⟨x.node.link.toArray⟩, .int .u8 (x.node.kind.toNat : Int), .int .i64 x.node.mode, .int .i64 x.node.uid, .int .i64 x.node.gid, .int .i64 x.node.time, .string ⟨x.node.data.toArray⟩, .string ⟨x.data.toArray⟩]
structure SmallS (s : St) : Prop where
  phase : s.phase < 9223372036854775808
  phase' : -9223372036854775808 ≤ s.phase
  node : SmallN s.node
  size : s.size < 9223372036854775808
  size' : -9223372036854775808 ≤ s.size
  left : s.left < 9223372036854775808
  left' : -9223372036854775808 ≤ s.left
  text : s.text.length ≤ 9223372036854775807
  name : s.name.length ≤ 9223372036854775807
  link : s.link.length ≤ 9223372036854775807
theorem zeroN_small : SmallN zeroN := by constructor <;> simp [zeroN]
theorem zeroS_small : SmallS zeroS := by constructor <;> first | exact zeroN_small | (simp [zeroS])

theorem nat_inj {a b : UInt8} (h : (a.toNat : Int) = (b.toNat : Int)) : a = b := UInt8.toNat_inj.1 (by omega)
/-- The cells of what is told. -/
def etc (xs : List Evt) : List Value := xs.flatMap fun x => (ecells x).toList
theorem etc_at {xs : List Evt} {j i : Nat} {x : Evt} (h : xs[j]? = some x) (hi : i < 10) : (etc xs)[j * 10 + i]? = (ecells x)[i]? := by
  induction xs generalizing j with
  | nil => simp at h
  | cons y xs ih =>
    have hl : (ecells y).toList.length = 10 := rfl
    cases j with
    | zero =>
      simp only [List.getElem?_cons_zero, Option.some.injEq] at h
      subst h
      show ((ecells y).toList ++ etc xs)[0 * 10 + i]? = _
      rw [List.getElem?_append_left (by rw [hl]; omega), Array.getElem?_toList]
      congr 1
      omega
    | succ j =>
      simp only [List.getElem?_cons_succ] at h
      show ((ecells y).toList ++ etc xs)[(j + 1) * 10 + i]? = _
      rw [List.getElem?_append_right (by rw [hl]; omega), hl, show (j + 1) * 10 + i - 10 = j * 10 + i by omega]
      exact ih h
/-- The slice at A reads as what is told. -/
def RdE (w : World) (A : Option Addr) (cap : Nat) (xs : List Evt) : Prop :=
  xs.length ≤ cap ∧ (xs ≠ [] → ∃ b o, A = some ⟨b, o, none⟩ ∧ b < w.heap.size ∧ ∀ q u, (etc xs)[q]? = some u → w.cell? ⟨b, o + q, none⟩ = some u)
section
variable {w w' : World} {A : Option Addr} {cap : Nat} {xs : List Evt}
theorem RdE.nil (w : World) : RdE w none 0 [] := ⟨by simp, fun h => absurd rfl h⟩
theorem RdE.keep (h : RdE w A cap xs) (hs : Stp w w') : RdE w' A cap xs := by
  refine ⟨h.1, fun hn => ?_⟩
  obtain ⟨b, o, e, hb, hc⟩ := h.2 hn
  exact ⟨b, o, e, Nat.lt_of_lt_of_le hb hs.size, fun q u hq => (hs.cell (p := ⟨b, o + q, none⟩) hb).trans (hc q u hq)⟩
theorem RdE.at_ (h : RdE w A cap xs) {j : Nat} {x : Evt} (hj : xs[j]? = some x) : ∃ b o, A = some ⟨b, o, none⟩ ∧ b < w.heap.size ∧ ∀ i u, (ecells x)[i]? = some u → w.cell? ⟨b, o + (j * 10 + i), none⟩ = some u := by
  obtain ⟨b, o, e, hb, hc⟩ := h.2 (by rintro rfl; simp at hj)
  refine ⟨b, o, e, hb, fun i u hi => hc _ u ?_⟩
  have hi8 : i < 10 := (Array.getElem?_eq_some_iff.1 hi).1
  rw [etc_at hj hi8]
  exact hi
/-- The ten cells of what is told once, that lie in a row. -/
theorem RdE.cells (h : RdE w A cap xs) {j : Nat} {x : Evt} (hj : xs[j]? = some x) : ∃ b o, A = some ⟨b, o, none⟩ ∧ b < w.heap.size ∧
    w.cell? ⟨b, o + j * 10, none⟩ = some (.int .i64 x.kind) ∧
    w.cell? ⟨b, o + j * 10 + 1, none⟩ = some (.string ⟨x.node.path.toArray⟩) ∧
    w.cell? ⟨b, o + j * 10 + 2, none⟩ = some (.string ⟨x.node.link.toArray⟩) ∧
    w.cell? ⟨b, o + j * 10 + 3, none⟩ = some (.int .u8 (x.node.kind.toNat : Int)) ∧
    w.cell? ⟨b, o + j * 10 + 4, none⟩ = some (.int .i64 x.node.mode) ∧
    w.cell? ⟨b, o + j * 10 + 5, none⟩ = some (.int .i64 x.node.uid) ∧
    w.cell? ⟨b, o + j * 10 + 6, none⟩ = some (.int .i64 x.node.gid) ∧
    w.cell? ⟨b, o + j * 10 + 7, none⟩ = some (.int .i64 x.node.time) ∧
    w.cell? ⟨b, o + j * 10 + 8, none⟩ = some (.string ⟨x.node.data.toArray⟩) ∧
    w.cell? ⟨b, o + j * 10 + 9, none⟩ = some (.string ⟨x.data.toArray⟩) := by
  obtain ⟨b, o, e, hb, hc⟩ := h.at_ hj
  refine ⟨b, o, e, hb, hc 0 _ rfl, ?_, ?_, ?_, ?_, ?_, ?_, ?_, ?_, ?_⟩
  · rw [Nat.add_assoc]; exact hc 1 _ rfl
  · rw [Nat.add_assoc]; exact hc 2 _ rfl
  · rw [Nat.add_assoc]; exact hc 3 _ rfl
  · rw [Nat.add_assoc]; exact hc 4 _ rfl
  · rw [Nat.add_assoc]; exact hc 5 _ rfl
  · rw [Nat.add_assoc]; exact hc 6 _ rfl
  · rw [Nat.add_assoc]; exact hc 7 _ rfl
  · rw [Nat.add_assoc]; exact hc 8 _ rfl
  · rw [Nat.add_assoc]; exact hc 9 _ rfl
theorem RdE.first {x : Evt} (h : RdE w A cap (x :: xs)) : ∃ b o, A = some ⟨b, o, none⟩ ∧ w.cell? ⟨b, o, none⟩ = some (.int .i64 x.kind) ∧ w.cell? ⟨b, o + 9, none⟩ = some (.string ⟨x.data.toArray⟩) ∧
    w.cell? ⟨b, o + 1, none⟩ = some (.string ⟨x.node.path.toArray⟩) ∧ w.cell? ⟨b, o + 2, none⟩ = some (.string ⟨x.node.link.toArray⟩) ∧ w.cell? ⟨b, o + 3, none⟩ = some (.int .u8 (x.node.kind.toNat : Int)) ∧ w.cell? ⟨b, o + 4, none⟩ = some (.int .i64 x.node.mode) ∧
    w.cell? ⟨b, o + 5, none⟩ = some (.int .i64 x.node.uid) ∧ w.cell? ⟨b, o + 6, none⟩ = some (.int .i64 x.node.gid) ∧ w.cell? ⟨b, o + 7, none⟩ = some (.int .i64 x.node.time) ∧ w.cell? ⟨b, o + 8, none⟩ = some (.string ⟨x.node.data.toArray⟩) := by
  obtain ⟨b, o, e, -, q0, q1, q2, q3, q4, q5, q6, q7, q8, q9⟩ := h.cells (j := 0) rfl
  simp only [Nat.zero_mul, Nat.add_zero] at q0 q1 q2 q3 q4 q5 q6 q7 q8 q9
  exact ⟨b, o, e, q0, q9, q1, q2, q3, q4, q5, q6, q7, q8⟩
end
end Go.Proofs.YtllnnlmhbmladaaGreatDoor.Parse

namespace Go.Proofs.YtllnnlmhbmladaaGreatDoor.Parse
open Go.RowKit Go.Proofs.YtllnnlmhbmladaaGreatDoor.Base Go.Proofs.YtllnnlmhbmladaaGreatDoor.Node

theorem nd_ext (g k : Nd) : g = k ↔ (g.path = k.path ∧ g.link = k.link ∧ g.kind = k.kind ∧ g.mode = k.mode ∧ g.uid = k.uid ∧ g.gid = k.gid ∧ g.time = k.time ∧ g.data = k.data) := by cases g; cases k; simp
theorem st_ext (x y : St) : x = y ↔ x.phase = y.phase ∧ x.node = y.node ∧ x.size = y.size ∧ x.left = y.left ∧ x.text = y.text ∧ x.name = y.name ∧ x.link = y.link := by cases x; cases y; simp
set_option maxRecDepth 100000 in
set_option maxHeartbeats 1000000 in
theorem eq_states (x y : St) (w : World) : (Op.equalIn 10000 25 (sv x) (sv y)).run Tryz.prog w = .ok (decide (x = y)) w := by
  rw [show (10000 : Nat) = 9999 + 1 from rfl, run_equalIn_struct (P := Tryz.prog) w 9999 25 _ _ (by kernel_rfl) (by kernel_rfl)]
  have hf : (Tryz.prog.fieldsOf 25).toList = (Tryz.prog.fieldsOf 25).toList := rfl
  conv at hf => rhs; whnf
  rw [hf]
  go_simp
  have hty : ((x.node.kind.toNat : Int) = (y.node.kind.toNat : Int)) ↔ x.node.kind = y.node.kind := ⟨nat_inj, fun h => by rw [h]⟩
  by_cases h : x = y
  · subst h
    simp
  · rw [decide_eq_false h]
    rw [st_ext, nd_ext, ← hty] at h
    clear hty hf
    by_cases e0 : x.phase = y.phase
    case neg => rw [if_neg e0]
    rw [if_pos e0]
    by_cases e1 : x.node.path = y.node.path
    case neg => rw [if_neg e1]
    rw [if_pos e1]
    by_cases e2 : x.node.link = y.node.link
    case neg => rw [if_neg e2]
    rw [if_pos e2]
    by_cases e3 : (x.node.kind.toNat : Int) = (y.node.kind.toNat : Int)
    case neg => rw [if_neg e3]
    rw [if_pos e3]
    by_cases e4 : x.node.mode = y.node.mode
    case neg => rw [if_neg e4]
    rw [if_pos e4]
    by_cases e5 : x.node.uid = y.node.uid
    case neg => rw [if_neg e5]
    rw [if_pos e5]
    by_cases e6 : x.node.gid = y.node.gid
    case neg => rw [if_neg e6]
    rw [if_pos e6]
    by_cases e7 : x.node.time = y.node.time
    case neg => rw [if_neg e7]
    rw [if_pos e7]
    by_cases e8 : x.node.data = y.node.data
    case neg => rw [if_neg e8]
    rw [if_pos e8]
    by_cases e9 : x.size = y.size
    case neg => rw [if_neg e9]
    rw [if_pos e9]
    by_cases e10 : x.left = y.left
    case neg => rw [if_neg e10]
    rw [if_pos e10]
    by_cases e11 : x.text = y.text
    case neg => rw [if_neg e11]
    rw [if_pos e11]
    by_cases e12 : x.name = y.name
    case neg => rw [if_neg e12]
    rw [if_pos e12]
    by_cases e13 : x.link = y.link
    case neg => rw [if_neg e13]
    rw [if_pos e13]
    exact absurd ⟨e0, ⟨e1, e2, e3, e4, e5, e6, e7, e8⟩, e9, e10, e11, e12, e13⟩ h
end Go.Proofs.YtllnnlmhbmladaaGreatDoor.Parse

