/-
  What package parse answers, as plain functions over states, blocks and lists of what is told: no Go, and no statement, is proved here. What holds of package parse's answers: runs one behind another, a node's blocks, what is told: plain lemmas; no Go, and no statement, is proved here.
  What package read answers, as plain functions over what is told and blocks, and what holds of it: no Go, and no statement, is proved here.
-/
import Derived.Test.YtllnnlmhbmladaaGreatDoorEntryM
import Derived.Test.YtllnnlmhbmladaaGreatDoorStreamM
namespace Go.Proofs.YtllnnlmhbmladaaGreatDoor.Parse
open Go.Proofs.YtllnnlmhbmladaaGreatDoor.Node Go.Proofs.YtllnnlmhbmladaaGreatDoor.Head Go.Proofs.YtllnnlmhbmladaaGreatDoor.Long Go.Proofs.YtllnnlmhbmladaaGreatDoor.Entry
open Go.Proofs.YtllnnlmhbmladaaGreatDoor.Tree (oneB numsB kindB)
abbrev L := List UInt8

/-- A parser's state, and what it tells. -/
structure St where
  phase : Int
  node : Nd
  size : Int
  left : Int
  text : L
  name : L
  link : L
deriving DecidableEq
structure Evt where
  kind : Int
  node : Nd
  data : L
deriving DecidableEq
def zeroS : St := ⟨0, zeroN, 0, 0, [], [], []⟩
def phS (p : Int) : St := ⟨p, zeroN, 0, 0, [], [], []⟩
/-- What a step answers. -/
abbrev Ans := St × List Evt × Int

def longB (s : L) : Bool := decide (s = []) || textL s
def nilB (s : St) : Bool := decide (s.node = zeroN) && (decide (s.size = 0) && decide (s.left = 0))
def numB (s : St) : Bool := decide (s.node = zeroN) && (decide (2 ≤ s.size) && (decide (s.size ≤ 301) && decide (s.left = s.size)))
def fileB (s : St) : Bool := oneB s.node && (decide (s.node.kind = 48) && (decide (s.node.data = []) && (decide (1 ≤ s.size) && (decide (s.size ≤ 4000) && (decide (1 ≤ s.left) && (decide (s.left ≤ s.size) && decide ((s.size - s.left) % 512 = 0)))))))
/-- May a state be? -/
def mayS (s : St) : Bool :=
  decide (s.text = []) &&
    (if s.phase = 0 then nilB s && (longB s.name && longB s.link)
     else if s.phase = 1 then numB s && (decide (s.name = []) && longB s.link)
     else if s.phase = 2 then numB s && (decide (s.link = []) && longB s.name)
     else if s.phase = 3 then fileB s && (decide (s.name = []) && decide (s.link = []))
     else if s.phase = 4 ∨ s.phase = 5 then nilB s && (decide (s.name = []) && decide (s.link = []))
     else false)

/-- A node of a header. -/
def nodeH (s : St) (h : Hd) : Nd := ⟨if s.name = [] then PathM.joinV h.pre h.name else s.name, if s.link = [] then h.link else s.link, h.ty, h.mode, h.uid, h.gid, h.time, []⟩
def partsB (s : St) (h : Hd) : Bool := (decide (s.name = []) || (decide (h.pre = []) && decide (h.name = s.name.take 100))) && (decide (s.link = []) || decide (h.link = s.link.take 100))
def nodeS (s : St) (h : Hd) : Ans :=
  if partsB s h = false then (s, [], 2)
  else if PathM.mayB (nodeH s h).path = false then (s, [], 6)
  else if oneB (nodeH s h) = false ∨ 4000 < h.size ∨ (0 < h.size ∧ h.ty ≠ 48) then (s, [], 2)
  else if h.size = 0 then (zeroS, [⟨0, nodeH s h, []⟩, ⟨2, zeroN, []⟩], 0)
  else (⟨3, nodeH s h, h.size, h.size, [], [], []⟩, [⟨0, nodeH s h, []⟩], 0)
def longH (h : Hd) : Hd := ⟨llName, [], [], 0, 0, 0, h.size, 0, h.ty, 0, 0⟩
def typeB (s : St) (h : Hd) : Bool := decide (h.ty = 77) || (decide (h.ty = 86) || ((decide (h.ty = 76) && decide (s.name ≠ [])) || (decide (h.ty = 75) && decide (s.link ≠ []))))
def headS (s : St) (b : L) : Ans :=
  if codeB b = 4 then (if s.name = [] ∧ s.link = [] then (phS 4, [], 0) else (s, [], 2))
  else if codeB b ≠ 0 then (s, [], codeB b)
  else if typeB s (getH b) = true then (s, [], 5)
  else if (getH b).ty ≠ 76 ∧ (getH b).ty ≠ 75 then nodeS s (getH b)
  else if (getH b).size < 2 ∨ 301 < (getH b).size ∨ getH b ≠ longH (getH b) then (s, [], 2)
  else ({ s with phase := if (getH b).ty = 75 then 2 else 1, size := (getH b).size, left := (getH b).size }, [], 0)
def textS (s : St) (b : L) : Ans :=
  if textL (b.take (s.size.toNat - 1)) = true ∧ BlockM.zeroV (b.drop (s.size.toNat - 1)) = true then
    (if s.phase = 1 then { s with phase := 0, size := 0, left := 0, name := b.take (s.size.toNat - 1) } else { s with phase := 0, size := 0, left := 0, link := b.take (s.size.toNat - 1) }, [], 0)
  else (s, [], 2)
def dataS (s : St) (b : L) : Ans :=
  if s.left ≤ 512 then (zeroS, [⟨1, zeroN, b.take s.left.toNat⟩, ⟨2, zeroN, []⟩], 0) else ({ s with left := s.left - 512 }, [⟨1, zeroN, b.take 512⟩], 0)
def stepS (s : St) (b : L) : Ans :=
  if mayS s = false ∨ b.length ≠ 512 then (s, [], 1)
  else if s.phase = 5 then (s, [], 17)
  else if s.phase = 4 then (if BlockM.zeroV b = true then (phS 5, [], 0) else (s, [], 2))
  else if s.phase = 1 ∨ s.phase = 2 then textS s b
  else if s.phase = 3 then dataS s b
  else headS s b
def runS : St → List L → St × List Evt × Nat × Int
  | s, [] => (s, [], 0, 0)
  | s, b :: l =>
    if (stepS s b).2.2 ≠ 0 then (s, [], 0, (stepS s b).2.2)
    else if (stepS s b).1.phase = 5 then ((stepS s b).1, (stepS s b).2.1, 1, 0)
    else ((runS (stepS s b).1 l).1, (stepS s b).2.1 ++ (runS (stepS s b).1 l).2.1, (runS (stepS s b).1 l).2.2.1 + 1, (runS (stepS s b).1 l).2.2.2)

/-! ### what may be, phase by phase -/
theorem may_head {s : St} (h : s.phase = 0) : mayS s = (decide (s.text = []) && (nilB s && (longB s.name && longB s.link))) := by unfold mayS; rw [if_pos h]
theorem may_name {s : St} (h : s.phase = 1) : mayS s = (decide (s.text = []) && (numB s && (decide (s.name = []) && longB s.link))) := by
  unfold mayS
  rw [if_neg (by rw [h]; decide), if_pos h]
theorem may_link {s : St} (h : s.phase = 2) : mayS s = (decide (s.text = []) && (numB s && (decide (s.link = []) && longB s.name))) := by
  unfold mayS
  rw [if_neg (by rw [h]; decide), if_neg (by rw [h]; decide), if_pos h]
theorem may_data {s : St} (h : s.phase = 3) : mayS s = (decide (s.text = []) && (fileB s && (decide (s.name = []) && decide (s.link = [])))) := by
  unfold mayS
  rw [if_neg (by rw [h]; decide), if_neg (by rw [h]; decide), if_neg (by rw [h]; decide), if_pos h]
theorem may_over {s : St} (h : s.phase = 4 ∨ s.phase = 5) : mayS s = (decide (s.text = []) && (nilB s && (decide (s.name = []) && decide (s.link = [])))) := by
  unfold mayS
  rw [if_neg (by omega), if_neg (by omega), if_neg (by omega), if_neg (by omega), if_pos h]
theorem may_none {s : St} (h : s.phase < 0 ∨ 5 < s.phase) : mayS s = false := by
  unfold mayS
  rw [if_neg (by omega), if_neg (by omega), if_neg (by omega), if_neg (by omega), if_neg (by omega), Bool.and_false]
theorem may_phase {s : St} (h : mayS s = true) : 0 ≤ s.phase ∧ s.phase ≤ 5 := by
  by_cases h2 : s.phase < 0 ∨ 5 < s.phase
  · rw [may_none h2] at h; cases h
  · omega
theorem longB_text {s : L} (h : textL s = true) : longB s = true := by unfold longB; rw [h, Bool.or_true]
theorem nilB_iff {s : St} : nilB s = true ↔ s.node = zeroN ∧ s.size = 0 ∧ s.left = 0 := by simp [nilB]
theorem numB_iff {s : St} : numB s = true ↔ s.node = zeroN ∧ 2 ≤ s.size ∧ s.size ≤ 301 ∧ s.left = s.size := by simp [numB]
theorem fileB_iff {s : St} : fileB s = true ↔ oneB s.node = true ∧ s.node.kind = 48 ∧ s.node.data = [] ∧ 1 ≤ s.size ∧ s.size ≤ 4000 ∧ 1 ≤ s.left ∧ s.left ≤ s.size ∧ (s.size - s.left) % 512 = 0 := by simp [fileB]
theorem head_iff {s : St} (h : s.phase = 0) : mayS s = true ↔ s.text = [] ∧ (s.node = zeroN ∧ s.size = 0 ∧ s.left = 0) ∧ longB s.name = true ∧ longB s.link = true := by
  rw [may_head h]; simp only [Bool.and_eq_true, decide_eq_true_eq, nilB_iff]
theorem name_iff {s : St} (h : s.phase = 1) : mayS s = true ↔ s.text = [] ∧ (s.node = zeroN ∧ 2 ≤ s.size ∧ s.size ≤ 301 ∧ s.left = s.size) ∧ s.name = [] ∧ longB s.link = true := by
  rw [may_name h]; simp only [Bool.and_eq_true, decide_eq_true_eq, numB_iff]
theorem link_iff {s : St} (h : s.phase = 2) : mayS s = true ↔ s.text = [] ∧ (s.node = zeroN ∧ 2 ≤ s.size ∧ s.size ≤ 301 ∧ s.left = s.size) ∧ s.link = [] ∧ longB s.name = true := by
  rw [may_link h]; simp only [Bool.and_eq_true, decide_eq_true_eq, numB_iff]
theorem data_iff {s : St} (h : s.phase = 3) : mayS s = true ↔ s.text = [] ∧ (oneB s.node = true ∧ s.node.kind = 48 ∧ s.node.data = [] ∧ 1 ≤ s.size ∧ s.size ≤ 4000 ∧ 1 ≤ s.left ∧ s.left ≤ s.size ∧ (s.size - s.left) % 512 = 0) ∧ s.name = [] ∧ s.link = [] := by
  rw [may_data h]; simp only [Bool.and_eq_true, decide_eq_true_eq, fileB_iff]
theorem over_iff {s : St} (h : s.phase = 4 ∨ s.phase = 5) : mayS s = true ↔ s.text = [] ∧ (s.node = zeroN ∧ s.size = 0 ∧ s.left = 0) ∧ s.name = [] ∧ s.link = [] := by
  rw [may_over h]; simp only [Bool.and_eq_true, decide_eq_true_eq, nilB_iff]
theorem zeroS_may : mayS zeroS = true := by decide
theorem phS_may {p : Int} (h : p = 4 ∨ p = 5) : mayS (phS p) = true := (over_iff h).2 ⟨rfl, ⟨rfl, rfl, rfl⟩, rfl, rfl⟩

/-! ### what a step says -/
def okEv (x : Evt) : Prop := (x.kind = 0 → oneB x.node = true ∧ x.node.data = [] ∧ PathM.mayB x.node.path = true) ∧ (x.kind = 1 → 1 ≤ x.data.length ∧ x.data.length ≤ 512)
/-- A step that goes on: its state may be, and what is told is in order. -/
def Goes (t : St) (l : List Evt) : Prop := mayS t = true ∧ l.length ≤ 2 ∧ ∀ x ∈ l, okEv x
/-- A step's answer: it stays, or goes on. -/
def Okay (s : St) (a : Ans) : Prop := (a.2.2 ≠ 0 ∧ a.1 = s ∧ a.2.1 = []) ∨ (a.2.2 = 0 ∧ Goes a.1 a.2.1)
theorem okay_no {s : St} {e : Int} (h : e ≠ 0) : Okay s (s, [], e) := .inl ⟨h, rfl, rfl⟩
theorem okay_go {s t : St} {l : List Evt} (h : Goes t l) : Okay s (t, l, 0) := .inr ⟨rfl, h⟩
theorem one_path {n : Nd} (h : oneB n = true) : PathM.mayB n.path = true := by
  unfold oneB at h
  rw [Bool.and_eq_true] at h
  exact h.1
theorem okEv_over : okEv ⟨2, zeroN, []⟩ := ⟨fun h => absurd h (by decide), fun h => absurd h (by decide)⟩
theorem okEv_node {n : Nd} (h : oneB n = true) (hd : n.data = []) : okEv ⟨0, n, []⟩ := ⟨fun _ => ⟨h, hd, one_path h⟩, fun h => absurd h (by show ¬ (0 : Int) = 1; decide)⟩
theorem okEv_data {d : L} (h : 1 ≤ d.length) (h2 : d.length ≤ 512) : okEv ⟨1, zeroN, d⟩ := ⟨fun h => absurd h (by show ¬ (1 : Int) = 0; decide), fun _ => ⟨h, h2⟩⟩
theorem node_okay (s : St) (h : Hd) (h0 : 0 ≤ h.size) : Okay s (nodeS s h) := by
  unfold nodeS
  split
  · exact okay_no (by decide)
  split
  · exact okay_no (by decide)
  split
  · exact okay_no (by decide)
  rename_i hp hm ho
  rw [not_or, not_or, Bool.not_eq_false] at ho
  obtain ⟨h1, h2, h3⟩ := ho
  have hn := okEv_node h1 (show (nodeH s h).data = [] from rfl)
  split
  · refine okay_go ⟨zeroS_may, Nat.le_refl 2, fun x hx => ?_⟩
    simp only [List.mem_cons, List.not_mem_nil, or_false] at hx
    rcases hx with rfl | rfl
    · exact hn
    · exact okEv_over
  · rename_i hz
    refine okay_go ⟨(data_iff rfl).2 ⟨rfl, ⟨h1, ?_, rfl, by show 1 ≤ h.size; omega, by show h.size ≤ 4000; omega, by show 1 ≤ h.size; omega, Int.le_refl _, by show (h.size - h.size) % 512 = 0; omega⟩, rfl, rfl⟩, by show 1 ≤ 2; omega, fun x hx => ?_⟩
    · show h.ty = 48
      refine Decidable.byContradiction fun hk => h3 ⟨by omega, hk⟩
    · rw [List.mem_singleton.1 hx]
      exact hn
theorem step_okay (s : St) (b : L) (h0 : 0 ≤ (getH b).size) : Okay s (stepS s b) := by
  unfold stepS
  split
  · exact okay_no (by decide)
  rename_i hm
  rw [not_or, Bool.not_eq_false] at hm
  obtain ⟨hm, hb⟩ := hm
  have hb : b.length = 512 := Decidable.byContradiction hb
  split
  · exact okay_no (by decide)
  split
  · split
    · exact okay_go ⟨phS_may (.inr rfl), by show 0 ≤ 2; omega, by simp⟩
    · exact okay_no (by decide)
  split
  · rename_i hp
    unfold textS
    split
    · rename_i ht
      have hlong := longB_text ht.1
      refine okay_go ⟨?_, by show 0 ≤ 2; omega, by simp⟩
      rcases hp with hp | hp
      · obtain ⟨k1, ⟨k2, k3, k4, k5⟩, k6, k7⟩ := (name_iff hp).1 hm
        rw [if_pos hp]
        exact (head_iff rfl).2 ⟨k1, ⟨k2, rfl, rfl⟩, hlong, k7⟩
      · obtain ⟨k1, ⟨k2, k3, k4, k5⟩, k6, k7⟩ := (link_iff hp).1 hm
        rw [if_neg (by omega)]
        exact (head_iff rfl).2 ⟨k1, ⟨k2, rfl, rfl⟩, k7, hlong⟩
    · exact okay_no (by decide)
  split
  · rename_i hp
    obtain ⟨k1, ⟨k2, k3, k4, k5, k6, k7, k8, k9⟩, k10, k11⟩ := (data_iff hp).1 hm
    unfold dataS
    split
    · refine okay_go ⟨zeroS_may, Nat.le_refl 2, fun x hx => ?_⟩
      simp only [List.mem_cons, List.not_mem_nil, or_false] at hx
      rcases hx with rfl | rfl
      · exact okEv_data (by rw [List.length_take]; omega) (by rw [List.length_take]; omega)
      · exact okEv_over
    · refine okay_go ⟨(data_iff (s := { s with left := s.left - 512 }) hp).2 ⟨k1, ⟨k2, k3, k4, k5, k6, by show 1 ≤ s.left - 512; omega, by show s.left - 512 ≤ s.size; omega, by show (s.size - (s.left - 512)) % 512 = 0; omega⟩, k10, k11⟩, by show 1 ≤ 2; omega, fun x hx => ?_⟩
      rw [List.mem_singleton.1 hx]
      exact okEv_data (by rw [List.length_take]; omega) (by rw [List.length_take]; omega)
  · have hp : s.phase = 0 := by have := may_phase hm; omega
    obtain ⟨k1, ⟨k2, k3, k4⟩, k5, k6⟩ := (head_iff hp).1 hm
    unfold headS
    split
    · split
      · exact okay_go ⟨phS_may (.inl rfl), by show 0 ≤ 2; omega, by simp⟩
      · exact okay_no (by decide)
    split
    · rename_i h; exact okay_no h
    split
    · exact okay_no (by decide)
    split
    · exact node_okay s _ h0
    split
    · exact okay_no (by decide)
    · rename_i h1 h2 h3 h4 h5
      rw [not_or, not_or] at h5
      refine okay_go ⟨?_, by show 0 ≤ 2; omega, by simp⟩
      unfold typeB at h3
      simp only [Bool.or_eq_true, Bool.and_eq_true, decide_eq_true_eq, not_or, not_and, Decidable.not_not] at h3
      obtain ⟨-, -, g1, g2⟩ := h3
      by_cases hk : (getH b).ty = 75
      · exact (link_iff (by show (if (getH b).ty = 75 then (2 : Int) else 1) = 2; rw [if_pos hk])).2 ⟨k1, ⟨k2, by show 2 ≤ (getH b).size; omega, by show (getH b).size ≤ 301; omega, rfl⟩, g2 hk, k5⟩
      · have hl : (getH b).ty = 76 := Decidable.byContradiction fun h => h4 ⟨h, hk⟩
        exact (name_iff (by show (if (getH b).ty = 75 then (2 : Int) else 1) = 1; rw [if_neg hk])).2 ⟨k1, ⟨k2, by show 2 ≤ (getH b).size; omega, by show (getH b).size ≤ 301; omega, rfl⟩, g1 hl, k6⟩
end Go.Proofs.YtllnnlmhbmladaaGreatDoor.Parse

namespace Go.Proofs.YtllnnlmhbmladaaGreatDoor.Parse
open Go.Proofs.YtllnnlmhbmladaaGreatDoor.Node Go.Proofs.YtllnnlmhbmladaaGreatDoor.Head Go.Proofs.YtllnnlmhbmladaaGreatDoor.Long Go.Proofs.YtllnnlmhbmladaaGreatDoor.Entry
open Go.Proofs.YtllnnlmhbmladaaGreatDoor.Tree (oneB numsB kindB)

theorem getH_size (b : L) : 0 ≤ (getH b).size ∧ (getH b).size < 9223372036854775808 := by
  unfold getH
  split
  · exact getV_range _
  · exact ⟨Int.le_refl 0, by show (0 : Int) < 9223372036854775808; decide⟩
theorem step_ok (s : St) (b : L) : Okay s (stepS s b) := step_okay s b (getH_size b).1
theorem step_goes {s : St} {b : L} (h : (stepS s b).2.2 = 0) : Goes (stepS s b).1 (stepS s b).2.1 := by
  rcases step_ok s b with ⟨h1, -⟩ | ⟨-, h2⟩
  · exact absurd h h1
  · exact h2
/-! ### runs -/
theorem run_nil (s : St) : runS s [] = (s, [], 0, 0) := rfl
theorem run_bad {s : St} {b : L} (l : List L) (h : (stepS s b).2.2 ≠ 0) : runS s (b :: l) = (s, [], 0, (stepS s b).2.2) := by rw [runS, if_pos h]
theorem run_end {s : St} {b : L} (l : List L) (h : (stepS s b).2.2 = 0) (h5 : (stepS s b).1.phase = 5) : runS s (b :: l) = ((stepS s b).1, (stepS s b).2.1, 1, 0) := by rw [runS, if_neg (by simp [h]), if_pos h5]
theorem run_on {s : St} {b : L} (l : List L) (h : (stepS s b).2.2 = 0) (h5 : (stepS s b).1.phase ≠ 5) :
    runS s (b :: l) = ((runS (stepS s b).1 l).1, (stepS s b).2.1 ++ (runS (stepS s b).1 l).2.1, (runS (stepS s b).1 l).2.2.1 + 1, (runS (stepS s b).1 l).2.2.2) := by rw [runS, if_neg (by simp [h]), if_neg h5]
/-- What a run says. -/
structure RunF (s : St) (l : List L) (r : St × List Evt × Nat × Int) : Prop where
  ok : ∀ x ∈ r.2.1, okEv x
  len : r.2.1.length ≤ 2 * r.2.2.1
  n : r.2.2.1 ≤ l.length
  e : r.2.2.2 = 0 ∨ r.2.2.1 < l.length
  may : mayS s = true → mayS r.1 = true
theorem run_facts (l : List L) (s : St) : RunF s l (runS s l) := by
  induction l generalizing s with
  | nil => exact ⟨by simp [run_nil], by simp [run_nil], by simp [run_nil], .inl rfl, fun h => h⟩
  | cons b l ih =>
    by_cases h : (stepS s b).2.2 = 0
    · obtain ⟨g1, g2, g3⟩ := step_goes h
      by_cases h5 : (stepS s b).1.phase = 5
      · rw [run_end l h h5]
        exact ⟨g3, by show _ ≤ 2 * 1; omega, by show 1 ≤ l.length + 1; omega, .inl rfl, fun _ => g1⟩
      · have i := ih (stepS s b).1
        rw [run_on l h h5]
        refine ⟨fun x hx => ?_, ?_, ?_, ?_, fun _ => i.may g1⟩
        · rcases List.mem_append.1 hx with hx | hx
          · exact g3 x hx
          · exact i.ok x hx
        · have := i.len
          simp only [List.length_append]
          omega
        · have := i.n
          simp only [List.length_cons]
          omega
        · rcases i.e with e | e
          · exact .inl e
          · exact .inr (by simp only [List.length_cons]; omega)
    · rw [run_bad l h]
      exact ⟨by simp, by simp, by simp, .inr (by simp), fun h => h⟩
theorem run_more (a b : List L) (s : St) :
    runS s (a ++ b) = if (runS s a).2.2.2 ≠ 0 ∨ ((runS s a).1.phase = 5 ∧ 0 < (runS s a).2.2.1) then runS s a
      else ((runS (runS s a).1 b).1, (runS s a).2.1 ++ (runS (runS s a).1 b).2.1, (runS s a).2.2.1 + (runS (runS s a).1 b).2.2.1, (runS (runS s a).1 b).2.2.2) := by
  induction a generalizing s with
  | nil =>
    rw [run_nil, if_neg (by simp), List.nil_append]
    simp
  | cons c a ih =>
    rw [List.cons_append]
    by_cases h : (stepS s c).2.2 = 0
    · by_cases h5 : (stepS s c).1.phase = 5
      · rw [run_end (a ++ b) h h5, run_end a h h5, if_pos (.inr ⟨h5, by show 0 < 1; omega⟩)]
      · rw [run_on (a ++ b) h h5, run_on a h h5, ih]
        by_cases hc : (runS (stepS s c).1 a).2.2.2 ≠ 0 ∨ ((runS (stepS s c).1 a).1.phase = 5 ∧ 0 < (runS (stepS s c).1 a).2.2.1)
        · rw [if_pos hc, if_pos (hc.imp id fun h => ⟨h.1, by show 0 < _ + 1; omega⟩)]
        · rw [not_or] at hc
          obtain ⟨c1, c2⟩ := hc
          have c3 : ¬ ((runS (stepS s c).1 a).2.2.2 ≠ 0 ∨ ((runS (stepS s c).1 a).1.phase = 5 ∧ 0 < (runS (stepS s c).1 a).2.2.1)) := by rw [not_or]; exact ⟨c1, c2⟩
          by_cases hz : (runS (stepS s c).1 a).1.phase = 5
          · have hn : (runS (stepS s c).1 a).2.2.1 = 0 := by
              rcases Nat.eq_zero_or_pos (runS (stepS s c).1 a).2.2.1 with e | e
              · exact e
              · exact absurd ⟨hz, e⟩ c2
            -- none was taken: the list is empty, and the phase is that of the step
            exfalso
            cases a with
            | nil => exact h5 hz
            | cons y a =>
              by_cases hy : (stepS (stepS s c).1 y).2.2 = 0
              · by_cases hy5 : (stepS (stepS s c).1 y).1.phase = 5
                · rw [run_end a hy hy5] at hn
                  exact absurd hn (by show ¬ 1 = 0; omega)
                · rw [run_on a hy hy5] at hn
                  exact absurd hn (by show ¬ _ + 1 = 0; omega)
              · rw [run_bad a hy] at c1
                exact c1 hy
          · rw [if_neg c3, if_neg (by
              rintro (e | ⟨e, -⟩)
              · exact c1 e
              · exact hz e)]
            simp only [List.append_assoc, Prod.mk.injEq, true_and, and_true]
            omega
    · rw [run_bad (a ++ b) h, run_bad a h, if_pos (.inl h)]

/-! ### a node's blocks -/
theorem step_head {s : St} (hm : mayS s = true) (hp : s.phase = 0) {h : Hd} (h1 : mayH h = true) (h2 : SmallH h) : stepS s (blk h) = if typeB s h = true then (s, [], 5)
    else if h.ty ≠ 76 ∧ h.ty ≠ 75 then nodeS s h
    else if h.size < 2 ∨ 301 < h.size ∨ h ≠ longH h then (s, [], 2)
    else ({ s with phase := if h.ty = 75 then 2 else 1, size := h.size, left := h.size }, [], 0) := by
  have hl := blk_length h1 h2
  unfold stepS headS
  rw [if_neg (by rw [hm]; simp [hl]), if_neg (by omega), if_neg (by omega), if_neg (by omega), if_neg (by omega), code_blk h1 h2, get_blk h1 h2, if_neg (by decide), if_neg (by simp)]
/-- A long name's, or link's, two blocks. -/
theorem run_long {k : UInt8} {x : L} (hk : putOkL k x = true) {s : St} (hm : mayS s = true) (hp : s.phase = 0) (h75 : k = 75 → s.link = []) (h76 : k = 76 → s.name = []) (l : List L) :
    runS s (blk (llH k x) :: BlockM.blk (x ++ [0]) :: l) =
      ((runS (if k = 75 then { s with link := x } else { s with name := x }) l).1, (runS (if k = 75 then { s with link := x } else { s with name := x }) l).2.1,
        (runS (if k = 75 then { s with link := x } else { s with name := x }) l).2.2.1 + 2, (runS (if k = 75 then { s with link := x } else { s with name := x }) l).2.2.2) := by
  obtain ⟨hk2, ht⟩ := putOkL_iff.1 hk
  obtain ⟨t1, t2, t3⟩ := textL_iff.1 ht
  obtain ⟨m1, m2, m3⟩ := llH_ok hk
  obtain ⟨k1, ⟨k2, k3, k4⟩, k5, k6⟩ := (head_iff hp).1 hm
  have hty : typeB s (llH k x) = false := by
    unfold typeB
    rcases hk2 with rfl | rfl
    · simp [llH, h75 rfl]
    · simp [llH, h76 rfl]
  have hsz : (llH k x).size = (x.length : Int) + 1 := rfl
  have hs1 : stepS s (blk (llH k x)) = ({ s with phase := if k = 75 then 2 else 1, size := (x.length : Int) + 1, left := (x.length : Int) + 1 }, [], 0) := by
    rw [step_head hm hp m1 m2, if_neg (by simp [hty]), if_neg (by rw [m3]; rintro ⟨a, b⟩; rcases hk2 with e | e; exact b e; exact a e), if_neg (by
      rw [hsz]
      rintro (e | e | e)
      · omega
      · omega
      · exact e rfl), m3, hsz]
  obtain ⟨s1, hs⟩ : ∃ s1 : St, s1 = { s with phase := if k = 75 then 2 else 1, size := (x.length : Int) + 1, left := (x.length : Int) + 1 } := ⟨_, rfl⟩
  have hm1 : mayS s1 = true := by
    rw [hs]
    by_cases h : k = 75
    · exact (link_iff (by show (if k = 75 then (2 : Int) else 1) = 2; rw [if_pos h])).2 ⟨k1, ⟨k2, by show 2 ≤ (x.length : Int) + 1; omega, by show (x.length : Int) + 1 ≤ 301; omega, rfl⟩, h75 h, k5⟩
    · exact (name_iff (by show (if k = 75 then (2 : Int) else 1) = 1; rw [if_neg h])).2 ⟨k1, ⟨k2, by show 2 ≤ (x.length : Int) + 1; omega, by show (x.length : Int) + 1 ≤ 301; omega, rfl⟩, h76 (hk2.resolve_left h), k6⟩
  have hph : s1.phase = if k = 75 then 2 else 1 := by rw [hs]
  have hsn : s1.size.toNat - 1 = x.length := by
    rw [hs]
    show ((x.length : Int) + 1).toNat - 1 = x.length
    omega
  have hxb : BlockM.blk (x ++ [0]) = x ++ ([0] ++ BlockM.noughts (512 - (x ++ [0]).length)) := by
    unfold BlockM.blk
    rw [List.take_of_length_le (by simp; omega), List.append_assoc]
  have htake : (BlockM.blk (x ++ [0])).take x.length = x := by rw [hxb, List.take_left]
  have hdrop : BlockM.zeroV ((BlockM.blk (x ++ [0])).drop x.length) = true := by
    rw [hxb, List.drop_left]
    unfold BlockM.zeroV BlockM.noughts
    simp
  have hs2 : stepS s1 (BlockM.blk (x ++ [0])) = (if k = 75 then { s with link := x } else { s with name := x }, [], 0) := by
    unfold stepS
    rw [if_neg (by rw [hm1]; simp [BlockM.blk_length]), if_neg (by rw [hph]; split <;> decide), if_neg (by rw [hph]; split <;> decide), if_pos (by rw [hph]; split <;> simp)]
    unfold textS
    rw [hsn, htake, if_pos ⟨ht, hdrop⟩]
    by_cases h : k = 75
    · rw [if_pos h, if_neg (by rw [hph, if_pos h]; decide), hs]
      obtain ⟨a1, a2, a3, a4, a5, a6, a7⟩ := s
      simp only at hp k3 k4
      simp [hp, k3, k4]
    · rw [if_neg h, if_pos (by rw [hph, if_neg h]), hs]
      obtain ⟨a1, a2, a3, a4, a5, a6, a7⟩ := s
      simp only at hp k3 k4
      simp [hp, k3, k4]
  have e5 : (stepS s (blk (llH k x))).1.phase ≠ 5 := by
    rw [hs1]
    show (if k = 75 then (2 : Int) else 1) ≠ 5
    split <;> decide
  rw [run_on _ (by rw [hs1]) e5, hs1]
  simp only
  rw [← hs, run_on _ (by rw [hs2]) (by rw [hs2]; split <;> (show s.phase ≠ 5; omega)), hs2]
  simp

/-- A file's bytes, piece by piece. -/
def chunks : Nat → L → List L
  | 0, _ => []
  | k + 1, d => if d.length ≤ 512 then [d] else d.take 512 :: chunks k (d.drop 512)
def dataV (d : L) : List Evt := (chunks (BlockM.manyN d.length) d).map (fun c => ⟨1, zeroN, c⟩) ++ [⟨2, zeroN, []⟩]
theorem blk_take {d : L} (h : d.length ≤ 512) : (BlockM.blk d).take d.length = d := by
  unfold BlockM.blk
  rw [List.take_of_length_le h, List.take_left]
theorem blk_full {d : L} (h : 512 < d.length) : BlockM.blk d = d.take 512 := by
  unfold BlockM.blk
  rw [show 512 - d.length = 0 by omega]
  simp [BlockM.noughts]
theorem run_data (m : Nd) (size : Int) (k : Nat) (d : L) (hk : BlockM.manyN d.length = k) (hd : d ≠ []) (hm : mayS ⟨3, m, size, d.length, [], [], []⟩ = true) (l : List L) :
    runS ⟨3, m, size, d.length, [], [], []⟩ (BlockM.blks k d ++ l) = ((runS zeroS l).1, dataV d ++ (runS zeroS l).2.1, k + (runS zeroS l).2.2.1, (runS zeroS l).2.2.2) := by
  induction k generalizing d with
  | zero =>
    have := BlockM.manyN_le d.length
    exact absurd (List.eq_nil_of_length_eq_zero (by omega)) hd
  | succ k ih =>
    obtain ⟨k1, ⟨k2, k3, k4, k5, k6, k7, k8, k9⟩, k10, k11⟩ := (data_iff rfl).1 hm
    simp only at k2 k3 k4 k5 k6 k7 k8 k9
    rw [show BlockM.blks (k + 1) d = BlockM.blk d :: BlockM.blks k (d.drop 512) from rfl, List.cons_append]
    have hst : stepS ⟨3, m, size, d.length, [], [], []⟩ (BlockM.blk d) = dataS ⟨3, m, size, d.length, [], [], []⟩ (BlockM.blk d) := by
      unfold stepS
      rw [if_neg (by rw [hm]; simp [BlockM.blk_length]), if_neg (by simp), if_neg (by simp), if_neg (by simp), if_pos rfl]
    by_cases h : d.length ≤ 512
    · obtain rfl : k = 0 := by
        have := BlockM.manyN_small (n := d.length) (k := 1) (by omega)
        omega
      have hv : dataS ⟨3, m, size, d.length, [], [], []⟩ (BlockM.blk d) = (zeroS, [⟨1, zeroN, d⟩, ⟨2, zeroN, []⟩], 0) := by
        unfold dataS
        rw [if_pos (by show (d.length : Int) ≤ 512; omega)]
        simp only [Int.toNat_natCast, blk_take h]
      rw [hv] at hst
      have hdv : dataV d = [⟨1, zeroN, d⟩, ⟨2, zeroN, []⟩] := by
        unfold dataV
        rw [hk]
        simp [chunks, h]
      rw [run_on _ (by rw [hst]) (by rw [hst]; show (0 : Int) ≠ 5; decide), hst, hdv]
      simp only [BlockM.blks, List.nil_append, Prod.mk.injEq, true_and, and_true]
      omega
    · have hv : dataS ⟨3, m, size, d.length, [], [], []⟩ (BlockM.blk d) = (⟨3, m, size, ((d.drop 512).length : Int), [], [], []⟩, [⟨1, zeroN, d.take 512⟩], 0) := by
        unfold dataS
        rw [if_neg (by show ¬ (d.length : Int) ≤ 512; omega), blk_full (by omega)]
        have e : (d.length : Int) - 512 = ((d.drop 512).length : Int) := by rw [List.length_drop]; omega
        simp only [e, List.take_take, Nat.min_self]
      rw [hv] at hst
      have hdl : (d.drop 512).length = d.length - 512 := List.length_drop
      have hm2 : mayS ⟨3, m, size, ((d.drop 512).length : Int), [], [], []⟩ = true :=
        (data_iff rfl).2 ⟨rfl, ⟨k2, k3, k4, k5, k6, by show 1 ≤ ((d.drop 512).length : Int); omega, by show ((d.drop 512).length : Int) ≤ size; omega, by show (size - ((d.drop 512).length : Int)) % 512 = 0; omega⟩, rfl, rfl⟩
      have hk2 : BlockM.manyN (d.drop 512).length = k := by
        unfold BlockM.manyN at hk ⊢
        omega
      have hne : d.drop 512 ≠ [] := by
        intro e
        rw [e] at hdl
        simp at hdl
        omega
      have i := ih (d.drop 512) hk2 hne hm2
      have hdv : dataV d = ⟨1, zeroN, d.take 512⟩ :: dataV (d.drop 512) := by
        unfold dataV
        rw [hk, hk2]
        simp [chunks, h]
      rw [run_on _ (by rw [hst]) (by rw [hst]; show (3 : Int) ≠ 5; decide), hst]
      simp only
      rw [i, hdv]
      simp only [List.cons_append, List.nil_append, Prod.mk.injEq, true_and, and_true]
      omega

/-- A node without its bytes, and what is told of it. -/
def bare (n : Nd) : Nd := { n with data := [] }
def evsN (n : Nd) : List Evt := ⟨0, bare n, []⟩ :: (if n.data = [] then [⟨2, zeroN, []⟩] else dataV n.data)
theorem bare_one {n : Nd} (h : oneB n = true) : oneB (bare n) = true := by
  unfold oneB at h ⊢
  simp only [Bool.and_eq_true] at h ⊢
  obtain ⟨h1, h2, h3⟩ := h
  refine ⟨h1, h2, ?_⟩
  obtain ⟨p, l, k, mo, u, g, t, d⟩ := n
  unfold kindB at h3 ⊢
  simp only [bare] at h3 ⊢
  by_cases h48 : k = 48
  · subst h48; simp at h3 ⊢; exact h3.1
  by_cases h49 : k = 49
  · subst h49; simp at h3 ⊢; obtain ⟨a, b, rfl, rfl, rfl, rfl⟩ := h3; exact ⟨a, rfl, rfl, rfl, rfl⟩
  by_cases h50 : k = 50
  · subst h50; simp at h3 ⊢; exact h3.1
  by_cases h53 : k = 53
  · subst h53; simp at h3 ⊢; exact h3.1
  · simp [h48, h49, h50, h53] at h3
theorem bare_size {n : Nd} (h : oneB n = true) : n.data.length ≤ 4000 ∧ (n.data ≠ [] → n.kind = 48) := by
  have hf := (oneF h).data
  refine ⟨hf, fun hd => ?_⟩
  unfold oneB at h
  simp only [Bool.and_eq_true] at h
  obtain ⟨-, -, h3⟩ := h
  unfold kindB at h3
  refine Decidable.byContradiction fun hk => ?_
  rw [if_neg hk] at h3
  repeat' split at h3
  all_goals simp_all
theorem kind_mv {n : Nd} (h : oneB n = true) : n.kind ≠ 77 ∧ n.kind ≠ 86 := by
  unfold oneB at h
  simp only [Bool.and_eq_true] at h
  obtain ⟨-, -, h3⟩ := h
  unfold kindB at h3
  constructor <;> (intro e; rw [e] at h3; revert h3; simp)
/-- A node's header, behind what stands ahead of it. -/
theorem node_step {n : Nd} (h : oneB n = true) {s : St} (hm : mayS s = true) (hp : s.phase = 0) (hN : s.name = if needN n = true then n.path else []) (hL : s.link = if needL n = true then n.link else []) :
    stepS s (blk (headE n)) = (if n.data = [] then zeroS else ⟨3, bare n, (n.data.length : Int), (n.data.length : Int), [], [], []⟩, if n.data = [] then [⟨0, bare n, []⟩, ⟨2, zeroN, []⟩] else [⟨0, bare n, []⟩], 0) := by
  have h1 := head_may h
  have h2 := head_small h
  obtain ⟨hsz, h48⟩ := bare_size h
  have hk := kind_ne h
  have hF := oneF h
  have hpath := one_path h
  have hnode : nodeH s (headE n) = bare n := by
    unfold nodeH bare
    have e1 : (if s.name = [] then PathM.joinV (headE n).pre (headE n).name else s.name) = n.path := by
      by_cases hn : needN n = true
      · rw [hN, if_pos hn, if_neg (by intro e; rw [e] at hpath; revert hpath; decide)]
      · rw [hN, if_neg hn, if_pos rfl]
        have hb : PathM.splB n.path = true := by
          unfold needN at hn
          rw [hpath, Bool.true_and, Bool.not_eq_true', Bool.not_eq_false] at hn
          exact hn
        obtain ⟨-, e, -⟩ := PathM.split_facts hb
        show PathM.joinV (preV n) (nameV n) = n.path
        unfold preV nameV
        rw [if_neg hn]
        exact e
    have e2 : (if s.link = [] then (headE n).link else s.link) = n.link := by
      by_cases hl : needL n = true
      · rw [hL, if_pos hl, if_neg (by intro e; unfold needL at hl; rw [e] at hl; revert hl; decide)]
      · rw [hL, if_neg hl, if_pos rfl]
        show n.link.take 100 = n.link
        unfold needL at hl
        simp only [decide_eq_true_eq] at hl
        exact List.take_of_length_le (by omega)
    rw [e1, e2]
    rfl
  have hparts : partsB s (headE n) = true := by
    unfold partsB
    rw [Bool.and_eq_true]
    constructor
    · by_cases hn : needN n = true
      · obtain ⟨-, -, -, e⟩ := needN_facts hn
        rw [hN, if_pos hn]
        have e1 : (headE n).pre = [] := by show preV n = []; unfold preV; rw [e]
        have e2 : (headE n).name = n.path.take 100 := by show nameV n = _; unfold nameV; rw [if_pos hn]
        simp [e1, e2]
      · rw [hN, if_neg hn]; simp
    · by_cases hl : needL n = true
      · rw [hL, if_pos hl]
        have e2 : (headE n).link = n.link.take 100 := rfl
        simp [e2]
      · rw [hL, if_neg hl]; simp
  have hty : typeB s (headE n) = false := by
    obtain ⟨e1, e2⟩ := hk
    have e3 := (kind_mv h)
    unfold typeB
    simp [head_ty, e1, e2, e3.1, e3.2]
  have hs0 : (headE n).size = (n.data.length : Int) := rfl
  rw [step_head hm hp h1 h2, if_neg (by simp [hty]), if_pos ⟨by rw [head_ty]; exact hk.2, by rw [head_ty]; exact hk.1⟩]
  unfold nodeS
  rw [hnode, if_neg (by simp [hparts]), if_neg (by show ¬ PathM.mayB n.path = false; simp [hpath]), if_neg (by
    rw [bare_one h, hs0]
    rintro (e | e | ⟨e, e2⟩)
    · cases e
    · omega
    · exact e2 (h48 (by rintro e3; rw [e3] at e; simp at e))), hs0]
  by_cases hd : n.data = []
  · rw [if_pos hd, if_pos hd, if_pos (by simp [hd])]
  · rw [if_neg hd, if_neg hd, if_neg (by intro e; exact hd (List.eq_nil_of_length_eq_zero (by omega)))]
/-- A node's blocks are taken, and behind them it is as it was. -/
theorem run_node {n : Nd} (h : oneB n = true) (l : List L) : runS zeroS (putE n ++ l) = ((runS zeroS l).1, evsN n ++ (runS zeroS l).2.1, (putE n).length + (runS zeroS l).2.2.1, (runS zeroS l).2.2.2) := by
  have hdata : ∀ (s : St), mayS s = true → s.phase = 0 → s.name = (if needN n = true then n.path else []) → s.link = (if needL n = true then n.link else []) →
      runS s (blk (headE n) :: (BlockM.cutV n.data ++ l)) = ((runS zeroS l).1, evsN n ++ (runS zeroS l).2.1, (BlockM.manyN n.data.length + 1) + (runS zeroS l).2.2.1, (runS zeroS l).2.2.2) := by
    intro s hm hp hN hL
    have hst := node_step h hm hp hN hL
    obtain ⟨hsz, h48⟩ := bare_size h
    by_cases hd : n.data = []
    · rw [if_pos hd, if_pos hd] at hst
      have hcut : BlockM.cutV n.data = [] := by rw [hd]; rfl
      have hmn : BlockM.manyN n.data.length = 0 := by rw [hd]; rfl
      rw [run_on _ (by rw [hst]) (by rw [hst]; show (0 : Int) ≠ 5; decide), hst, hcut, hmn]
      unfold evsN
      rw [if_pos hd]
      simp only [List.nil_append, List.cons_append, Prod.mk.injEq, true_and, and_true]
      omega
    · rw [if_neg hd, if_neg hd] at hst
      have hpos : 0 < n.data.length := List.length_pos_iff.2 hd
      have hm2 : mayS ⟨3, bare n, (n.data.length : Int), n.data.length, [], [], []⟩ = true :=
        (data_iff rfl).2 ⟨rfl, ⟨bare_one h, h48 hd, rfl, by show 1 ≤ (n.data.length : Int); omega, by show (n.data.length : Int) ≤ 4000; omega, by show 1 ≤ (n.data.length : Int); omega, Int.le_refl _, by show ((n.data.length : Int) - (n.data.length : Int)) % 512 = 0; omega⟩, rfl, rfl⟩
      have hr := run_data (bare n) (n.data.length : Int) (BlockM.manyN n.data.length) n.data rfl hd hm2 l
      rw [run_on _ (by rw [hst]) (by rw [hst]; show (3 : Int) ≠ 5; decide), hst]
      simp only
      rw [show BlockM.cutV n.data = BlockM.blks (BlockM.manyN n.data.length) n.data from rfl, hr]
      unfold evsN
      rw [if_neg hd]
      simp only [List.nil_append, List.cons_append, Prod.mk.injEq, true_and, and_true]
      omega
  have hlen := putE_length h
  rw [ahead_length h] at hlen
  have hname : ∀ (s : St), mayS s = true → s.phase = 0 → s.name = [] → s.link = (if needL n = true then n.link else []) →
      runS s (tailE n ++ l) = ((runS zeroS l).1, evsN n ++ (runS zeroS l).2.1, ((if needN n = true then 2 else 0) + (BlockM.manyN n.data.length + 1)) + (runS zeroS l).2.2.1, (runS zeroS l).2.2.2) := by
    intro s hm hp hN hL
    unfold tailE aN
    by_cases hn : needN n = true
    · rw [if_pos hn, if_pos hn]
      obtain ⟨k1, ⟨k2, k3, k4⟩, k5, k6⟩ := (head_iff hp).1 hm
      have ht := may_text (one_path h)
      simp only [List.cons_append, List.nil_append]
      rw [run_long (name_ok hn) hm hp (fun e => absurd e (by decide)) (fun _ => hN), if_neg (by decide)]
      have hm2 : mayS { s with name := n.path } = true := (head_iff (s := { s with name := n.path }) hp).2 ⟨k1, ⟨k2, k3, k4⟩, longB_text ht, k6⟩
      rw [hdata _ hm2 hp (by show n.path = _; rw [if_pos hn]) hL]
      simp only [Prod.mk.injEq, true_and, and_true]
      omega
    · rw [if_neg hn, if_neg hn]
      simp only [List.cons_append, List.nil_append]
      rw [hdata s hm hp (by rw [hN, if_neg hn]) hL]
      simp only [Nat.zero_add]
  rw [putE_is h, List.append_assoc]
  unfold aL
  by_cases hl : needL n = true
  · rw [if_pos hl] at hlen ⊢
    have ht := (putOkL_iff.1 (link_ok h hl)).2
    simp only [List.cons_append, List.nil_append, List.length_cons]
    rw [run_long (link_ok h hl) zeroS_may rfl (fun _ => rfl) (fun _ => rfl), if_pos rfl]
    have hm2 : mayS { zeroS with link := n.link } = true := (head_iff (s := { zeroS with link := n.link }) rfl).2 ⟨rfl, ⟨rfl, rfl, rfl⟩, rfl, longB_text ht⟩
    rw [hname _ hm2 rfl rfl (by rw [if_pos hl])]
    rw [putE_is h] at hlen
    unfold aL at hlen
    rw [if_pos hl] at hlen
    simp only [List.cons_append, List.nil_append, List.length_cons] at hlen
    simp only [Prod.mk.injEq, true_and, and_true]
    omega
  · rw [if_neg hl] at hlen ⊢
    simp only [List.nil_append]
    rw [hname zeroS zeroS_may rfl rfl (by rw [if_neg hl]; rfl)]
    rw [putE_is h] at hlen
    unfold aL at hlen
    rw [if_neg hl] at hlen
    simp only [List.nil_append] at hlen
    simp only [Prod.mk.injEq, true_and, and_true]
    omega
end Go.Proofs.YtllnnlmhbmladaaGreatDoor.Parse

namespace Go.Proofs.YtllnnlmhbmladaaGreatDoor.Read
open Go.Proofs.YtllnnlmhbmladaaGreatDoor.Node Go.Proofs.YtllnnlmhbmladaaGreatDoor.Parse Go.Proofs.YtllnnlmhbmladaaGreatDoor.Entry Go.Proofs.YtllnnlmhbmladaaGreatDoor.Stream
open Go.Proofs.YtllnnlmhbmladaaGreatDoor.Tree (oneB kindB mayT)
abbrev L := List UInt8

/-- A node with more bytes behind its own. -/
def moreN (n : Nd) (d : L) : Nd := { n with data := n.data ++ d }
/-- What is gathered: the nodes that are over, the one that is open, and whether all was in order. -/
def goG : List Nd → Option Nd → List Evt → List Nd × Option Nd × Bool
  | ds, c, [] => (ds, c, true)
  | ds, none, x :: l => if x.kind = 0 then goG ds (some x.node) l else (ds, none, false)
  | ds, some n, x :: l => if x.kind = 1 then goG ds (some (moreN n x.data)) l else if x.kind = 2 then goG (ds ++ [n]) none l else (ds, some n, false)
def outG (ds : List Nd) (c : Option Nd) : List Nd := ds ++ c.toList
def gatherV (l : List Evt) : List Nd × Bool := (outG (goG [] none l).1 (goG [] none l).2.1, (goG [] none l).2.2)
def readV (l : List L) : List Nd × Int :=
  if (runS zeroS l).2.2.2 ≠ 0 then ([], (runS zeroS l).2.2.2)
  else if (runS zeroS l).1.phase ≠ 5 then ([], 7)
  else ((gatherV (runS zeroS l).2.1).1, 0)
/-! ### a tree's stream -/
theorem run_tree (t : List Nd) (h : ∀ n ∈ t, oneB n = true) (l : List L) :
    runS zeroS (blocksT t ++ l) = ((runS zeroS l).1, t.flatMap evsN ++ (runS zeroS l).2.1, (blocksT t).length + (runS zeroS l).2.2.1, (runS zeroS l).2.2.2) := by
  induction t with
  | nil => simp [blocksT]
  | cons n t ih =>
    rw [blocks_cons, List.append_assoc, run_node (h n (by simp)), ih (fun m hm => h m (by simp [hm]))]
    simp only [List.flatMap_cons, List.append_assoc, List.length_append, Prod.mk.injEq, true_and, and_true]
    omega
theorem run_ends (l : List L) : runS zeroS (endsV ++ l) = (phS 5, [], 2, 0) := by
  rw [endsV_is]
  obtain ⟨z, hz⟩ : ∃ z, Head.zeros 512 = z := ⟨_, rfl⟩
  rw [hz]
  have hl : z.length = 512 := by rw [← hz]; decide +kernel
  have hv : BlockM.zeroV z = true := by rw [← hz]; decide +kernel
  have hc : Head.codeB z = 4 := by
    unfold Head.codeB
    rw [if_pos hl, if_pos (by rw [← hz])]
  have e1 : stepS zeroS z = (phS 4, [], 0) := by
    unfold stepS headS
    rw [if_neg (by rw [zeroS_may]; simp [hl]), if_neg (by decide), if_neg (by decide), if_neg (by decide), if_neg (by decide), if_pos hc, if_pos ⟨rfl, rfl⟩]
  have e2 : stepS (phS 4) z = (phS 5, [], 0) := by
    unfold stepS
    rw [if_neg (by rw [phS_may (.inl rfl)]; simp [hl]), if_neg (by decide), if_pos (show (phS 4).phase = 4 from rfl), if_pos hv]
  simp only [List.cons_append, List.nil_append]
  rw [run_on _ (by rw [e1]) (by rw [e1]; decide), e1]
  simp only
  rw [run_end _ (by rw [e2]) (by rw [e2]; rfl), e2]
  rfl
theorem run_all {t : List Nd} (h : mayT t = true) (l : List L) : runS zeroS (allS t ++ l) = (phS 5, t.flatMap evsN, (allS t).length, 0) := by
  rw [allS_yes h, List.append_assoc, run_tree t (all_ones h), run_ends]
  simp [endsV_length]
theorem run_none {s : St} {l : List L} (h : (runS s l).2.2.1 = 0) : (runS s l).1 = s := by
  cases l with
  | nil => rfl
  | cons b l =>
    by_cases hb : (stepS s b).2.2 = 0
    · by_cases h5 : (stepS s b).1.phase = 5
      · rw [run_end l hb h5] at h
        exact absurd h (by show ¬ 1 = 0; omega)
      · rw [run_on l hb h5] at h
        exact absurd h (by show ¬ _ + 1 = 0; omega)
    · rw [run_bad l hb]
/-! ### each node that is read may be alone -/
theorem kind48 {n : Nd} (h : n.kind = 48) : kindB n = ((n.link == []) && decide (n.data.length ≤ 4000)) := by unfold kindB; rw [if_pos h]
theorem one_more {n : Nd} {m : Nd} (h : oneB m = true) (hk : m.kind = 48) (hb : bare n = m) (d : L) (hl : n.data.length + d.length ≤ 4000) : oneB (moreN n d) = true := by
  subst hb
  have hk2 : n.kind = 48 := hk
  unfold oneB at h ⊢
  rw [kind48 (n := bare n) hk] at h
  rw [kind48 (n := moreN n d) hk2]
  simp only [Bool.and_eq_true, decide_eq_true_eq] at h ⊢
  exact ⟨h.1, h.2.1, h.2.2.1, by show (n.data ++ d).length ≤ 4000; rw [List.length_append]; exact hl⟩
/-- What a parser's state says of what was gathered. -/
structure Inv (s : St) (ds : List Nd) (c : Option Nd) : Prop where
  may : mayS s = true
  ones : ∀ n ∈ ds, oneB n = true
  cur : match c with
    | none => s.phase ≠ 3
    | some n => s.phase = 3 ∧ bare n = s.node ∧ (n.data.length : Int) + s.left = s.size
theorem Inv.all {s : St} {ds : List Nd} {c : Option Nd} (h : Inv s ds c) : ∀ n ∈ outG ds c, oneB n = true := by
  intro n hn
  unfold outG at hn
  rcases List.mem_append.1 hn with hn | hn
  · exact h.ones n hn
  · cases c with
    | none => simp at hn
    | some m =>
      simp at hn
      subst hn
      obtain ⟨h1, h2, h3⟩ := h.cur
      obtain ⟨k1, ⟨k2, k3, k4, k5, k6, k7, k8, k9⟩, k10, k11⟩ := (data_iff h1).1 h.may
      have := one_more k2 k3 h2 [] (by simp; omega)
      simpa [moreN] using this
/-! ### events, and others behind them -/
/-! ### bytes of what is told -/
end Go.Proofs.YtllnnlmhbmladaaGreatDoor.Read

