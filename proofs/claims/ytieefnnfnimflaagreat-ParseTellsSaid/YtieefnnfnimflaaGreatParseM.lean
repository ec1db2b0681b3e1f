/-
  What package parse answers, as plain functions over states, blocks and lists of what is told: no Go, and no statement, is proved here.
-/
import Derived.Test.YtieefnnfnimflaaGreatEntryM
namespace Go.Proofs.YtieefnnfnimflaaGreat.Parse
open Go.Proofs.YtieefnnfnimflaaGreat.Node Go.Proofs.YtieefnnfnimflaaGreat.Head Go.Proofs.YtieefnnfnimflaaGreat.Long Go.Proofs.YtieefnnfnimflaaGreat.Entry
open Go.Proofs.YtieefnnfnimflaaGreat.Tree (oneB numsB kindB)
abbrev L := List UInt8

/-- A parser's state, and what it tells. -/
structure St where
  phase : Int
  node : Nd
  size : Int
  left : Int
  text : L
  name : L
  link : L
deriving DecidableEq
structure Evt where
  kind : Int
  node : Nd
  data : L
deriving DecidableEq
def zeroS : St := ⟨0, zeroN, 0, 0, [], [], []⟩
def phS (p : Int) : St := ⟨p, zeroN, 0, 0, [], [], []⟩
/-- What a step answers. -/
abbrev Ans := St × List Evt × Int

def longB (s : L) : Bool := decide (s = []) || textL s
def nilB (s : St) : Bool := decide (s.node = zeroN) && (decide (s.size = 0) && decide (s.left = 0))
def numB (s : St) : Bool := decide (s.node = zeroN) && (decide (2 ≤ s.size) && (decide (s.size ≤ 301) && decide (s.left = s.size)))
def fileB (s : St) : Bool := oneB s.node && (decide (s.node.kind = 48) && (decide (s.node.data = []) && (decide (1 ≤ s.size) && (decide (s.size ≤ 4000) && (decide (1 ≤ s.left) && (decide (s.left ≤ s.size) && decide ((s.size - s.left) % 512 = 0)))))))
/-- May a state be? -/
def mayS (s : St) : Bool :=
  decide (s.text = []) &&
    (if s.phase = 0 then nilB s && (longB s.name && longB s.link)
     else if s.phase = 1 then numB s && (decide (s.name = []) && longB s.link)
     else if s.phase = 2 then numB s && (decide (s.link = []) && longB s.name)
     else if s.phase = 3 then fileB s && (decide (s.name = []) && decide (s.link = []))
     else if s.phase = 4 ∨ s.phase = 5 then nilB s && (decide (s.name = []) && decide (s.link = []))
     else false)

/-- A node of a header. -/
def nodeH (s : St) (h : Hd) : Nd := ⟨if s.name = [] then PathM.joinV h.pre h.name else s.name, if s.link = [] then h.link else s.link, h.ty, h.mode, h.uid, h.gid, h.time, []⟩
def partsB (s : St) (h : Hd) : Bool := (decide (s.name = []) || (decide (h.pre = []) && decide (h.name = s.name.take 100))) && (decide (s.link = []) || decide (h.link = s.link.take 100))
def nodeS (s : St) (h : Hd) : Ans :=
  if partsB s h = false then (s, [], 2)
  else if PathM.mayB (nodeH s h).path = false then (s, [], 6)
  else if oneB (nodeH s h) = false ∨ 4000 < h.size ∨ (0 < h.size ∧ h.ty ≠ 48) then (s, [], 2)
  else if h.size = 0 then (zeroS, [⟨0, nodeH s h, []⟩, ⟨2, zeroN, []⟩], 0)
  else (⟨3, nodeH s h, h.size, h.size, [], [], []⟩, [⟨0, nodeH s h, []⟩], 0)
def longH (h : Hd) : Hd := ⟨llName, [], [], 0, 0, 0, h.size, 0, h.ty, 0, 0⟩
def typeB (s : St) (h : Hd) : Bool := decide (h.ty = 77) || (decide (h.ty = 86) || ((decide (h.ty = 76) && decide (s.name ≠ [])) || (decide (h.ty = 75) && decide (s.link ≠ []))))
def headS (s : St) (b : L) : Ans :=
  if codeB b = 4 then (if s.name = [] ∧ s.link = [] then (phS 4, [], 0) else (s, [], 2))
  else if codeB b ≠ 0 then (s, [], codeB b)
  else if typeB s (getH b) = true then (s, [], 5)
  else if (getH b).ty ≠ 76 ∧ (getH b).ty ≠ 75 then nodeS s (getH b)
  else if (getH b).size < 2 ∨ 301 < (getH b).size ∨ getH b ≠ longH (getH b) then (s, [], 2)
  else ({ s with phase := if (getH b).ty = 75 then 2 else 1, size := (getH b).size, left := (getH b).size }, [], 0)
def textS (s : St) (b : L) : Ans :=
  if textL (b.take (s.size.toNat - 1)) = true ∧ BlockM.zeroV (b.drop (s.size.toNat - 1)) = true then
    (if s.phase = 1 then { s with phase := 0, size := 0, left := 0, name := b.take (s.size.toNat - 1) } else { s with phase := 0, size := 0, left := 0, link := b.take (s.size.toNat - 1) }, [], 0)
  else (s, [], 2)
def dataS (s : St) (b : L) : Ans :=
  if s.left ≤ 512 then (zeroS, [⟨1, zeroN, b.take s.left.toNat⟩, ⟨2, zeroN, []⟩], 0) else ({ s with left := s.left - 512 }, [⟨1, zeroN, b.take 512⟩], 0)
def stepS (s : St) (b : L) : Ans :=
  if mayS s = false ∨ b.length ≠ 512 then (s, [], 1)
  else if s.phase = 5 then (s, [], 17)
  else if s.phase = 4 then (if BlockM.zeroV b = true then (phS 5, [], 0) else (s, [], 2))
  else if s.phase = 1 ∨ s.phase = 2 then textS s b
  else if s.phase = 3 then dataS s b
  else headS s b
def runS : St → List L → St × List Evt × Nat × Int
  | s, [] => (s, [], 0, 0)
  | s, b :: l =>
    if (stepS s b).2.2 ≠ 0 then (s, [], 0, (stepS s b).2.2)
    else if (stepS s b).1.phase = 5 then ((stepS s b).1, (stepS s b).2.1, 1, 0)
    else ((runS (stepS s b).1 l).1, (stepS s b).2.1 ++ (runS (stepS s b).1 l).2.1, (runS (stepS s b).1 l).2.2.1 + 1, (runS (stepS s b).1 l).2.2.2)

/-! ### what may be, phase by phase -/
theorem may_head {s : St} (h : s.phase = 0) : mayS s = (decide (s.text = []) && (nilB s && (longB s.name && longB s.link))) := by unfold mayS; rw [if_pos h]
theorem may_name {s : St} (h : s.phase = 1) : mayS s = (decide (s.text = []) && (numB s && (decide (s.name = []) && longB s.link))) := by
  unfold mayS
  rw [if_neg (by rw [h]; decide), if_pos h]
theorem may_link {s : St} (h : s.phase = 2) : mayS s = (decide (s.text = []) && (numB s && (decide (s.link = []) && longB s.name))) := by
  unfold mayS
  rw [if_neg (by rw [h]; decide), if_neg (by rw [h]; decide), if_pos h]
theorem may_data {s : St} (h : s.phase = 3) : mayS s = (decide (s.text = []) && (fileB s && (decide (s.name = []) && decide (s.link = [])))) := by
  unfold mayS
  rw [if_neg (by rw [h]; decide), if_neg (by rw [h]; decide), if_neg (by rw [h]; decide), if_pos h]
theorem may_over {s : St} (h : s.phase = 4 ∨ s.phase = 5) : mayS s = (decide (s.text = []) && (nilB s && (decide (s.name = []) && decide (s.link = [])))) := by
  unfold mayS
  rw [if_neg (by omega), if_neg (by omega), if_neg (by omega), if_neg (by omega), if_pos h]
theorem may_none {s : St} (h : s.phase < 0 ∨ 5 < s.phase) : mayS s = false := by
  unfold mayS
  rw [if_neg (by omega), if_neg (by omega), if_neg (by omega), if_neg (by omega), if_neg (by omega), Bool.and_false]
theorem may_phase {s : St} (h : mayS s = true) : 0 ≤ s.phase ∧ s.phase ≤ 5 := by
  by_cases h2 : s.phase < 0 ∨ 5 < s.phase
  · rw [may_none h2] at h; cases h
  · omega
theorem longB_nil : longB [] = true := by decide
theorem longB_text {s : L} (h : textL s = true) : longB s = true := by unfold longB; rw [h, Bool.or_true]
theorem longB_iff {s : L} : longB s = true ↔ s = [] ∨ textL s = true := by simp [longB]
theorem longB_len {s : L} (h : longB s = true) : s.length ≤ 300 := by
  rcases longB_iff.1 h with rfl | h
  · simp
  · exact (textL_iff.1 h).2.1
theorem nilB_iff {s : St} : nilB s = true ↔ s.node = zeroN ∧ s.size = 0 ∧ s.left = 0 := by simp [nilB]
theorem numB_iff {s : St} : numB s = true ↔ s.node = zeroN ∧ 2 ≤ s.size ∧ s.size ≤ 301 ∧ s.left = s.size := by simp [numB]
theorem fileB_iff {s : St} : fileB s = true ↔ oneB s.node = true ∧ s.node.kind = 48 ∧ s.node.data = [] ∧ 1 ≤ s.size ∧ s.size ≤ 4000 ∧ 1 ≤ s.left ∧ s.left ≤ s.size ∧ (s.size - s.left) % 512 = 0 := by simp [fileB]
theorem head_iff {s : St} (h : s.phase = 0) : mayS s = true ↔ s.text = [] ∧ (s.node = zeroN ∧ s.size = 0 ∧ s.left = 0) ∧ longB s.name = true ∧ longB s.link = true := by
  rw [may_head h]; simp only [Bool.and_eq_true, decide_eq_true_eq, nilB_iff]
theorem name_iff {s : St} (h : s.phase = 1) : mayS s = true ↔ s.text = [] ∧ (s.node = zeroN ∧ 2 ≤ s.size ∧ s.size ≤ 301 ∧ s.left = s.size) ∧ s.name = [] ∧ longB s.link = true := by
  rw [may_name h]; simp only [Bool.and_eq_true, decide_eq_true_eq, numB_iff]
theorem link_iff {s : St} (h : s.phase = 2) : mayS s = true ↔ s.text = [] ∧ (s.node = zeroN ∧ 2 ≤ s.size ∧ s.size ≤ 301 ∧ s.left = s.size) ∧ s.link = [] ∧ longB s.name = true := by
  rw [may_link h]; simp only [Bool.and_eq_true, decide_eq_true_eq, numB_iff]
theorem data_iff {s : St} (h : s.phase = 3) : mayS s = true ↔ s.text = [] ∧ (oneB s.node = true ∧ s.node.kind = 48 ∧ s.node.data = [] ∧ 1 ≤ s.size ∧ s.size ≤ 4000 ∧ 1 ≤ s.left ∧ s.left ≤ s.size ∧ (s.size - s.left) % 512 = 0) ∧ s.name = [] ∧ s.link = [] := by
  rw [may_data h]; simp only [Bool.and_eq_true, decide_eq_true_eq, fileB_iff]
theorem over_iff {s : St} (h : s.phase = 4 ∨ s.phase = 5) : mayS s = true ↔ s.text = [] ∧ (s.node = zeroN ∧ s.size = 0 ∧ s.left = 0) ∧ s.name = [] ∧ s.link = [] := by
  rw [may_over h]; simp only [Bool.and_eq_true, decide_eq_true_eq, nilB_iff]
theorem zeroS_may : mayS zeroS = true := by decide
theorem phS_may {p : Int} (h : p = 4 ∨ p = 5) : mayS (phS p) = true := (over_iff h).2 ⟨rfl, ⟨rfl, rfl, rfl⟩, rfl, rfl⟩

/-! ### what a step says -/
def okEv (x : Evt) : Prop := (x.kind = 0 → oneB x.node = true ∧ x.node.data = [] ∧ PathM.mayB x.node.path = true) ∧ (x.kind = 1 → 1 ≤ x.data.length ∧ x.data.length ≤ 512)
/-- A step that goes on: its state may be, and what is told is in order. -/
def Goes (t : St) (l : List Evt) : Prop := mayS t = true ∧ l.length ≤ 2 ∧ ∀ x ∈ l, okEv x
/-- A step's answer: it stays, or goes on. -/
def Okay (s : St) (a : Ans) : Prop := (a.2.2 ≠ 0 ∧ a.1 = s ∧ a.2.1 = []) ∨ (a.2.2 = 0 ∧ Goes a.1 a.2.1)
theorem okay_no {s : St} {e : Int} (h : e ≠ 0) : Okay s (s, [], e) := .inl ⟨h, rfl, rfl⟩
theorem okay_go {s t : St} {l : List Evt} (h : Goes t l) : Okay s (t, l, 0) := .inr ⟨rfl, h⟩
theorem one_path {n : Nd} (h : oneB n = true) : PathM.mayB n.path = true := by
  unfold oneB at h
  rw [Bool.and_eq_true] at h
  exact h.1
theorem okEv_over : okEv ⟨2, zeroN, []⟩ := ⟨fun h => absurd h (by decide), fun h => absurd h (by decide)⟩
theorem okEv_node {n : Nd} (h : oneB n = true) (hd : n.data = []) : okEv ⟨0, n, []⟩ := ⟨fun _ => ⟨h, hd, one_path h⟩, fun h => absurd h (by show ¬ (0 : Int) = 1; decide)⟩
theorem okEv_data {d : L} (h : 1 ≤ d.length) (h2 : d.length ≤ 512) : okEv ⟨1, zeroN, d⟩ := ⟨fun h => absurd h (by show ¬ (1 : Int) = 0; decide), fun _ => ⟨h, h2⟩⟩
theorem node_okay (s : St) (h : Hd) (h0 : 0 ≤ h.size) : Okay s (nodeS s h) := by
  unfold nodeS
  split
  · exact okay_no (by decide)
  split
  · exact okay_no (by decide)
  split
  · exact okay_no (by decide)
  rename_i hp hm ho
  rw [not_or, not_or, Bool.not_eq_false] at ho
  obtain ⟨h1, h2, h3⟩ := ho
  have hn := okEv_node h1 (show (nodeH s h).data = [] from rfl)
  split
  · refine okay_go ⟨zeroS_may, Nat.le_refl 2, fun x hx => ?_⟩
    simp only [List.mem_cons, List.not_mem_nil, or_false] at hx
    rcases hx with rfl | rfl
    · exact hn
    · exact okEv_over
  · rename_i hz
    refine okay_go ⟨(data_iff rfl).2 ⟨rfl, ⟨h1, ?_, rfl, by show 1 ≤ h.size; omega, by show h.size ≤ 4000; omega, by show 1 ≤ h.size; omega, Int.le_refl _, by show (h.size - h.size) % 512 = 0; omega⟩, rfl, rfl⟩, by show 1 ≤ 2; omega, fun x hx => ?_⟩
    · show h.ty = 48
      refine Decidable.byContradiction fun hk => h3 ⟨by omega, hk⟩
    · rw [List.mem_singleton.1 hx]
      exact hn
theorem step_okay (s : St) (b : L) (h0 : 0 ≤ (getH b).size) : Okay s (stepS s b) := by
  unfold stepS
  split
  · exact okay_no (by decide)
  rename_i hm
  rw [not_or, Bool.not_eq_false] at hm
  obtain ⟨hm, hb⟩ := hm
  have hb : b.length = 512 := Decidable.byContradiction hb
  split
  · exact okay_no (by decide)
  split
  · split
    · exact okay_go ⟨phS_may (.inr rfl), by show 0 ≤ 2; omega, by simp⟩
    · exact okay_no (by decide)
  split
  · rename_i hp
    unfold textS
    split
    · rename_i ht
      have hlong := longB_text ht.1
      refine okay_go ⟨?_, by show 0 ≤ 2; omega, by simp⟩
      rcases hp with hp | hp
      · obtain ⟨k1, ⟨k2, k3, k4, k5⟩, k6, k7⟩ := (name_iff hp).1 hm
        rw [if_pos hp]
        exact (head_iff rfl).2 ⟨k1, ⟨k2, rfl, rfl⟩, hlong, k7⟩
      · obtain ⟨k1, ⟨k2, k3, k4, k5⟩, k6, k7⟩ := (link_iff hp).1 hm
        rw [if_neg (by omega)]
        exact (head_iff rfl).2 ⟨k1, ⟨k2, rfl, rfl⟩, k7, hlong⟩
    · exact okay_no (by decide)
  split
  · rename_i hp
    obtain ⟨k1, ⟨k2, k3, k4, k5, k6, k7, k8, k9⟩, k10, k11⟩ := (data_iff hp).1 hm
    unfold dataS
    split
    · refine okay_go ⟨zeroS_may, Nat.le_refl 2, fun x hx => ?_⟩
      simp only [List.mem_cons, List.not_mem_nil, or_false] at hx
      rcases hx with rfl | rfl
      · exact okEv_data (by rw [List.length_take]; omega) (by rw [List.length_take]; omega)
      · exact okEv_over
    · refine okay_go ⟨(data_iff (s := { s with left := s.left - 512 }) hp).2 ⟨k1, ⟨k2, k3, k4, k5, k6, by show 1 ≤ s.left - 512; omega, by show s.left - 512 ≤ s.size; omega, by show (s.size - (s.left - 512)) % 512 = 0; omega⟩, k10, k11⟩, by show 1 ≤ 2; omega, fun x hx => ?_⟩
      rw [List.mem_singleton.1 hx]
      exact okEv_data (by rw [List.length_take]; omega) (by rw [List.length_take]; omega)
  · have hp : s.phase = 0 := by have := may_phase hm; omega
    obtain ⟨k1, ⟨k2, k3, k4⟩, k5, k6⟩ := (head_iff hp).1 hm
    unfold headS
    split
    · split
      · exact okay_go ⟨phS_may (.inl rfl), by show 0 ≤ 2; omega, by simp⟩
      · exact okay_no (by decide)
    split
    · rename_i h; exact okay_no h
    split
    · exact okay_no (by decide)
    split
    · exact node_okay s _ h0
    split
    · exact okay_no (by decide)
    · rename_i h1 h2 h3 h4 h5
      rw [not_or, not_or] at h5
      refine okay_go ⟨?_, by show 0 ≤ 2; omega, by simp⟩
      unfold typeB at h3
      simp only [Bool.or_eq_true, Bool.and_eq_true, decide_eq_true_eq, not_or, not_and, Decidable.not_not] at h3
      obtain ⟨-, -, g1, g2⟩ := h3
      by_cases hk : (getH b).ty = 75
      · exact (link_iff (by show (if (getH b).ty = 75 then (2 : Int) else 1) = 2; rw [if_pos hk])).2 ⟨k1, ⟨k2, by show 2 ≤ (getH b).size; omega, by show (getH b).size ≤ 301; omega, rfl⟩, g2 hk, k5⟩
      · have hl : (getH b).ty = 76 := Decidable.byContradiction fun h => h4 ⟨h, hk⟩
        exact (name_iff (by show (if (getH b).ty = 75 then (2 : Int) else 1) = 1; rw [if_neg hk])).2 ⟨k1, ⟨k2, by show 2 ≤ (getH b).size; omega, by show (getH b).size ≤ 301; omega, rfl⟩, g1 hl, k6⟩
end Go.Proofs.YtieefnnfnimflaaGreat.Parse
