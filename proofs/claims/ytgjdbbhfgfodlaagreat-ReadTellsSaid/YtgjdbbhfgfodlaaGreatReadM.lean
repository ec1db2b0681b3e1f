/-
  What package read answers, as plain functions over what is told and blocks, and what holds of it: no Go, and no statement, is proved here.
-/
import Derived.Test.YtgjdbbhfgfodlaaGreatParseM
import Derived.Test.YtgjdbbhfgfodlaaGreatStreamM
namespace Go.Proofs.YtgjdbbhfgfodlaaGreat.Read
open Go.Proofs.YtgjdbbhfgfodlaaGreat.Node Go.Proofs.YtgjdbbhfgfodlaaGreat.Parse Go.Proofs.YtgjdbbhfgfodlaaGreat.Entry Go.Proofs.YtgjdbbhfgfodlaaGreat.Stream
open Go.Proofs.YtgjdbbhfgfodlaaGreat.Tree (oneB kindB mayT)
abbrev L := List UInt8

/-- A node with more bytes behind its own. -/
def moreN (n : Nd) (d : L) : Nd := { n with data := n.data ++ d }
/-- What is gathered: the nodes that are over, the one that is open, and whether all was in order. -/
def goG : List Nd → Option Nd → List Evt → List Nd × Option Nd × Bool
  | ds, c, [] => (ds, c, true)
  | ds, none, x :: l => if x.kind = 0 then goG ds (some x.node) l else (ds, none, false)
  | ds, some n, x :: l => if x.kind = 1 then goG ds (some (moreN n x.data)) l else if x.kind = 2 then goG (ds ++ [n]) none l else (ds, some n, false)
def outG (ds : List Nd) (c : Option Nd) : List Nd := ds ++ c.toList
def gatherV (l : List Evt) : List Nd × Bool := (outG (goG [] none l).1 (goG [] none l).2.1, (goG [] none l).2.2)
def partV (l : List L) : List Nd × Int := ((gatherV (runS zeroS l).2.1).1, (runS zeroS l).2.2.2)
def readV (l : List L) : List Nd × Int :=
  if (runS zeroS l).2.2.2 ≠ 0 then ([], (runS zeroS l).2.2.2)
  else if (runS zeroS l).1.phase ≠ 5 then ([], 7)
  else ((gatherV (runS zeroS l).2.1).1, 0)
def usedV (l : List L) : Nat := (runS zeroS l).2.2.1

theorem go_nil (ds : List Nd) (c : Option Nd) : goG ds c [] = (ds, c, true) := by cases c <;> rfl
theorem go_more (a b : List Evt) (ds : List Nd) (c : Option Nd) :
    goG ds c (a ++ b) = if (goG ds c a).2.2 = true then goG (goG ds c a).1 (goG ds c a).2.1 b else goG ds c a := by
  induction a generalizing ds c with
  | nil => rw [go_nil, List.nil_append, if_pos rfl]
  | cons x a ih =>
    cases c with
    | none =>
      simp only [List.cons_append, goG]
      split
      · exact ih _ _
      · simp
    | some n =>
      simp only [List.cons_append, goG]
      split
      · exact ih _ _
      split
      · exact ih _ _
      · simp
theorem go_ext (l : List Evt) : ∀ ds : List Nd, (∃ r, outG (goG ds none l).1 (goG ds none l).2.1 = ds ++ r) ∧
    ∀ n, ∃ e r, outG (goG ds (some n) l).1 (goG ds (some n) l).2.1 = ds ++ moreN n e :: r := by
  induction l with
  | nil => intro ds; exact ⟨⟨[], by simp [goG, outG]⟩, fun n => ⟨[], [], by simp [goG, outG, moreN]⟩⟩
  | cons x l ih =>
    intro ds
    constructor
    · simp only [goG]
      split
      · obtain ⟨e, r, h⟩ := (ih ds).2 x.node
        exact ⟨_, h⟩
      · exact ⟨[], by simp [outG]⟩
    · intro n
      simp only [goG]
      split
      · obtain ⟨e, r, h⟩ := (ih ds).2 (moreN n x.data)
        exact ⟨x.data ++ e, r, by rw [h]; simp [moreN]⟩
      split
      · obtain ⟨r, h⟩ := (ih (ds ++ [n])).1
        exact ⟨[], r, by rw [h]; simp [moreN]⟩
      · exact ⟨[], [], by simp [outG, moreN]⟩
theorem go_ds (l : List Evt) : ∀ (ds : List Nd) (c : Option Nd), goG ds c l = (ds ++ (goG [] c l).1, (goG [] c l).2) := by
  induction l with
  | nil => intro ds c; rw [go_nil, go_nil]; simp
  | cons x l ih =>
    intro ds c
    cases c with
    | none =>
      simp only [goG]
      split
      · exact ih _ _
      · simp
    | some n =>
      simp only [goG]
      split
      · exact ih _ _
      split
      · rw [ih (ds ++ [n]), ih ([] ++ [n])]
        simp
      · simp

/-- The nodes t are the first ones of u, the last of them perhaps with fewer bytes. -/
structure Ext (t u : List Nd) : Prop where
  len : t.length ≤ u.length
  at_ : ∀ (i : Nat) (n m : Nd), t[i]? = some n → u[i]? = some m → n.data.length ≤ m.data.length ∧ n = { m with data := m.data.take n.data.length } ∧ (i + 1 < t.length → n = m)
theorem ext_pre (t r : List Nd) : Ext t (t ++ r) := by
  refine ⟨by simp, fun i n m hn hm => ?_⟩
  rw [List.getElem?_append_left (List.getElem?_eq_some_iff.1 hn).1, hn] at hm
  cases hm
  exact ⟨Nat.le_refl _, by simp, fun _ => rfl⟩
theorem ext_self (t : List Nd) : Ext t t := by
  have := ext_pre t []
  rwa [List.append_nil] at this
theorem ext_last (ds : List Nd) (n : Nd) (e : L) (r : List Nd) : Ext (ds ++ [n]) (ds ++ moreN n e :: r) := by
  refine ⟨by simp, fun i a b ha hb => ?_⟩
  by_cases hi : i < ds.length
  · rw [List.getElem?_append_left hi] at ha hb
    rw [ha] at hb
    cases hb
    exact ⟨Nat.le_refl _, by simp, fun _ => rfl⟩
  · rw [List.getElem?_append_right (by omega)] at ha hb
    obtain ⟨hl, -⟩ := List.getElem?_eq_some_iff.1 ha
    have h0 : i - ds.length = 0 := by simp at hl; omega
    rw [h0] at ha hb
    simp only [List.getElem?_cons_zero, Option.some.injEq] at ha hb
    subst ha hb
    refine ⟨by simp [moreN], by simp [moreN], fun h => ?_⟩
    simp only [List.length_append, List.length_cons, List.length_nil] at h
    omega
theorem ext_gather (a b : List Evt) : Ext (gatherV a).1 (gatherV (a ++ b)).1 := by
  unfold gatherV
  rw [go_more]
  by_cases h : (goG [] none a).2.2 = true
  · rw [if_pos h]
    generalize goG [] none a = q
    obtain ⟨ds, c, o⟩ := q
    simp only
    obtain ⟨h1, h2⟩ := go_ext b ds
    cases c with
    | none =>
      obtain ⟨r, h1⟩ := h1
      rw [h1]
      simpa [outG] using ext_pre ds r
    | some n =>
      obtain ⟨e, r, h2⟩ := h2 n
      rw [h2]
      simpa [outG] using ext_last ds n e r
  · rw [if_neg h]
    exact ext_self _

/-! ### a tree's stream -/
theorem go_chunks (cs : List L) : ∀ (ds : List Nd) (n : Nd) (l : List Evt), goG ds (some n) (cs.map (fun c => ⟨1, zeroN, c⟩) ++ l) = goG ds (some (moreN n cs.flatten)) l := by
  induction cs with
  | nil => intro ds n l; simp [moreN]
  | cons c cs ih =>
    intro ds n l
    simp only [List.map_cons, List.cons_append, goG]
    rw [if_pos trivial, ih]
    simp [moreN]
theorem go_node (n : Nd) (ds : List Nd) (l : List Evt) : goG ds none (evsN n ++ l) = goG (ds ++ [n]) none l := by
  unfold evsN
  rw [List.cons_append, goG, if_pos rfl]
  by_cases h : n.data = []
  · rw [if_pos h]
    have e : bare n = n := by unfold bare; rw [← h]
    simp only [List.cons_append, List.nil_append, goG]
    rw [if_neg (by decide), if_pos trivial, e]
  · rw [if_neg h]
    unfold dataV
    rw [List.append_assoc, go_chunks, chunks_flat _ _ (BlockM.manyN_le _)]
    simp only [List.cons_append, List.nil_append, goG]
    rw [if_neg (by decide), if_pos trivial]
    rfl
theorem go_tree (t : List Nd) : ∀ ds : List Nd, goG ds none (t.flatMap evsN) = (ds ++ t, none, true) := by
  induction t with
  | nil => intro ds; simp [goG]
  | cons n t ih =>
    intro ds
    rw [List.flatMap_cons, go_node, ih]
    simp
theorem gather_tree (t : List Nd) : gatherV (t.flatMap evsN) = (t, true) := by
  unfold gatherV
  rw [go_tree]
  simp [outG]
theorem run_tree (t : List Nd) (h : ∀ n ∈ t, oneB n = true) (l : List L) :
    runS zeroS (blocksT t ++ l) = ((runS zeroS l).1, t.flatMap evsN ++ (runS zeroS l).2.1, (blocksT t).length + (runS zeroS l).2.2.1, (runS zeroS l).2.2.2) := by
  induction t with
  | nil => simp [blocksT]
  | cons n t ih =>
    rw [blocks_cons, List.append_assoc, run_node (h n (by simp)), ih (fun m hm => h m (by simp [hm]))]
    simp only [List.flatMap_cons, List.append_assoc, List.length_append, Prod.mk.injEq, true_and, and_true]
    omega
theorem run_ends (l : List L) : runS zeroS (endsV ++ l) = (phS 5, [], 2, 0) := by
  rw [endsV_is]
  obtain ⟨z, hz⟩ : ∃ z, Head.zeros 512 = z := ⟨_, rfl⟩
  rw [hz]
  have hl : z.length = 512 := by rw [← hz]; decide +kernel
  have hv : BlockM.zeroV z = true := by rw [← hz]; decide +kernel
  have hc : Head.codeB z = 4 := by
    unfold Head.codeB
    rw [if_pos hl, if_pos (by rw [← hz])]
  have e1 : stepS zeroS z = (phS 4, [], 0) := by
    unfold stepS headS
    rw [if_neg (by rw [zeroS_may]; simp [hl]), if_neg (by decide), if_neg (by decide), if_neg (by decide), if_neg (by decide), if_pos hc, if_pos ⟨rfl, rfl⟩]
  have e2 : stepS (phS 4) z = (phS 5, [], 0) := by
    unfold stepS
    rw [if_neg (by rw [phS_may (.inl rfl)]; simp [hl]), if_neg (by decide), if_pos (show (phS 4).phase = 4 from rfl), if_pos hv]
  simp only [List.cons_append, List.nil_append]
  rw [run_on _ (by rw [e1]) (by rw [e1]; decide), e1]
  simp only
  rw [run_end _ (by rw [e2]) (by rw [e2]; rfl), e2]
  rfl
theorem run_all {t : List Nd} (h : mayT t = true) (l : List L) : runS zeroS (allS t ++ l) = (phS 5, t.flatMap evsN, (allS t).length, 0) := by
  rw [allS_yes h, List.append_assoc, run_tree t (all_ones h), run_ends]
  simp [endsV_length]
theorem read_all {t : List Nd} (h : mayT t = true) (l : List L) : readV (allS t ++ l) = (t, 0) ∧ usedV (allS t ++ l) = (allS t).length := by
  unfold readV usedV
  rw [run_all h, if_neg (by simp), if_neg (by simp [phS]), gather_tree]
  exact ⟨rfl, rfl⟩
theorem run_none {s : St} {l : List L} (h : (runS s l).2.2.1 = 0) : (runS s l).1 = s := by
  cases l with
  | nil => rfl
  | cons b l =>
    by_cases hb : (stepS s b).2.2 = 0
    · by_cases h5 : (stepS s b).1.phase = 5
      · rw [run_end l hb h5] at h
        exact absurd h (by show ¬ 1 = 0; omega)
      · rw [run_on l hb h5] at h
        exact absurd h (by show ¬ _ + 1 = 0; omega)
    · rw [run_bad l hb]
/-- A run over more blocks: the same, or it goes on. -/
theorem run_pre (a b : List L) : runS zeroS (a ++ b) = runS zeroS a ∨ ((runS zeroS a).2.2.2 = 0 ∧ (runS zeroS a).1.phase ≠ 5 ∧ ∃ r, (runS zeroS (a ++ b)).2.1 = (runS zeroS a).2.1 ++ r) := by
  rw [run_more]
  by_cases h : (runS zeroS a).2.2.2 ≠ 0 ∨ ((runS zeroS a).1.phase = 5 ∧ 0 < (runS zeroS a).2.2.1)
  · exact .inl (if_pos h)
  · rw [if_neg h]
    rw [not_or, Decidable.not_not] at h
    refine .inr ⟨h.1, fun h5 => ?_, _, rfl⟩
    rcases Nat.eq_zero_or_pos (runS zeroS a).2.2.1 with e | e
    · rw [run_none e] at h5
      exact absurd h5 (by decide)
    · exact h.2 ⟨h5, e⟩
theorem cut_all {t : List Nd} (h : mayT t = true) {k : Nat} (hk : k < (allS t).length) :
    (partV ((allS t).take k)).2 = 0 ∧ readV ((allS t).take k) = ([], 7) ∧ Ext (partV ((allS t).take k)).1 t := by
  have hr := run_all h []
  rw [List.append_nil] at hr
  have hp := run_pre ((allS t).take k) ((allS t).drop k)
  rw [List.take_append_drop, hr] at hp
  have hn := (run_facts ((allS t).take k) zeroS).n
  rw [List.length_take] at hn
  rcases hp with e | ⟨e1, e2, r, e3⟩
  · rw [← e] at hn
    simp only at hn
    omega
  · refine ⟨e1, ?_, ?_⟩
    · unfold readV
      rw [if_neg (by rw [e1]; decide), if_pos e2]
    · have := ext_gather (runS zeroS ((allS t).take k)).2.1 r
      rw [← e3, gather_tree] at this
      exact this
theorem goes_on (a b : List L) : Ext (partV a).1 (partV (a ++ b)).1 ∧ ((partV a).2 ≠ 0 → (partV (a ++ b)).1.length = (partV a).1.length) := by
  unfold partV
  rcases run_pre a b with e | ⟨e1, e2, r, e3⟩
  · rw [e]
    exact ⟨ext_self _, fun _ => rfl⟩
  · rw [e3]
    exact ⟨ext_gather _ _, fun h => absurd e1 h⟩

/-! ### each node that is read may be alone -/
theorem kind48 {n : Nd} (h : n.kind = 48) : kindB n = ((n.link == []) && decide (n.data.length ≤ 4000)) := by unfold kindB; rw [if_pos h]
theorem one_more {n : Nd} {m : Nd} (h : oneB m = true) (hk : m.kind = 48) (hb : bare n = m) (d : L) (hl : n.data.length + d.length ≤ 4000) : oneB (moreN n d) = true := by
  subst hb
  have hk2 : n.kind = 48 := hk
  unfold oneB at h ⊢
  rw [kind48 (n := bare n) hk] at h
  rw [kind48 (n := moreN n d) hk2]
  simp only [Bool.and_eq_true, decide_eq_true_eq] at h ⊢
  exact ⟨h.1, h.2.1, h.2.2.1, by show (n.data ++ d).length ≤ 4000; rw [List.length_append]; exact hl⟩
/-- What a parser's state says of what was gathered. -/
structure Inv (s : St) (ds : List Nd) (c : Option Nd) : Prop where
  may : mayS s = true
  ones : ∀ n ∈ ds, oneB n = true
  cur : match c with
    | none => s.phase ≠ 3
    | some n => s.phase = 3 ∧ bare n = s.node ∧ (n.data.length : Int) + s.left = s.size
theorem Inv.all {s : St} {ds : List Nd} {c : Option Nd} (h : Inv s ds c) : ∀ n ∈ outG ds c, oneB n = true := by
  intro n hn
  unfold outG at hn
  rcases List.mem_append.1 hn with hn | hn
  · exact h.ones n hn
  · cases c with
    | none => simp at hn
    | some m =>
      simp at hn
      subst hn
      obtain ⟨h1, h2, h3⟩ := h.cur
      obtain ⟨k1, ⟨k2, k3, k4, k5, k6, k7, k8, k9⟩, k10, k11⟩ := (data_iff h1).1 h.may
      have := one_more k2 k3 h2 [] (by simp; omega)
      simpa [moreN] using this
theorem inv_node {s : St} {ds : List Nd} {h : Head.Hd} {t : St} {y : List Evt} (hn : nodeS s h = (t, y, 0)) (h1 : ∀ n ∈ ds, oneB n = true) (ht : mayS t = true) : ∃ ds' c', goG ds none y = (ds', c', true) ∧ Inv t ds' c' := by
  unfold nodeS at hn
  split at hn
  · simp at hn
  split at hn
  · simp at hn
  split at hn
  · simp at hn
  rename_i ho
  rw [not_or, not_or, Bool.not_eq_false] at ho
  obtain ⟨ho, -, -⟩ := ho
  split at hn
  · simp only [Prod.mk.injEq, and_true] at hn
    obtain ⟨rfl, rfl⟩ := hn
    refine ⟨ds ++ [nodeH s h], none, by simp [goG], ht, fun n hn => ?_, by show (0 : Int) ≠ 3; decide⟩
    rcases List.mem_append.1 hn with hn | hn
    · exact h1 n hn
    · rw [List.mem_singleton.1 hn]
      exact ho
  · simp only [Prod.mk.injEq, and_true] at hn
    obtain ⟨rfl, rfl⟩ := hn
    exact ⟨ds, some (nodeH s h), by simp [goG], ht, h1, rfl, rfl, by simp [nodeH]⟩
theorem inv_step {s : St} {ds : List Nd} {c : Option Nd} {b : L} (h : Inv s ds c) (he : (stepS s b).2.2 = 0) :
    ∃ ds' c', goG ds c (stepS s b).2.1 = (ds', c', true) ∧ Inv (stepS s b).1 ds' c' := by
  have hg := (step_goes he).1
  obtain ⟨hm, hb⟩ := step_may he
  generalize hr : stepS s b = r at he hg
  obtain ⟨t, y, e⟩ := r
  simp only at he hg ⊢
  subst he
  obtain ⟨-, h1, h2⟩ := h
  unfold stepS at hr
  rw [if_neg (by rw [hm]; simp [hb])] at hr
  split at hr
  · simp at hr
  split at hr
  · rename_i h4
    have hc : c = none := by
      cases c with
      | none => rfl
      | some n => obtain ⟨h3, -⟩ := h2; omega
    subst hc
    split at hr
    · simp only [Prod.mk.injEq, and_true] at hr
      obtain ⟨rfl, rfl⟩ := hr
      exact ⟨ds, none, by simp [goG], hg, h1, by show (5 : Int) ≠ 3; decide⟩
    · simp at hr
  split at hr
  · rename_i h12
    have hc : c = none := by
      cases c with
      | none => rfl
      | some n => obtain ⟨h3, -⟩ := h2; omega
    subst hc
    unfold textS at hr
    split at hr
    · simp only [Prod.mk.injEq, and_true] at hr
      obtain ⟨ht, rfl⟩ := hr
      have hp0 : t.phase = 0 := by rw [← ht]; split <;> rfl
      refine ⟨ds, none, by simp [goG], hg, h1, ?_⟩
      show t.phase ≠ 3
      omega
    · simp at hr
  split at hr
  · rename_i h3
    obtain ⟨k1, ⟨k2, k3, k4, k5, k6, k7, k8, k9⟩, k10, k11⟩ := (data_iff h3).1 hm
    cases c with
    | none => exact absurd h3 h2
    | some n =>
      obtain ⟨-, g1, g2⟩ := h2
      unfold dataS at hr
      split at hr
      · simp only [Prod.mk.injEq, and_true] at hr
        obtain ⟨rfl, rfl⟩ := hr
        refine ⟨ds ++ [moreN n (b.take s.left.toNat)], none, by simp [goG], hg, fun m hm => ?_, by show (0 : Int) ≠ 3; decide⟩
        rcases List.mem_append.1 hm with hm | hm
        · exact h1 m hm
        · rw [List.mem_singleton.1 hm]
          exact one_more k2 k3 g1 _ (by rw [List.length_take]; omega)
      · simp only [Prod.mk.injEq, and_true] at hr
        obtain ⟨rfl, rfl⟩ := hr
        refine ⟨ds, some (moreN n (b.take 512)), by simp [goG], hg, h1, h3, g1, ?_⟩
        show ((n.data ++ b.take 512).length : Int) + (s.left - 512) = s.size
        rw [List.length_append, List.length_take]
        omega
  · rename_i h5 h4 h12 h3
    have hc : c = none := by
      cases c with
      | none => rfl
      | some n => obtain ⟨q, -⟩ := h2; exact absurd q h3
    subst hc
    unfold headS at hr
    split at hr
    · split at hr
      · simp only [Prod.mk.injEq, and_true] at hr
        obtain ⟨rfl, rfl⟩ := hr
        exact ⟨ds, none, by simp [goG], hg, h1, by show (4 : Int) ≠ 3; decide⟩
      · simp at hr
    split at hr
    · rename_i q
      simp only [Prod.mk.injEq] at hr
      exact absurd hr.2.2 q
    split at hr
    · simp at hr
    split at hr
    · exact inv_node hr h1 hg
    split at hr
    · simp at hr
    · simp only [Prod.mk.injEq, and_true] at hr
      obtain ⟨rfl, rfl⟩ := hr
      refine ⟨ds, none, by simp [goG], hg, h1, ?_⟩
      show (if (Head.getH b).ty = 75 then (2 : Int) else 1) ≠ 3
      split <;> decide
theorem inv_run (l : List L) : ∀ (s : St) (ds : List Nd) (c : Option Nd), Inv s ds c → ∀ n ∈ outG (goG ds c (runS s l).2.1).1 (goG ds c (runS s l).2.1).2.1, oneB n = true := by
  induction l with
  | nil => intro s ds c h; rw [run_nil, go_nil]; exact h.all
  | cons b l ih =>
    intro s ds c h
    by_cases hb : (stepS s b).2.2 = 0
    · obtain ⟨ds', c', hg, hi⟩ := inv_step h hb
      by_cases h5 : (stepS s b).1.phase = 5
      · rw [run_end l hb h5]
        simp only
        rw [hg]
        exact hi.all
      · rw [run_on l hb h5]
        simp only
        rw [go_more, hg, if_pos rfl]
        exact ih _ _ _ hi
    · rw [run_bad l hb, go_nil]
      exact h.all
theorem inv_zero : Inv zeroS [] none := ⟨zeroS_may, by simp, by decide⟩
theorem part_ones (l : List L) : ∀ n ∈ (partV l).1, oneB n = true := inv_run l zeroS [] none inv_zero
theorem read_part (l : List L) : ((readV l).2 = 0 → (partV l).2 = 0 ∧ (readV l).1 = (partV l).1) ∧ ((readV l).2 ≠ 0 → (readV l).1 = []) ∧ ((partV l).2 = 0 ∨ (readV l).2 = (partV l).2) := by
  unfold readV partV
  split
  · rename_i h
    exact ⟨fun q => absurd q h, fun _ => rfl, .inr rfl⟩
  · rename_i h
    rw [Decidable.not_not] at h
    split
    · exact ⟨fun q => absurd q (by show ¬ (7 : Int) = 0; decide), fun _ => rfl, .inl h⟩
    · exact ⟨fun _ => ⟨h, rfl⟩, fun q => absurd rfl q, .inl h⟩
theorem used_le (l : List L) : usedV l ≤ l.length := (run_facts l zeroS).n

/-! ### events, and others behind them -/
theorem go_closed (a : List Evt) (x : Evt) (hx : x.kind = 2) : ∀ (ds : List Nd) (c : Option Nd), (goG ds c (a ++ [x])).2.2 = true → (goG ds c (a ++ [x])).2.1 = none := by
  intro ds c h
  rw [go_more] at h ⊢
  by_cases q : (goG ds c a).2.2 = true
  · rw [if_pos q] at h ⊢
    generalize (goG ds c a).2.1 = o at h ⊢
    cases o with
    | none =>
      simp only [goG] at h ⊢
      rw [if_neg (by omega)] at h
      simp at h
    | some n =>
      simp only [goG] at h ⊢
      rw [if_neg (by omega), if_pos hx]
  · rw [if_neg q] at h
    exact absurd h q
theorem gathers (a b : List Evt) (h : ∀ x, a.getLast? = some x → x.kind = 2) :
    gatherV (a ++ b) = if (gatherV a).2 = true then ((gatherV a).1 ++ (gatherV b).1, (gatherV b).2) else gatherV a := by
  have hc : (goG [] none a).2.2 = true → (goG [] none a).2.1 = none := by
    rcases List.eq_nil_or_concat a with rfl | ⟨a', x, rfl⟩
    · simp [goG]
    · rw [List.concat_eq_append] at h ⊢
      exact go_closed a' x (h x (by simp)) [] none
  unfold gatherV
  rw [go_more]
  by_cases q : (goG [] none a).2.2 = true
  · rw [if_pos q, if_pos q, hc q, go_ds]
    simp [outG]
  · rw [if_neg q, if_neg q]

/-! ### bytes of what is told -/
/-- Of an event the bytes are few. -/
def BytesE (x : Evt) : Prop := x.data.length ≤ 1000000 ∧ x.node.data.length ≤ 1000000
theorem step_bytes (s : St) (b : L) : ∀ x ∈ (stepS s b).2.1, BytesE x := by
  have nodeB : ∀ h, ∀ x ∈ (nodeS s h).2.1, BytesE x := by
    intro h x hx
    unfold nodeS at hx
    split at hx
    · simp at hx
    split at hx
    · simp at hx
    split at hx
    · simp at hx
    split at hx
    · simp only [List.mem_cons, List.not_mem_nil, or_false] at hx
      rcases hx with rfl | rfl
      · exact ⟨by simp, by simp [nodeH]⟩
      · exact ⟨by simp, by simp [zeroN]⟩
    · rw [List.mem_singleton.1 hx]
      exact ⟨by simp, by simp [nodeH]⟩
  intro x hx
  unfold stepS at hx
  split at hx
  · simp at hx
  split at hx
  · simp at hx
  split at hx
  · split at hx <;> simp at hx
  split at hx
  · unfold textS at hx
    split at hx <;> simp at hx
  split at hx
  · unfold dataS at hx
    split at hx
    · simp only [List.mem_cons, List.not_mem_nil, or_false] at hx
      rcases hx with rfl | rfl
      · exact ⟨by rw [List.length_take]; omega, by simp [zeroN]⟩
      · exact ⟨by simp, by simp [zeroN]⟩
    · rw [List.mem_singleton.1 hx]
      exact ⟨by rw [List.length_take]; omega, by simp [zeroN]⟩
  · unfold headS at hx
    split at hx
    · split at hx <;> simp at hx
    split at hx
    · simp at hx
    split at hx
    · simp at hx
    split at hx
    · exact nodeB _ x hx
    split at hx <;> simp at hx
theorem run_bytes (l : List L) : ∀ s : St, ∀ x ∈ (runS s l).2.1, BytesE x := by
  induction l with
  | nil => intro s x hx; simp [run_nil] at hx
  | cons b l ih =>
    intro s x hx
    by_cases h : (stepS s b).2.2 = 0
    · by_cases h5 : (stepS s b).1.phase = 5
      · rw [run_end l h h5] at hx
        exact step_bytes s b x hx
      · rw [run_on l h h5] at hx
        rcases List.mem_append.1 hx with hx | hx
        · exact step_bytes s b x hx
        · exact ih _ x hx
    · rw [run_bad l h] at hx
      simp at hx
end Go.Proofs.YtgjdbbhfgfodlaaGreat.Read
