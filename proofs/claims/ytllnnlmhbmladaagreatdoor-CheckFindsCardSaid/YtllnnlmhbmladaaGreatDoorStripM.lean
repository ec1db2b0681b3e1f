/-
  Volumes as one stream again: plain functions over a parser's states and blocks, and what follows of them for a tree's volumes: no Go, and no statement, is proved here.
  Volumes as one stream again: what is told of one volume, and of several, as plain functions, and what follows for a tree's volumes: no Go, and no statement, is proved here.
  What one of a tree's volumes is at the place of another one, and what a spoilt one is: no Go, and no statement, is proved here.
-/
import Derived.Test.YtllnnlmhbmladaaGreatDoorVolM
import Derived.Test.YtllnnlmhbmladaaGreatDoorParseM
namespace Go.Proofs.YtllnnlmhbmladaaGreatDoor.StripM
open Go.Proofs.YtllnnlmhbmladaaGreatDoor.Node Go.Proofs.YtllnnlmhbmladaaGreatDoor.Head Go.Proofs.YtllnnlmhbmladaaGreatDoor.Long Go.Proofs.YtllnnlmhbmladaaGreatDoor.Entry Go.Proofs.YtllnnlmhbmladaaGreatDoor.ContM Go.Proofs.YtllnnlmhbmladaaGreatDoor.LabelM Go.Proofs.YtllnnlmhbmladaaGreatDoor.Stream Go.Proofs.YtllnnlmhbmladaaGreatDoor.VolM
open Go.Proofs.YtllnnlmhbmladaaGreatDoor.Tree (oneB mayT)
open Go.Proofs.YtllnnlmhbmladaaGreatDoor.Parse (runS stepS zeroS phS St)
set_option linter.unusedVariables false
abbrev L := List UInt8
abbrev LL := List (List UInt8)

/-! ### how a parser stands in the midst of a node's blocks -/
/-- The state behind a node's header. -/
def S3 (n : Nd) : St := if n.data = [] then zeroS else ⟨3, Parse.bare n, (n.data.length : Int), (n.data.length : Int), [], [], []⟩
theorem long_step {k : UInt8} {x : L} (hk : putOkL k x = true) {s : St} (hm : Parse.mayS s = true) (hp : s.phase = 0) (h75 : k = 75 → s.link = []) (h76 : k = 76 → s.name = []) :
    (stepS s (blk (llH k x))).2.2 = 0 ∧ (stepS s (blk (llH k x))).1.phase ≠ 3 ∧ (stepS s (blk (llH k x))).1.phase ≠ 5 := by
  obtain ⟨hk2, ht⟩ := putOkL_iff.1 hk
  obtain ⟨t1, t2, t3⟩ := textL_iff.1 ht
  obtain ⟨m1, m2, m3⟩ := llH_ok hk
  have hty : Parse.typeB s (llH k x) = false := by
    unfold Parse.typeB
    rcases hk2 with rfl | rfl
    · simp [llH, h75 rfl]
    · simp [llH, h76 rfl]
  have hsz : (llH k x).size = (x.length : Int) + 1 := rfl
  rw [Parse.step_head hm hp m1 m2, if_neg (by simp [hty]), if_neg (by rw [m3]; rintro ⟨a, b⟩; rcases hk2 with e | e; exact b e; exact a e), if_neg (by
      rw [hsz]
      rintro (e | e | e)
      · omega
      · omega
      · exact e rfl)]
  refine ⟨rfl, ?_, ?_⟩ <;> (show (if (llH k x).ty = 75 then (2 : Int) else 1) ≠ _; split <;> decide)
theorem run_one {s : St} {b : L} (h : (stepS s b).2.2 = 0) (h5 : (stepS s b).1.phase ≠ 5) : (runS s [b]).1 = (stepS s b).1 := by
  rw [Parse.run_on [] h h5, Parse.run_nil]
/-- Within what stands ahead of a long text's node. -/
theorem long_pre {k : UInt8} {x : L} (hk : putOkL k x = true) {s : St} (hm : Parse.mayS s = true) (hp : s.phase = 0) (h75 : k = 75 → s.link = []) (h76 : k = 76 → s.name = []) (l : LL) (i : Nat) :
    (i < 2 ∧ (runS s ((blk (llH k x) :: BlockM.blk (x ++ [0]) :: l).take i)).1.phase ≠ 3) ∨ (∃ j, i = j + 2 ∧ (runS s ((blk (llH k x) :: BlockM.blk (x ++ [0]) :: l).take i)).1 = (runS (if k = 75 then { s with link := x } else { s with name := x }) (l.take j)).1) := by
  match i with
  | 0 => exact .inl ⟨by omega, by rw [List.take_zero, Parse.run_nil, hp]; decide⟩
  | 1 =>
    obtain ⟨a, b, c⟩ := long_step hk hm hp h75 h76
    refine .inl ⟨by omega, ?_⟩
    rw [show (blk (llH k x) :: BlockM.blk (x ++ [0]) :: l).take 1 = [blk (llH k x)] from rfl, run_one a c]
    exact b
  | j + 2 =>
    refine .inr ⟨j, rfl, ?_⟩
    rw [List.take_succ_cons, List.take_succ_cons, Parse.run_long hk hm hp h75 h76]
theorem hdr_run {n : Nd} (h : oneB n = true) (l : LL) {s : St} (hm : Parse.mayS s = true) (hp : s.phase = 0) (hN : s.name = (if needN n = true then n.path else [])) (hL : s.link = (if needL n = true then n.link else [])) :
    (runS s (blk (headE n) :: l)).1 = (runS (S3 n) l).1 := by
  have hst := Parse.node_step h hm hp hN hL
  have h5 : (stepS s (blk (headE n))).1.phase ≠ 5 := by
    rw [hst]
    dsimp only
    split
    · exact (by decide : (0 : Int) ≠ 5)
    · exact (by decide : (3 : Int) ≠ 5)
  rw [Parse.run_on _ (by rw [hst]) h5, hst]
  rfl
/-- Ahead of a node's header no bytes come; behind it the state is S3. -/
theorem tail_pre {n : Nd} (h : oneB n = true) (l : LL) {s : St} (hm : Parse.mayS s = true) (hp : s.phase = 0) (hN : s.name = []) (hL : s.link = (if needL n = true then n.link else [])) (i : Nat) :
    (i ≤ (aN n).length ∧ (runS s ((aN n ++ blk (headE n) :: l).take i)).1.phase ≠ 3) ∨ (∃ j, i = (aN n).length + 1 + j ∧ (runS s ((aN n ++ blk (headE n) :: l).take i)).1 = (runS (S3 n) (l.take j)).1) := by
  have base : ∀ (s : St), Parse.mayS s = true → s.phase = 0 → s.name = (if needN n = true then n.path else []) → s.link = (if needL n = true then n.link else []) → ∀ i : Nat,
      (i = 0 ∧ (runS s ((blk (headE n) :: l).take i)).1.phase ≠ 3) ∨ (∃ j, i = 1 + j ∧ (runS s ((blk (headE n) :: l).take i)).1 = (runS (S3 n) (l.take j)).1) := by
    intro s hm hp hN hL i
    match i with
    | 0 => exact .inl ⟨rfl, by rw [List.take_zero, Parse.run_nil, hp]; decide⟩
    | j + 1 => exact .inr ⟨j, by omega, by rw [List.take_succ_cons, hdr_run h _ hm hp hN hL]⟩
  by_cases hn : needN n = true
  · obtain ⟨k1, ⟨k2, k3, k4⟩, k5, k6⟩ := (Parse.head_iff hp).1 hm
    have ht := may_text (Parse.one_path h)
    have ea : aN n = [blk (llH 76 n.path), BlockM.blk (n.path ++ [0])] := by rw [aN, if_pos hn]
    rw [ea]
    simp only [List.cons_append, List.nil_append, List.length_cons, List.length_nil]
    rcases long_pre (name_ok hn) hm hp (fun e => absurd e (by decide)) (fun _ => hN) (blk (headE n) :: l) i with ⟨a, b⟩ | ⟨j, rfl, e⟩
    · exact .inl ⟨by omega, b⟩
    · rw [e, if_neg (by decide)]
      have hm2 : Parse.mayS { s with name := n.path } = true := (Parse.head_iff (s := { s with name := n.path }) hp).2 ⟨k1, ⟨k2, k3, k4⟩, Parse.longB_text ht, k6⟩
      rcases base { s with name := n.path } hm2 hp (by show n.path = _; rw [if_pos hn]) hL j with ⟨rfl, b⟩ | ⟨j2, rfl, e2⟩
      · exact .inl ⟨by omega, b⟩
      · exact .inr ⟨j2, by omega, e2⟩
  · have ea : aN n = [] := by rw [aN, if_neg hn]
    rw [ea, List.nil_append, List.length_nil]
    rcases base s hm hp (by rw [hN, if_neg hn]) hL i with ⟨rfl, b⟩ | ⟨j, rfl, e⟩
    · exact .inl ⟨by omega, b⟩
    · exact .inr ⟨j, by omega, e⟩
theorem node_pre {n : Nd} (h : oneB n = true) (i : Nat) :
    (i ≤ (aheadV n).length ∧ (runS zeroS ((putE n).take i)).1.phase ≠ 3) ∨ (∃ j, i = (aheadV n).length + 1 + j ∧ (runS zeroS ((putE n).take i)).1 = (runS (S3 n) ((BlockM.cutV n.data).take j)).1) := by
  have hal : (aheadV n).length = (aL n).length + (aN n).length := by rw [ahead_is h, List.length_append]
  rw [putE_is h, hal]
  unfold tailE
  by_cases hl : needL n = true
  · have ht := (putOkL_iff.1 (link_ok h hl)).2
    have ea : aL n = [blk (llH 75 n.link), BlockM.blk (n.link ++ [0])] := by rw [aL, if_pos hl]
    rw [ea]
    simp only [List.cons_append, List.nil_append, List.length_cons, List.length_nil]
    rcases long_pre (link_ok h hl) Parse.zeroS_may rfl (fun _ => rfl) (fun _ => rfl) (aN n ++ blk (headE n) :: BlockM.cutV n.data) i with ⟨a, b⟩ | ⟨j, rfl, e⟩
    · exact .inl ⟨by omega, b⟩
    · rw [e, if_pos rfl]
      have hm2 : Parse.mayS { zeroS with link := n.link } = true := (Parse.head_iff (s := { zeroS with link := n.link }) rfl).2 ⟨rfl, ⟨rfl, rfl, rfl⟩, rfl, Parse.longB_text ht⟩
      rcases tail_pre h (BlockM.cutV n.data) hm2 rfl rfl (by rw [if_pos hl]) j with ⟨a, b⟩ | ⟨j2, rfl, e2⟩
      · exact .inl ⟨by omega, b⟩
      · exact .inr ⟨j2, by omega, e2⟩
  · have ea : aL n = [] := by rw [aL, if_neg hl]
    rw [ea, List.nil_append, List.length_nil]
    rcases tail_pre h (BlockM.cutV n.data) Parse.zeroS_may rfl rfl (by rw [if_neg hl]; rfl) i with ⟨a, b⟩ | ⟨j, rfl, e⟩
    · exact .inl ⟨by omega, b⟩
    · exact .inr ⟨j, by omega, e⟩
/-- Among a file's bytes. -/
theorem data_pre (m : Nd) (size : Int) : ∀ (ds : LL) (left : Int), (∀ b ∈ ds, b.length = 512) → 512 * (ds.length : Int) < left → Parse.mayS ⟨3, m, size, left, [], [], []⟩ = true →
    (runS ⟨3, m, size, left, [], [], []⟩ ds).1 = ⟨3, m, size, left - 512 * (ds.length : Int), [], [], []⟩
  | [], left, _, _, _ => by
    rw [Parse.run_nil]
    simp
  | b :: ds, left, hb, hlt, hm => by
    obtain ⟨k1, ⟨k2, k3, k4, k5, k6, k7, k8, k9⟩, k10, k11⟩ := (Parse.data_iff rfl).1 hm
    simp only at k2 k3 k4 k5 k6 k7 k8 k9
    rw [List.length_cons] at hlt
    have hst : stepS ⟨3, m, size, left, [], [], []⟩ b = (⟨3, m, size, left - 512, [], [], []⟩, [⟨1, zeroN, b.take 512⟩], 0) := by
      unfold Parse.stepS
      rw [if_neg (by rw [hm]; simp [hb b (by simp)]), if_neg (by simp), if_neg (by simp), if_neg (by simp), if_pos rfl]
      unfold Parse.dataS
      rw [if_neg (by show ¬ left ≤ 512; omega)]
    have hm2 : Parse.mayS ⟨3, m, size, left - 512, [], [], []⟩ = true :=
      (Parse.data_iff rfl).2 ⟨rfl, ⟨k2, k3, k4, k5, k6, by show 1 ≤ left - 512; omega, by show left - 512 ≤ size; omega, by show (size - (left - 512)) % 512 = 0; omega⟩, rfl, rfl⟩
    rw [Parse.run_on _ (by rw [hst]) (by rw [hst]; show (3 : Int) ≠ 5; decide), hst]
    simp only
    rw [data_pre m size ds (left - 512) (fun c hc => hb c (by simp [hc])) (by omega) hm2, List.length_cons]
    congr 1
    omega
/-- How a parser stands in the midst of a node's blocks. -/
theorem node_at {n : Nd} (h : oneB n = true) {i : Nat} (hi : i < (putE n).length) :
    (0 ≤ ownV n i → (runS zeroS ((putE n).take i)).1 = ⟨3, Parse.bare n, (n.data.length : Int), (n.data.length : Int) - 512 * ownV n i, [], [], []⟩) ∧ (ownV n i < 0 → (runS zeroS ((putE n).take i)).1.phase ≠ 3) := by
  have hlen := putE_length h
  have hd : dataE n = BlockM.manyN n.data.length := by rw [dataE, if_pos h]
  rcases node_pre h i with ⟨a, b⟩ | ⟨j, rfl, e⟩
  · have ho : ownV n i = -1 := by
      rw [ownV, if_pos (by omega)]
    rw [ho]
    exact ⟨fun h0 => absurd h0 (by decide), fun _ => b⟩
  · have ho : ownV n ((aheadV n).length + 1 + j) = (j : Int) := by
      rw [ownV, if_neg (by omega)]
      omega
    rw [ho]
    refine ⟨fun _ => ?_, fun h0 => by omega⟩
    rw [e]
    have hj : j < BlockM.manyN n.data.length := by omega
    have hml := BlockM.manyN_lt n.data.length
    have hne : n.data ≠ [] := by
      intro e0
      rw [e0] at hj
      exact absurd hj (by show ¬ j < 0; omega)
    obtain ⟨hsz, h48⟩ := Parse.bare_size h
    have hpos : 0 < n.data.length := List.length_pos_iff.2 hne
    have hm2 : Parse.mayS ⟨3, Parse.bare n, (n.data.length : Int), (n.data.length : Int), [], [], []⟩ = true :=
      (Parse.data_iff rfl).2 ⟨rfl, ⟨Parse.bare_one h, h48 hne, rfl, by show 1 ≤ (n.data.length : Int); omega, by show (n.data.length : Int) ≤ 4000; omega, by show 1 ≤ (n.data.length : Int); omega, Int.le_refl _, by show ((n.data.length : Int) - (n.data.length : Int)) % 512 = 0; omega⟩, rfl, rfl⟩
    have hcl : ((BlockM.cutV n.data).take j).length = j := by rw [List.length_take, BlockM.cutV_length]; omega
    rw [S3, if_neg hne, data_pre _ _ _ _ (fun b hb => BlockM.mayV_iff.1 (BlockM.cutV_may n.data) b (List.mem_of_mem_take hb)) (by rw [hcl]; omega) hm2, hcl]

/-! ### how it stands in the midst of a tree's stream -/
def stA (t : List Nd) (pos : Nat) : St := (runS zeroS ((allS t).take pos)).1
structure AtF (t : List Nd) (pos : Nat) : Prop where
  e : (runS zeroS ((allS t).take pos)).2.2.2 = 0
  n : (runS zeroS ((allS t).take pos)).2.2.1 = pos
  may : Parse.mayS (stA t pos) = true
  ph : pos < (allS t).length → (stA t pos).phase ≠ 5
  over : pos = (allS t).length → stA t pos = phS 5
theorem at_f {t : List Nd} (ht : mayT t = true) {pos : Nat} (h : pos ≤ (allS t).length) : AtF t pos := by
  have hm : Parse.mayS (stA t pos) = true := (Parse.run_facts _ _).may Parse.zeroS_may
  have hr := Read.run_all ht []
  rw [List.append_nil] at hr
  by_cases he : pos = (allS t).length
  · subst he
    have : (allS t).take (allS t).length = allS t := List.take_length
    refine ⟨by rw [this, hr], by rw [this, hr], hm, fun h => absurd h (Nat.lt_irrefl _), fun _ => by rw [stA, this, hr]⟩
  · have hk : pos < (allS t).length := by omega
    have hn := (Parse.run_facts ((allS t).take pos) zeroS).n
    have hmore := Parse.run_more ((allS t).take pos) ((allS t).drop pos) zeroS
    rw [List.take_append_drop, hr] at hmore
    rw [List.length_take] at hn
    by_cases hc : (runS zeroS ((allS t).take pos)).2.2.2 ≠ 0 ∨ ((runS zeroS ((allS t).take pos)).1.phase = 5 ∧ 0 < (runS zeroS ((allS t).take pos)).2.2.1)
    · rw [if_pos hc] at hmore
      rw [← hmore] at hn
      dsimp only at hn
      omega
    · rw [if_neg hc] at hmore
      simp only [Prod.mk.injEq] at hmore
      obtain ⟨-, -, h3, h4⟩ := hmore
      have hn2 := (Parse.run_facts ((allS t).drop pos) (runS zeroS ((allS t).take pos)).1).n
      rw [List.length_drop] at hn2
      rw [not_or, Decidable.not_not] at hc
      refine ⟨hc.1, by omega, hm, fun _ h5 => ?_, fun e => absurd e he⟩
      rcases Nat.eq_zero_or_pos (runS zeroS ((allS t).take pos)).2.2.1 with e | e
      · have : (runS zeroS ((allS t).take pos)).1 = zeroS := Read.run_none e
        rw [stA, this] at h5
        exact absurd h5 (by decide)
      · exact hc.2 ⟨h5, e⟩
/-- From one place to a later one. -/
theorem run_go {t : List Nd} (ht : mayT t = true) {p q : Nat} (hp : p ≤ q) (hq : q ≤ (allS t).length) (hpN : p < (allS t).length) :
    ∃ y, runS (stA t p) (((allS t).drop p).take (q - p)) = (stA t q, y, q - p, 0) := by
  have f := at_f ht (Nat.le_of_lt hpN)
  have g := at_f ht hq
  have hmore := Parse.run_more ((allS t).take p) (((allS t).drop p).take (q - p)) zeroS
  have e : (allS t).take p ++ ((allS t).drop p).take (q - p) = (allS t).take q := by
    rw [← List.take_add, show p + (q - p) = q by omega]
  rw [e, if_neg (by
    rw [f.e]
    rintro (h | ⟨h, -⟩)
    · exact h rfl
    · exact f.ph hpN h)] at hmore
  have h1 := congrArg (fun r => r.1) hmore
  have h2 := congrArg (fun r => r.2.2.1) hmore
  have h3 := congrArg (fun r => r.2.2.2) hmore
  dsimp only at h1 h2 h3
  rw [g.n, f.n] at h2
  rw [g.e] at h3
  refine ⟨(runS (stA t p) (((allS t).drop p).take (q - p))).2.1, ?_⟩
  have a1 : (runS (stA t p) (((allS t).drop p).take (q - p))).1 = stA t q := h1.symm
  have a2 : (runS (stA t p) (((allS t).drop p).take (q - p))).2.2.1 = q - p := by
    show (runS (runS zeroS ((allS t).take p)).1 _).2.2.1 = _
    omega
  have a3 : (runS (stA t p) (((allS t).drop p).take (q - p))).2.2.2 = 0 := h3.symm
  exact Prod.ext a1 (Prod.ext rfl (Prod.ext a2 a3))
/-- To the end, and whatever stands behind. -/
theorem run_over {t : List Nd} (ht : mayT t = true) {p : Nat} (hpN : p < (allS t).length) (l : LL) : ∃ y, runS (stA t p) ((allS t).drop p ++ l) = (phS 5, y, (allS t).length - p, 0) := by
  have f := at_f ht (Nat.le_of_lt hpN)
  have hmore := Parse.run_more ((allS t).take p) ((allS t).drop p ++ l) zeroS
  rw [← List.append_assoc, List.take_append_drop, Read.run_all ht, if_neg (by
    rw [f.e]
    rintro (h | ⟨h, -⟩)
    · exact h rfl
    · exact f.ph hpN h)] at hmore
  have h1 := congrArg (fun r => r.1) hmore
  have h2 := congrArg (fun r => r.2.2.1) hmore
  have h3 := congrArg (fun r => r.2.2.2) hmore
  dsimp only at h1 h2 h3
  rw [f.n] at h2
  refine ⟨(runS (stA t p) ((allS t).drop p ++ l)).2.1, ?_⟩
  have a1 : (runS (stA t p) ((allS t).drop p ++ l)).1 = phS 5 := h1.symm
  have a2 : (runS (stA t p) ((allS t).drop p ++ l)).2.2.1 = (allS t).length - p := by
    show (runS (runS zeroS ((allS t).take p)).1 _).2.2.1 = _
    omega
  have a3 : (runS (stA t p) ((allS t).drop p ++ l)).2.2.2 = 0 := h3.symm
  rw [← a1, ← a2, ← a3]
/-- At a file's bytes the state tells the file, and how many are left; else none. -/
theorem state_at {t : List Nd} (ht : mayT t = true) {i : Nat} (hi : i < (allS t).length) :
    (0 ≤ (whereL t 0 i).2 → ∃ (k : Nat) (n : Nd), t[k]? = some n ∧ (whereL t 0 i).1 = (k : Int) ∧ goesOn t i = putC n (512 * (whereL t 0 i).2) ∧ mayC n (512 * (whereL t 0 i).2) = true ∧
      stA t i = ⟨3, Parse.bare n, (n.data.length : Int), (n.data.length : Int) - 512 * (whereL t 0 i).2, [], [], []⟩) ∧ ((whereL t 0 i).2 < 0 → (stA t i).phase ≠ 3) := by
  have hall := allS_yes ht
  have hse := start_end t
  by_cases hs : i < startN t t.length
  · obtain ⟨k, n, hk, h1, h2⟩ := place t i hs
    have hw := whereL_in hk h1 h2
    have ho := Tree.may_one ht hk
    have hst := start_step hk
    have hklt := (List.getElem?_eq_some_iff.1 hk).1
    have htake : (allS t).take i = blocksT (t.take k) ++ (putE n).take (i - startN t k) := by
      have hb : blocksT t = blocksT (t.take k) ++ (putE n ++ blocksT (t.drop (k + 1))) := by
        have e : t = t.take k ++ n :: t.drop (k + 1) := by
          have := List.take_append_drop k t
          rw [List.drop_eq_getElem_cons hklt] at this
          have e2 : t[k] = n := (List.getElem?_eq_some_iff.1 hk).2
          rw [e2] at this
          exact this.symm
        conv => lhs; rw [e]
        rw [blocks_append, blocks_cons]
      have hsk : (blocksT (t.take k)).length = startN t k := rfl
      rw [hall, hb, List.append_assoc, List.take_append, hsk, List.take_of_length_le (by rw [hsk]; exact h1), List.append_assoc, List.take_append_of_le_length (by omega)]
    have hst2 : stA t i = (runS zeroS ((putE n).take (i - startN t k))).1 := by
      rw [stA, htake, Read.run_tree _ (fun m hm => Stream.all_ones ht m (List.mem_of_mem_take hm))]
    obtain ⟨na, nb⟩ := node_at ho (i := i - startN t k) (by omega)
    refine ⟨fun h0 => ?_, fun h0 => ?_⟩
    · obtain ⟨k2, n2, hk2, e1, e2, e3, -⟩ := goes_get ht h0
      rw [hw] at h0 e1 e2 e3 ⊢
      dsimp only at h0 e1 e2 e3 ⊢
      obtain rfl : k = k2 := by omega
      rw [hk] at hk2
      cases hk2
      exact ⟨k, n, hk, rfl, e2, e3, by rw [hst2, na h0]⟩
    · rw [hw] at h0
      dsimp only at h0
      rw [hst2]
      exact nb h0
  · rw [whereL_out (by omega)]
    refine ⟨fun (h0 : (0 : Int) ≤ -1) => absurd h0 (by decide), fun _ => ?_⟩
    have hl : (allS t).length = (blocksT t).length + 2 := by rw [hall, List.length_append, endsV_length]
    have htake : (allS t).take i = blocksT t ++ endsV.take (i - (blocksT t).length) := by
      rw [hall, List.take_append, List.take_of_length_le (by omega)]
    have hst2 : stA t i = (runS zeroS (endsV.take (i - (blocksT t).length))).1 := by
      rw [stA, htake, Read.run_tree _ (Stream.all_ones ht)]
    have hc : i - (blocksT t).length = 0 ∨ i - (blocksT t).length = 1 := by omega
    rcases hc with e | e
    · rw [hst2, e, List.take_zero, Parse.run_nil]
      exact (by decide : (0 : Int) ≠ 3)
    · rw [hst2, e, endsV_is, List.take_succ_cons, List.take_zero]
      obtain ⟨z, hz⟩ : ∃ z, Head.zeros 512 = z := ⟨_, rfl⟩
      have hzl : z.length = 512 := by rw [← hz]; decide +kernel
      have hc : Head.codeB z = 4 := by
        unfold Head.codeB
        rw [if_pos hzl, if_pos (by rw [← hz])]
      have e1 : stepS zeroS z = (phS 4, [], 0) := by
        unfold Parse.stepS Parse.headS
        rw [if_neg (by rw [Parse.zeroS_may]; simp [hzl]), if_neg (by decide), if_neg (by decide), if_neg (by decide), if_neg (by decide), if_pos hc, if_pos ⟨rfl, rfl⟩]
      rw [hz, run_one (by rw [e1]) (by rw [e1]; exact (by decide : (4 : Int) ≠ 5)), e1]
      exact (by decide : (4 : Int) ≠ 3)
end Go.Proofs.YtllnnlmhbmladaaGreatDoor.StripM

namespace Go.Proofs.YtllnnlmhbmladaaGreatDoor.StripM
open Go.Proofs.YtllnnlmhbmladaaGreatDoor.Node Go.Proofs.YtllnnlmhbmladaaGreatDoor.Head Go.Proofs.YtllnnlmhbmladaaGreatDoor.Long Go.Proofs.YtllnnlmhbmladaaGreatDoor.Entry Go.Proofs.YtllnnlmhbmladaaGreatDoor.ContM Go.Proofs.YtllnnlmhbmladaaGreatDoor.LabelM Go.Proofs.YtllnnlmhbmladaaGreatDoor.Stream Go.Proofs.YtllnnlmhbmladaaGreatDoor.VolM
open Go.Proofs.YtllnnlmhbmladaaGreatDoor.Tree (oneB mayT)
open Go.Proofs.YtllnnlmhbmladaaGreatDoor.Parse (runS stepS zeroS phS St)
set_option linter.unusedVariables false

/-- How many of a volume's first blocks are not the stream's, or why it can't be. -/
def oneV (s : St) (name : L) (n : Int) (v : LL) : Int × Int :=
  if Parse.mayS s = false then (0, 1)
  else if s.phase = 5 then (0, 17)
  else match v with
    | [] => (0, 7)
    | b :: r =>
      if getL b ≠ (name, n, 0) then (0, 11)
      else if s.phase ≠ 3 then (1, 0)
      else if (getC r).2.2.2.2 = true ∧ (getC r).1 = s.node ∧ (getC r).2.1 = s.size - s.left ∧ (getC r).2.2.1 = s.size then ((getC r).2.2.2.1 + 1, 0) else (0, 12)
/-- The state, the blocks, and why it ends. -/
def stripG (name : L) : List LL → Nat → St → LL → St × LL × Int
  | [], _, s, _ => (s, [], 7)
  | v :: vs, i, s, out =>
    if (oneV s name ((i : Int) + 1) v).2 ≠ 0 then (s, [], (oneV s name ((i : Int) + 1) v).2)
    else if (runS s (v.drop (oneV s name ((i : Int) + 1) v).1.toNat)).2.2.2 ≠ 0 then ((runS s (v.drop (oneV s name ((i : Int) + 1) v).1.toNat)).1, [], (runS s (v.drop (oneV s name ((i : Int) + 1) v).1.toNat)).2.2.2)
    else if (runS s (v.drop (oneV s name ((i : Int) + 1) v).1.toNat)).1.phase = 5 then ((runS s (v.drop (oneV s name ((i : Int) + 1) v).1.toNat)).1, out ++ (v.drop (oneV s name ((i : Int) + 1) v).1.toNat).take (runS s (v.drop (oneV s name ((i : Int) + 1) v).1.toNat)).2.2.1, 0)
    else stripG name vs (i + 1) (runS s (v.drop (oneV s name ((i : Int) + 1) v).1.toNat)).1 (out ++ (v.drop (oneV s name ((i : Int) + 1) v).1.toNat).take (runS s (v.drop (oneV s name ((i : Int) + 1) v).1.toNat)).2.2.1)
/-! ### one step -/
theorem strip_step {name : L} {v : LL} {vs : List LL} {i bl n : Nat} {s s2 : St} {out : LL} {y : List Parse.Evt} (h1 : oneV s name ((i : Int) + 1) v = ((bl : Int), 0)) (h2 : runS s (v.drop bl) = (s2, y, n, 0)) :
    stripG name (v :: vs) i s out = if s2.phase = 5 then (s2, out ++ (v.drop bl).take n, 0) else stripG name vs (i + 1) s2 (out ++ (v.drop bl).take n) := by
  rw [stripG, h1]
  dsimp only
  rw [Int.toNat_natCast, h2, if_neg (by simp), if_neg (by simp)]
theorem oneV_cons (s : St) (name : L) (n : Int) (b : L) (r : LL) : oneV s name n (b :: r) = if Parse.mayS s = false then (0, 1)
  else if s.phase = 5 then (0, 17)
  else if getL b ≠ (name, n, 0) then (0, 11)
  else if s.phase ≠ 3 then (1, 0)
  else if (getC r).2.2.2.2 = true ∧ (getC r).1 = s.node ∧ (getC r).2.1 = s.size - s.left ∧ (getC r).2.2.1 = s.size then ((getC r).2.2.2.1 + 1, 0) else (0, 12) := rfl

/-! ### a tree's volumes -/
theorem lblK_get {s : Sett} (h : mayS s = true) {n : Nat} (hn : n < 12) : getL (lblK s.label ((n : Int) + 1)) = (s.label, (n : Int) + 1, 0) := getL_put (label_may h hn)
theorem one_vol {t : List Nd} {s : Sett} (ht : mayT t = true) (hs : mayS s = true) {pos n : Nat} (hp : pos < (allS t).length) (hn : n < 12) (rest : LL) :
    oneV (stA t pos) s.label ((n : Int) + 1) (beginL t s pos ((n : Int) + 1) ++ rest) = (((beginL t s pos ((n : Int) + 1)).length : Int), 0) := by
  have f := at_f ht (Nat.le_of_lt hp)
  obtain ⟨g1, g2⟩ := state_at ht hp
  rw [beginL, List.cons_append, oneV_cons, if_neg (by rw [f.may]; simp), if_neg (f.ph hp), lblK_get hs hn, if_neg (by simp)]
  by_cases hJ : 0 ≤ (whereL t 0 pos).2
  · obtain ⟨k, nd, hk, e1, e2, e3, e4⟩ := g1 hJ
    have hg : getC (goesOn t pos ++ rest) = (bare nd, 512 * (whereL t 0 pos).2, (nd.data.length : Int), ((goesOn t pos).length : Int), true) := by
      rw [e2]
      exact get_of e3 (by rw [List.take_left])
    rw [e4, if_neg (by simp), hg, if_pos ⟨rfl, rfl, by show 512 * (whereL t 0 pos).2 = (nd.data.length : Int) - ((nd.data.length : Int) - 512 * (whereL t 0 pos).2); omega, rfl⟩, List.length_cons]
    rfl
  · rw [if_pos (g2 (by omega)), goes_none (by omega)]
    rfl
theorem one_other {t : List Nd} {s : Sett} (ht : mayT t = true) (hs : mayS s = true) {pos n : Nat} (hp : pos < (allS t).length) (hn : n < 12) (name : L) (m : Int) (hne : ¬ (name = s.label ∧ m = (n : Int) + 1)) (rest : LL) :
    oneV (stA t pos) name m (lblK s.label ((n : Int) + 1) :: rest) = (0, 11) := by
  have f := at_f ht (Nat.le_of_lt hp)
  rw [oneV_cons, if_neg (by rw [f.may]; simp), if_neg (f.ph hp), lblK_get hs hn, if_pos (by
    intro e
    rw [Prod.mk.injEq, Prod.mk.injEq] at e
    exact hne ⟨e.1.symm, e.2.1.symm⟩)]
/-- Where one stands behind so many volumes. -/
structure SInv (t : List Nd) (s : Sett) (Q : List LL) (E : Int) (pos i : Nat) : Prop where
  le : i ≤ Q.length
  go : pos < (allS t).length → Chain t s pos i (Q.drop i) E ∧ ∀ more, stripG s.label (Q.take i ++ more) 0 zeroS [] = stripG s.label more i (stA t pos) ((allS t).take pos)
  over : (allS t).length ≤ pos → i = Q.length ∧ E = 0 ∧ ∀ more, stripG s.label (Q.take i ++ more) 0 zeroS [] = (phS 5, allS t, 0)
theorem all_two {t : List Nd} (h : mayT t = true) : 2 ≤ (allS t).length := by
  rw [allS_yes h, List.length_append, endsV_length]
  omega
theorem sinv_zero {t : List Nd} {s : Sett} (ht : mayT t = true) (hs : mayS s = true) {Q : List LL} {E : Int} (h : splitV t s = (Q, E)) : SInv t s Q E 0 0 := by
  have hc := chain_split ht hs
  rw [h] at hc
  have h2 := all_two ht
  refine ⟨Nat.zero_le _, fun _ => ⟨hc, fun more => ?_⟩, fun h => by omega⟩
  rw [List.take_zero, List.take_zero, List.nil_append]
  rfl
theorem sinv_step {t : List Nd} {s : Sett} (ht : mayT t = true) (hs : mayS s = true) {Q : List LL} {E : Int} {pos i : Nat} (h : SInv t s Q E pos i) {v : LL} (hv : Q[i]? = some v) :
    pos < (allS t).length ∧ i < 12 ∧ ∃ rest, v = beginL t s pos ((i : Int) + 1) ++ rest ∧ SInv t s Q E (pos + rest.length) (i + 1) := by
  obtain ⟨hlt, hve⟩ := List.getElem?_eq_some_iff.1 hv
  have hp : pos < (allS t).length := by
    apply Classical.byContradiction
    intro hn
    have := (h.over (by omega)).1
    omega
  obtain ⟨hc, hg⟩ := h.go hp
  have hdrop : Q.drop i = v :: Q.drop (i + 1) := by rw [List.drop_eq_getElem_cons hlt, hve]
  have htake : Q.take (i + 1) = Q.take i ++ [v] := by rw [List.take_add_one, hv]; rfl
  rw [hdrop] at hc
  have h12 : i < 12 := by
    obtain ⟨-, h1, -⟩ := chain_next hs hc
    have := (mayS_iff.1 hs).2.2.2.1
    omega
  refine ⟨hp, h12, ?_⟩
  cases hc with
  | @more _ _ c _ _ hp2 hcap hr hch =>
    have h1 : ∀ rest, oneV (stA t pos) s.label ((i : Int) + 1) (beginL t s pos ((i : Int) + 1) ++ rest) = (((beginL t s pos ((i : Int) + 1)).length : Int), 0) := one_vol ht hs hp h12
    by_cases hf : pos + ((s.b * c).toNat - (beginL t s pos ((i : Int) + 1)).length) < (allS t).length
    · obtain ⟨e1, -⟩ := vol_full hr hf
      have hl : (((allS t).drop pos).take ((s.b * c).toNat - (beginL t s pos ((i : Int) + 1)).length)).length = (s.b * c).toNat - (beginL t s pos ((i : Int) + 1)).length := by
        rw [List.length_take, List.length_drop]
        omega
      refine ⟨_, e1, ⟨hlt, fun _ => ⟨by rw [hl]; exact hch, fun more => ?_⟩, fun ho => by omega⟩⟩
      obtain ⟨y, hr2⟩ := run_go ht (p := pos) (q := pos + ((s.b * c).toNat - (beginL t s pos ((i : Int) + 1)).length)) (by omega) (by omega) hp
      rw [Nat.add_sub_cancel_left] at hr2
      have hd : (volV t s pos i (s.b * c).toNat).drop (beginL t s pos ((i : Int) + 1)).length = ((allS t).drop pos).take ((s.b * c).toNat - (beginL t s pos ((i : Int) + 1)).length) := by rw [e1, List.drop_left]
      have h2 : runS (stA t pos) ((volV t s pos i (s.b * c).toNat).drop (beginL t s pos ((i : Int) + 1)).length) = (stA t (pos + ((s.b * c).toNat - (beginL t s pos ((i : Int) + 1)).length)), y, (s.b * c).toNat - (beginL t s pos ((i : Int) + 1)).length, 0) := by rw [hd, hr2]
      rw [htake, List.append_assoc, hg, List.singleton_append, strip_step (by rw [e1]; exact h1 _) h2, if_neg ((at_f ht (Nat.le_of_lt hf)).ph hf), hd, List.take_take, Nat.min_self, hl, List.take_add]
    · have e1 := vol_last hp hr hf
      rw [List.append_assoc] at e1
      obtain ⟨e0, eE⟩ := chain_over hch (by omega)
      have hQ : i + 1 = Q.length := by
        have := congrArg List.length e0
        rw [List.length_drop, List.length_nil] at this
        omega
      have hlen : (allS t).length ≤ pos + ((allS t).drop pos ++ List.replicate ((s.b.toNat - ((beginL t s pos ((i : Int) + 1)).length + ((allS t).length - pos)) % s.b.toNat) % s.b.toNat) nought).length := by
        rw [List.length_append, List.length_drop]
        omega
      refine ⟨_, e1, ⟨hlt, fun ho => by omega, fun _ => ⟨hQ, eE, fun more => ?_⟩⟩⟩
      obtain ⟨y, hr2⟩ := run_over ht hp (List.replicate ((s.b.toNat - ((beginL t s pos ((i : Int) + 1)).length + ((allS t).length - pos)) % s.b.toNat) % s.b.toNat) nought)
      have hd : (volV t s pos i (s.b * c).toNat).drop (beginL t s pos ((i : Int) + 1)).length = (allS t).drop pos ++ List.replicate ((s.b.toNat - ((beginL t s pos ((i : Int) + 1)).length + ((allS t).length - pos)) % s.b.toNat) % s.b.toNat) nought := by rw [e1, List.drop_left]
      rw [← hd] at hr2
      rw [htake, List.append_assoc, hg, List.singleton_append, strip_step (by rw [e1]; exact h1 _) hr2, if_pos (show (phS 5).phase = 5 from rfl), hd, List.take_left' (by rw [List.length_drop]), List.take_append_drop]
end Go.Proofs.YtllnnlmhbmladaaGreatDoor.StripM

namespace Go.Proofs.YtllnnlmhbmladaaGreatDoor.StripM
open Go.Proofs.YtllnnlmhbmladaaGreatDoor.Node Go.Proofs.YtllnnlmhbmladaaGreatDoor.Head Go.Proofs.YtllnnlmhbmladaaGreatDoor.Long Go.Proofs.YtllnnlmhbmladaaGreatDoor.Entry Go.Proofs.YtllnnlmhbmladaaGreatDoor.ContM Go.Proofs.YtllnnlmhbmladaaGreatDoor.LabelM Go.Proofs.YtllnnlmhbmladaaGreatDoor.Stream Go.Proofs.YtllnnlmhbmladaaGreatDoor.VolM
open Go.Proofs.YtllnnlmhbmladaaGreatDoor.Tree (oneB mayT)
open Go.Proofs.YtllnnlmhbmladaaGreatDoor.Parse (runS stepS zeroS phS St)
set_option linter.unusedVariables false
end Go.Proofs.YtllnnlmhbmladaaGreatDoor.StripM

