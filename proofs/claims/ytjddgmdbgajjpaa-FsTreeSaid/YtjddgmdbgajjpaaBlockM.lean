/-
  Blocks of bytes as plain lists: no program, no statement is proved here.
  Plain lemmas on paths as lists of bytes (parts, what may be, splitting, joining): no statement is proved here.
-/
import Std
import Derived.Lib.Hide
import Derived.Lib.Bytealg
namespace Go.Proofs.Ytjddgmdbgajjpaa.BlockM

abbrev L := List UInt8

/-- n bytes 0. -/
def noughts (n : Nat) : L := List.replicate n 0
/-- The first block of what is left of a text. -/
def blk (s : L) : L := s.take 512 ++ noughts (512 - s.length)
/-- The first n blocks of a text. -/
def blks : Nat → L → List L
  | 0, _ => []
  | n + 1, s => blk s :: blks n (s.drop 512)
def manyN (n : Nat) : Nat := (n + 511) / 512
def manyV (n : Int) : Int := if n < 1 then 0 else (n - 1) / 512 + 1
def cutV (s : L) : List L := blks (manyN s.length) s
def mayV (l : List L) : Bool := l.all fun b => decide (b.length = 512)
def zeroV (b : L) : Bool := b.all fun x => decide (x = 0)
def zerosV (n : Int) : List L := if 1 ≤ n ∧ n ≤ 400 then blks n.toNat [] else []
def textB (l : List L) (n : Int) : Bool := mayV l && decide (0 ≤ n ∧ manyV n = (l.length : Int))
def textV (l : List L) (n : Int) : L := if textB l n = true then l.flatten.take n.toNat else []

theorem noughts_length (n : Nat) : (noughts n).length = n := by simp [noughts]
theorem noughts_add (m n : Nat) : noughts m ++ noughts n = noughts (m + n) := by simp [noughts]
theorem noughts_take (m n : Nat) : (noughts m).take n = noughts (min n m) := by simp [noughts]
theorem noughts_drop (m n : Nat) : (noughts m).drop n = noughts (m - n) := by simp [noughts]
theorem blk_length (s : L) : (blk s).length = 512 := by
  rw [blk, List.length_append, List.length_take, noughts_length]
  omega
theorem blks_length (n : Nat) (s : L) : (blks n s).length = n := by
  induction n generalizing s with
  | zero => rfl
  | succ n ih => rw [blks, List.length_cons, ih]
theorem blks_snoc (n : Nat) (s : L) : blks (n + 1) s = blks n s ++ [blk (s.drop (512 * n))] := by
  induction n generalizing s with
  | zero => rfl
  | succ n ih =>
    rw [blks, ih, blks, List.cons_append, List.drop_drop]
    congr 5
    omega
theorem blks_add (m n : Nat) (s : L) : blks (m + n) s = blks m s ++ blks n (s.drop (512 * m)) := by
  induction m generalizing s with
  | zero => simp [blks]
  | succ m ih =>
    rw [show m + 1 + n = (m + n) + 1 by omega, blks, ih, blks, List.cons_append, List.drop_drop]
    congr 4
    omega
theorem blks_at {n i : Nat} (s : L) (h : i < n) : (blks n s)[i]? = some (blk (s.drop (512 * i))) := by
  induction n generalizing i s with
  | zero => omega
  | succ n ih =>
    cases i with
    | zero => simp [blks]
    | succ i =>
      rw [blks, List.getElem?_cons_succ, ih (s.drop 512) (by omega), List.drop_drop]
      congr 3
      omega
theorem blks_mem {n : Nat} {s b : L} (h : b ∈ blks n s) : b.length = 512 := by
  induction n generalizing s with
  | zero => simp [blks] at h
  | succ n ih =>
    rw [blks, List.mem_cons] at h
    rcases h with rfl | h
    · exact blk_length s
    · exact ih h
theorem mayV_iff {l : List L} : mayV l = true ↔ ∀ b ∈ l, b.length = 512 := by simp [mayV]
theorem blks_may (n : Nat) (s : L) : mayV (blks n s) = true := mayV_iff.2 fun _ h => blks_mem h
theorem blks_flatten (n : Nat) (s : L) : (blks n s).flatten = s.take (512 * n) ++ noughts (512 * n - s.length) := by
  induction n generalizing s with
  | zero => simp [blks, noughts]
  | succ n ih =>
    rw [blks, List.flatten_cons, ih, blk]
    by_cases h : s.length ≤ 512
    · rw [List.drop_of_length_le h, List.take_of_length_le h, List.take_nil, List.nil_append, List.length_nil, List.append_assoc, noughts_add, List.take_of_length_le (by omega)]
      congr 2
      omega
    · rw [show 512 - s.length = 0 by omega, show noughts 0 = [] from rfl, List.append_nil, ← List.append_assoc, List.length_drop, show 512 * n - (s.length - 512) = 512 * (n + 1) - s.length by omega]
      congr 1
      rw [show 512 * (n + 1) = 512 + 512 * n by omega, List.take_add]
theorem may_flatten {l : List L} (h : mayV l = true) : l.flatten.length = 512 * l.length := by
  induction l with
  | nil => rfl
  | cons b l ih =>
    have h' := mayV_iff.1 h
    rw [List.flatten_cons, List.length_append, ih (mayV_iff.2 fun x hx => h' x (List.mem_cons_of_mem _ hx)), h' b List.mem_cons_self, List.length_cons]
    omega

/-! ### how many -/
theorem manyV_nat (n : Nat) : manyV (n : Int) = (manyN n : Int) := by unfold manyV manyN; split <;> omega
theorem manyV_neg {n : Int} (h : n < 1) : manyV n = 0 := by simp [manyV, h]
theorem manyN_le (n : Nat) : n ≤ 512 * manyN n := by unfold manyN; omega
theorem manyN_lt (n : Nat) : 512 * manyN n < n + 512 := by unfold manyN; omega
theorem manyN_small {n k : Nat} (h : n ≤ 512 * k) : manyN n ≤ k := by unfold manyN; omega
theorem manyN_of {n k : Nat} (h1 : n ≤ 512 * k) (h2 : 512 * k < n + 512) : manyN n = k := by unfold manyN; omega
theorem manyV_bound {n : Int} (h : n < 9223372036854775808) : 0 ≤ manyV n ∧ manyV n < 9223372036854775808 := by unfold manyV; split <;> omega

/-! ### what is cut is told again -/
theorem cutV_length (s : L) : (cutV s).length = manyN s.length := blks_length _ _
theorem cutV_may (s : L) : mayV (cutV s) = true := blks_may _ _
theorem cutV_flatten (s : L) : (cutV s).flatten = s ++ noughts (512 * manyN s.length - s.length) := by
  rw [cutV, blks_flatten, List.take_of_length_le (manyN_le _)]
theorem cutV_textB (s : L) : textB (cutV s) (s.length : Int) = true := by
  simp [textB, cutV_may, cutV_length, manyV_nat]
theorem cutV_textV (s : L) : textV (cutV s) (s.length : Int) = s := by
  rw [textV, if_pos (cutV_textB s), cutV_flatten, Int.toNat_natCast, List.take_left]
theorem cutV_at {s : L} {i : Nat} (h : i < manyN s.length) : (cutV s)[i]? = some (blk (s.drop (512 * i))) := blks_at s h
theorem blk_at {s : L} {j : Nat} (h : j < 512) : (blk s)[j]? = some (if j < s.length then s[j]?.getD 0 else 0) := by
  rw [blk]
  by_cases hj : j < s.length
  · rw [List.getElem?_append_left (by rw [List.length_take]; omega), List.getElem?_take, if_pos h, if_pos hj, List.getElem?_eq_getElem hj]
    rfl
  · rw [List.getElem?_append_right (by rw [List.length_take]; omega), if_neg hj, noughts, List.getElem?_replicate, if_pos (by rw [List.length_take]; omega)]
/-- A byte behind the text is 0. -/
theorem cutV_behind {s : L} {i : Nat} (h1 : s.length ≤ i) (h2 : i < 512 * manyN s.length) : ∃ b, (cutV s)[i / 512]? = some b ∧ b[i % 512]? = some 0 := by
  refine ⟨_, cutV_at (s := s) (i := i / 512) (by omega), ?_⟩
  rw [blk_at (by omega), if_neg (by rw [List.length_drop]; omega)]

/-! ### texts of blocks -/
theorem textB_iff {l : List L} {n : Int} : textB l n = true ↔ mayV l = true ∧ 0 ≤ n ∧ manyV n = (l.length : Int) := by simp [textB]
theorem textB_le {l : List L} {n : Int} (h : textB l n = true) : n.toNat ≤ l.flatten.length := by
  obtain ⟨h1, h2, h3⟩ := textB_iff.1 h
  obtain ⟨m, rfl⟩ := Int.eq_ofNat_of_zero_le h2
  rw [may_flatten h1, Int.toNat_natCast]
  rw [manyV_nat] at h3
  have := manyN_le m
  omega
theorem textV_length {l : List L} {n : Int} (h : textB l n = true) : (textV l n).length = n.toNat := by
  rw [textV, if_pos h, List.length_take, Nat.min_eq_left (textB_le h)]
theorem textV_no {l : List L} {n : Int} (h : textB l n = false) : textV l n = [] := by simp [textV, h]
theorem textV_take {l : List L} {n k : Int} (hn : textB l n = true) (hk : textB l k = true) (h : n ≤ k) : textV l n = (textV l k).take n.toNat := by
  rw [textV, if_pos hn, textV, if_pos hk, List.take_take, Nat.min_eq_left (by omega)]

/-! ### noughts -/
theorem zeroV_iff {b : L} : zeroV b = true ↔ b = noughts b.length := by
  simp only [zeroV, List.all_eq_true, decide_eq_true_eq]
  exact List.eq_replicate_iff.trans ⟨fun h => h.2, fun h => ⟨rfl, h⟩⟩ |>.symm
theorem blk_noughts (n : Nat) : blk (noughts n) = noughts 512 := by
  rw [blk, noughts_take, noughts_length, noughts_add]
  congr 1
  omega
theorem blks_noughts (n m : Nat) : blks n (noughts m) = List.replicate n (noughts 512) := by
  induction n generalizing m with
  | zero => rfl
  | succ n ih => rw [blks, blk_noughts, noughts_drop, ih, List.replicate_succ]
theorem blks_nil (n : Nat) : blks n [] = List.replicate n (noughts 512) := blks_noughts n 0
theorem zerosV_yes {n : Int} (h : 1 ≤ n ∧ n ≤ 400) : zerosV n = blks n.toNat [] := by simp [zerosV, h]
theorem zerosV_no {n : Int} (h : ¬ (1 ≤ n ∧ n ≤ 400)) : zerosV n = [] := by simp [zerosV, h]
theorem cutV_noughts (n : Nat) : cutV (noughts (512 * n)) = blks n [] := by
  rw [cutV, blks_noughts, blks_nil, noughts_length, manyN_of (k := n) (by omega) (by omega)]
theorem zero_at {n i : Nat} (h : i < n) : ∃ b, (blks n [])[i]? = some b ∧ zeroV b = true ∧ b.length = 512 := by
  refine ⟨noughts 512, by rw [blks_nil, List.getElem?_replicate, if_pos h], ?_, noughts_length _⟩
  exact zeroV_iff.2 (by rw [noughts_length])

/-! ### joined; apart -/
theorem cutV_join {a b : L} (h : a.length % 512 = 0) : cutV (a ++ b) = cutV a ++ cutV b := by
  have ha : manyN a.length = a.length / 512 := manyN_of (by omega) (by omega)
  have hb : manyN (a ++ b).length = a.length / 512 + manyN b.length := by
    rw [List.length_append]
    unfold manyN
    omega
  have e : 512 * (a.length / 512) = a.length := by omega
  have first : ∀ (k : Nat) (x : L), 512 * k ≤ x.length → blks k (x ++ b) = blks k x := by
    intro k
    induction k with
    | zero => intro x _; rfl
    | succ k ih =>
      intro x hx
      rw [blks, blks, List.drop_append_of_le_length (by omega), ih (x.drop 512) (by rw [List.length_drop]; omega)]
      congr 1
      rw [blk, blk, List.take_append_of_le_length (by omega), List.length_append, show 512 - (x.length + b.length) = 512 - x.length by omega]
  rw [cutV, hb, blks_add, e, List.drop_left, first _ _ (by omega), cutV, ha]
  rfl
theorem cutV_inj {a b : L} (hl : a.length = b.length) (h : cutV a = cutV b) : a = b := by
  have h1 := congrArg List.flatten h
  rw [cutV_flatten, cutV_flatten, hl] at h1
  exact (List.append_inj h1 hl).1
theorem cutV_more {a : L} {n : Nat} (h : manyN (a.length + n) = manyN a.length) : cutV (a ++ noughts n) = cutV a := by
  have key : ∀ (k : Nat) (x : L) (m : Nat), x.length + m ≤ 512 * k → blks k (x ++ noughts m) = blks k x := by
    intro k
    induction k with
    | zero =>
      intro x m _
      rfl
    | succ k ih =>
      intro x m hx
      rw [blks, blks]
      by_cases hs : 512 ≤ x.length
      · rw [List.drop_append_of_le_length hs, ih (x.drop 512) m (by rw [List.length_drop]; omega)]
        congr 1
        rw [blk, blk, List.take_append_of_le_length hs, List.length_append, show 512 - (x.length + (noughts m).length) = 512 - x.length by omega]
      · have e1 : (x ++ noughts m).drop 512 = noughts (x.length + m - 512) := by
          rw [List.drop_append, List.drop_of_length_le (by omega), List.nil_append, noughts_drop, show m - (512 - x.length) = x.length + m - 512 by omega]
        have e2 : x.drop 512 = [] := List.drop_of_length_le (by omega)
        rw [e1, e2, blks_noughts, blks_nil]
        have e3 : blk (x ++ noughts m) = blk x := by
          rw [blk, blk, List.take_append, List.take_of_length_le (by omega), List.append_assoc, noughts_take, noughts_add, List.length_append, noughts_length,
            show min (512 - x.length) m + (512 - (x.length + m)) = 512 - x.length by omega]
        rw [e3]
  rw [cutV, List.length_append, noughts_length, h, key _ _ _ (by rw [← h]; exact manyN_le _)]
  rfl
theorem cutV_more_iff {a : L} {n : Nat} : cutV a = cutV (a ++ noughts n) ↔ manyN a.length = manyN (a.length + n) := by
  constructor
  · intro h
    have h1 := congrArg List.length h
    rwa [cutV_length, cutV_length, List.length_append, noughts_length] at h1
  · intro h
    rw [cutV_more h.symm]
end Go.Proofs.Ytjddgmdbgajjpaa.BlockM

namespace Go.Proofs.Ytjddgmdbgajjpaa.PathM

abbrev L := List UInt8

/-- What stands between slashes. -/
def pcs : L → List L
  | [] => [[]]
  | c :: l => if c = 47 then [] :: pcs l else
    match pcs l with
    | [] => [[c]]
    | p :: ps => (c :: p) :: ps

theorem pcs_ne (l : L) : pcs l ≠ [] := by
  cases l with
  | nil => simp [pcs]
  | cons c l =>
    unfold pcs
    split
    · simp
    · split <;> simp

theorem pcs_slash (l : L) : pcs (47 :: l) = [] :: pcs l := by simp [pcs]
theorem pcs_cons {c : UInt8} (h : c ≠ 47) (l : L) : ∃ p ps, pcs l = p :: ps ∧ pcs (c :: l) = (c :: p) :: ps := by
  match e : pcs l with
  | [] => exact absurd e (pcs_ne l)
  | p :: ps => exact ⟨p, ps, rfl, by simp [pcs, h, e]⟩

/-- A text without a slash is one part. -/
theorem pcs_one {l : L} (h : (47 : UInt8) ∉ l) : pcs l = [l] := by
  induction l with
  | nil => rfl
  | cons c l ih =>
    simp only [List.mem_cons, not_or] at h
    obtain ⟨p, ps, h1, h2⟩ := pcs_cons (c := c) (fun e => h.1 e.symm) l
    rw [ih h.2] at h1
    obtain ⟨rfl, rfl⟩ := by simpa using h1
    exact h2

theorem pcs_append (a b : L) : pcs (a ++ 47 :: b) = pcs a ++ pcs b := by
  induction a with
  | nil => simp [pcs]
  | cons c a ih =>
    by_cases hc : c = 47
    · subst hc; rw [List.cons_append, pcs_slash, pcs_slash, ih]; rfl
    · obtain ⟨p, ps, h1, h2⟩ := pcs_cons hc a
      obtain ⟨p', ps', h3, h4⟩ := pcs_cons hc (a ++ 47 :: b)
      rw [ih, h1] at h3
      obtain ⟨rfl, rfl⟩ := by simpa using h3
      rw [List.cons_append, h4, h2]
      rfl

theorem mem_pcs {l p : L} (h : p ∈ pcs l) : (47 : UInt8) ∉ p := by
  induction l generalizing p with
  | nil => simp only [pcs, List.mem_singleton] at h; subst h; simp
  | cons c l ih =>
    by_cases hc : c = 47
    · subst hc
      rw [pcs_slash] at h
      rcases List.mem_cons.1 h with rfl | h
      · simp
      · exact ih h
    · obtain ⟨q, qs, h1, h2⟩ := pcs_cons hc l
      rw [h2] at h
      rcases List.mem_cons.1 h with rfl | h
      · simp only [List.mem_cons, not_or]
        exact ⟨fun e => hc e.symm, ih (by rw [h1]; simp)⟩
      · exact ih (by rw [h1]; simp [h])

/-- Joined by slashes again. -/
def joinS : List L → L
  | [] => []
  | [p] => p
  | p :: q :: ps => p ++ 47 :: joinS (q :: ps)

theorem joinS_cons {p : L} {ps : List L} (h : ps ≠ []) : joinS (p :: ps) = p ++ 47 :: joinS ps := by
  cases ps with
  | nil => exact absurd rfl h
  | cons q ps => rfl

theorem joinS_pcs (l : L) : joinS (pcs l) = l := by
  induction l with
  | nil => rfl
  | cons c l ih =>
    by_cases hc : c = 47
    · subst hc; rw [pcs_slash, joinS_cons (pcs_ne l), ih]; rfl
    · obtain ⟨p, ps, h1, h2⟩ := pcs_cons hc l
      rw [h2]
      rw [h1] at ih
      cases ps with
      | nil => simp only [joinS] at ih ⊢; rw [ih]
      | cons q ps => simp only [joinS] at ih ⊢; rw [← ih]; rfl

theorem joinS_snoc {ps : List L} (p : L) (h : ps ≠ []) : joinS (ps ++ [p]) = joinS ps ++ 47 :: p := by
  induction ps with
  | nil => exact absurd rfl h
  | cons q ps ih =>
    cases ps with
    | nil => rfl
    | cons r ps =>
      have e := ih (by simp)
      rw [List.cons_append, joinS_cons (by simp), e, joinS_cons (p := q) (ps := r :: ps) (by simp)]
      simp

theorem mem_joinS_len {ps : List L} {p : L} (h : p ∈ ps) : p.length ≤ (joinS ps).length := by
  induction ps with
  | nil => cases h
  | cons q ps ih =>
    cases ps with
    | nil => simp only [List.mem_singleton] at h; subst h; exact Nat.le_refl _
    | cons r ps =>
      rw [joinS_cons (by simp)]
      simp only [List.length_append, List.length_cons]
      rcases List.mem_cons.1 h with rfl | h
      · omega
      · have := ih h; omega

theorem mem_joinS {ps : List L} {p : L} (h : p ∈ ps) {c : UInt8} (hc : c ∈ p) : c ∈ joinS ps := by
  induction ps with
  | nil => cases h
  | cons q ps ih =>
    cases ps with
    | nil => simp only [List.mem_singleton] at h; subst h; exact hc
    | cons r ps =>
      rw [joinS_cons (by simp)]
      rcases List.mem_cons.1 h with rfl | h
      · simp [hc]
      · simp [ih h]

/-- How many parts there are: a path has no more than bytes, and one more. -/
theorem pcs_length_le (l : L) : (pcs l).length ≤ l.length + 1 := by
  induction l with
  | nil => simp [pcs]
  | cons c l ih =>
    by_cases hc : c = 47
    · subst hc; rw [pcs_slash]; simp; omega
    · obtain ⟨p, ps, h1, h2⟩ := pcs_cons hc l
      rw [h2]; rw [h1] at ih; simp at ih ⊢; omega
theorem pcs_pos (l : L) : 0 < (pcs l).length := List.length_pos_iff.2 (pcs_ne l)

/-! ### what may be -/

/-- A part that may be. -/
def okP (p : L) : Bool := !(p == []) && (!(p == [46]) && !(p == [46, 46]))

/-- A path that may be. -/
def mayB (l : L) : Bool := decide (1 ≤ l.length) && (decide (l.length ≤ 300) && (!(l.contains 0) && (pcs l).all okP))

theorem mayB_iff {l : L} : mayB l = true ↔ 1 ≤ l.length ∧ l.length ≤ 300 ∧ (0 : UInt8) ∉ l ∧ ∀ p ∈ pcs l, okP p = true := by
  simp [mayB]

theorem okP_ne {p : L} (h : okP p = true) : p ≠ [] := by
  rintro rfl
  simp [okP] at h

theorem mayB_append {a b : L} : mayB (a ++ 47 :: b) = (mayB a && (mayB b && decide (a.length + b.length < 300))) := by
  rw [Bool.eq_iff_iff]
  simp only [Bool.and_eq_true, decide_eq_true_eq, mayB_iff, pcs_append, List.mem_append, List.length_append, List.length_cons, List.mem_cons, not_or]
  constructor
  · rintro ⟨_, h2, ⟨h3, _, h4⟩, h5⟩
    have ha : a ≠ [] := by
      rintro rfl
      exact okP_ne (h5 [] (.inl (by simp [pcs]))) rfl
    have hb : b ≠ [] := by
      rintro rfl
      exact okP_ne (h5 [] (.inr (by simp [pcs]))) rfl
    have ha := List.length_pos_iff.2 ha
    have hb := List.length_pos_iff.2 hb
    exact ⟨⟨by omega, by omega, h3, fun p hp => h5 p (.inl hp)⟩, ⟨by omega, by omega, h4, fun p hp => h5 p (.inr hp)⟩, by omega⟩
  · rintro ⟨⟨h1, h2, h3, h4⟩, ⟨h5, h6, h7, h8⟩, h9⟩
    exact ⟨by omega, by omega, ⟨h3, by decide, h7⟩, fun p hp => hp.elim (h4 p) (h8 p)⟩

theorem mayB_part {l p : L} (h : mayB l = true) (hp : p ∈ pcs l) : mayB p = true := by
  obtain ⟨h1, h2, h3, h4⟩ := mayB_iff.1 h
  have hok := h4 p hp
  have hl := mem_joinS_len hp
  rw [joinS_pcs] at hl
  refine mayB_iff.2 ⟨List.length_pos_iff.2 (okP_ne hok), by omega, fun h0 => h3 ?_, ?_⟩
  · have := mem_joinS hp h0
    rwa [joinS_pcs] at this
  · rw [pcs_one (mem_pcs hp)]
    simpa using hok

theorem mayB_nil : mayB [] = false := by decide

/-! ### the last slash -/

/-- What stands ahead of the last slash, and behind it, if there is one. -/
def lastCut : L → Option (L × L)
  | [] => none
  | c :: l => match lastCut l with
    | some (a, b) => some (c :: a, b)
    | none => if c = 47 then some ([], l) else none

theorem lastCut_some {l a b : L} (h : lastCut l = some (a, b)) : l = a ++ 47 :: b ∧ (47 : UInt8) ∉ b := by
  induction l generalizing a b with
  | nil => simp [lastCut] at h
  | cons c l ih =>
    unfold lastCut at h
    match e : lastCut l with
    | some (a', b') =>
      rw [e] at h
      simp only [Option.some.injEq, Prod.mk.injEq] at h
      obtain ⟨rfl, rfl⟩ := h
      obtain ⟨h1, h2⟩ := ih e
      exact ⟨by rw [h1]; rfl, h2⟩
    | none =>
      rw [e] at h
      simp only at h
      split at h
      · rename_i hc
        simp only [Option.some.injEq, Prod.mk.injEq] at h
        obtain ⟨rfl, rfl⟩ := h
        subst hc
        refine ⟨rfl, fun hm => ?_⟩
        clear ih
        induction l with
        | nil => cases hm
        | cons d l ih =>
          unfold lastCut at e
          match e2 : lastCut l with
          | some _ => rw [e2] at e; cases e
          | none =>
            rw [e2] at e
            simp only at e
            split at e
            · cases e
            · rename_i hd
              rcases List.mem_cons.1 hm with h | h
              · exact hd h.symm
              · exact ih e2 h
      · cases h

theorem lastCut_none {l : L} (h : lastCut l = none) : (47 : UInt8) ∉ l := by
  induction l with
  | nil => simp
  | cons c l ih =>
    unfold lastCut at h
    match e : lastCut l with
    | some _ => rw [e] at h; cases h
    | none =>
      rw [e] at h
      simp only at h
      split at h
      · cases h
      · rename_i hc
        simp only [List.mem_cons, not_or]
        exact ⟨fun e => hc e.symm, ih e⟩

theorem lastCut_of {a b : L} (h : (47 : UInt8) ∉ b) : lastCut (a ++ 47 :: b) = some (a, b) := by
  match e : lastCut (a ++ 47 :: b) with
  | none => exact absurd (List.mem_append.2 (.inr (by simp))) (lastCut_none e)
  | some (a', b') =>
    obtain ⟨h1, h2⟩ := lastCut_some e
    have : a = a' ∧ b = b' := by
      clear e
      induction a generalizing a' with
      | nil =>
        cases a' with
        | nil => simpa using h1
        | cons c a' =>
          simp only [List.nil_append, List.cons_append, List.cons.injEq] at h1
          exact absurd (by rw [h1.2]; simp) h
      | cons c a ih =>
        cases a' with
        | nil =>
          simp only [List.nil_append, List.cons_append, List.cons.injEq] at h1
          exact absurd (by rw [← h1.2]; simp) h2
        | cons c' a' =>
          simp only [List.cons_append, List.cons.injEq] at h1
          obtain ⟨r1, r2⟩ := ih a' h1.2
          exact ⟨by rw [h1.1, r1], r2⟩
    rw [this.1, this.2]

theorem lastCut_one {l : L} (h : (47 : UInt8) ∉ l) : lastCut l = none := by
  match e : lastCut l with
  | none => rfl
  | some (a, b) =>
    obtain ⟨h1, _⟩ := lastCut_some e
    exact absurd (by rw [h1]; simp) h

/-- Its parts: those ahead, and the one behind. -/
theorem pcs_lastCut {l a b : L} (h : lastCut l = some (a, b)) : pcs l = pcs a ++ [b] := by
  obtain ⟨h1, h2⟩ := lastCut_some h
  rw [h1, pcs_append, pcs_one h2]

/-- The parent's bytes. -/
def parV (l : L) : L := if mayB l = true then match lastCut l with | some (a, _) => a | none => [] else []
def parB (l : L) : Bool := mayB l && (lastCut l).isSome

/-! ### below -/

/-- Begins s by p? -/
def prefB (p s : L) : Bool := p.isPrefixOf s
def belowB (p q : L) : Bool := mayB p && (mayB q && prefB (q ++ [47]) p)

theorem belowB_iff {p q : L} : belowB p q = true ↔ mayB p = true ∧ mayB q = true ∧ ∃ r, p = q ++ 47 :: r := by
  simp only [belowB, prefB, Bool.and_eq_true, List.isPrefixOf_iff_prefix]
  refine and_congr_right fun _ => and_congr_right fun _ => ?_
  constructor
  · rintro ⟨r, rfl⟩; exact ⟨r, by simp⟩
  · rintro ⟨r, rfl⟩; exact ⟨r, by simp⟩

theorem belowB_len {p q : L} (h : belowB p q = true) : q.length < p.length := by
  obtain ⟨_, _, r, rfl⟩ := belowB_iff.1 h
  simp
theorem belowB_irrefl (p : L) : belowB p p = false := by
  rw [Bool.eq_false_iff]
  intro h
  exact Nat.lt_irrefl _ (belowB_len h)
theorem belowB_asymm {p q : L} (h : belowB p q = true) : belowB q p = false := by
  rw [Bool.eq_false_iff]
  intro h'
  have := belowB_len h
  have := belowB_len h'
  omega
theorem belowB_trans {p q r : L} (h : belowB p q = true) (h' : belowB q r = true) : belowB p r = true := by
  obtain ⟨h1, h2, x, rfl⟩ := belowB_iff.1 h
  obtain ⟨_, h4, y, rfl⟩ := belowB_iff.1 h'
  exact belowB_iff.2 ⟨h1, h4, y ++ 47 :: x, by simp⟩

/-! ### the first slash, and the split -/

/-- The first slash from a place on. -/
def firstCut : L → Option (L × L)
  | [] => none
  | c :: l => if c = 47 then some ([], l) else match firstCut l with
    | some (a, b) => some (c :: a, b)
    | none => none

theorem firstCut_some {l a b : L} (h : firstCut l = some (a, b)) : l = a ++ 47 :: b ∧ (47 : UInt8) ∉ a := by
  induction l generalizing a b with
  | nil => simp [firstCut] at h
  | cons c l ih =>
    unfold firstCut at h
    split at h
    · rename_i hc
      simp only [Option.some.injEq, Prod.mk.injEq] at h
      obtain ⟨rfl, rfl⟩ := h
      subst hc
      exact ⟨rfl, by simp⟩
    · rename_i hc
      match e : firstCut l with
      | none => rw [e] at h; cases h
      | some (a', b') =>
        rw [e] at h
        simp only [Option.some.injEq, Prod.mk.injEq] at h
        obtain ⟨rfl, rfl⟩ := h
        obtain ⟨h1, h2⟩ := ih e
        refine ⟨by rw [h1]; rfl, ?_⟩
        simp only [List.mem_cons, not_or]
        exact ⟨fun e => hc e.symm, h2⟩

theorem firstCut_none {l : L} (h : firstCut l = none) : (47 : UInt8) ∉ l := by
  induction l with
  | nil => simp
  | cons c l ih =>
    unfold firstCut at h
    split at h
    · cases h
    · rename_i hc
      match e : firstCut l with
      | some _ => rw [e] at h; cases h
      | none =>
        simp only [List.mem_cons, not_or]
        exact ⟨fun e => hc e.symm, ih e⟩

/-- Its parts, where it is cut at the first slash. -/
theorem pcs_firstCut {l a b : L} (h : firstCut l = some (a, b)) : pcs l = a :: pcs b := by
  obtain ⟨h1, h2⟩ := firstCut_some h
  rw [h1, pcs_append, pcs_one h2]
  rfl
theorem firstCut_len {l a b : L} (h : firstCut l = some (a, b)) : l.length = a.length + 1 + b.length := by
  obtain ⟨h1, _⟩ := firstCut_some h
  rw [h1]
  simp
  omega

theorem indexByte_none {l : L} (h : firstCut l = none) : Lib.indexByte l 47 = -1 := by
  induction l with
  | nil => rfl
  | cons c l ih =>
    unfold firstCut at h
    split at h
    · cases h
    · rename_i hc
      match e : firstCut l with
      | some _ => rw [e] at h; cases h
      | none => unfold Lib.indexByte; rw [ih e]; simp [hc]

theorem indexByte_some {l a b : L} (h : firstCut l = some (a, b)) : Lib.indexByte l 47 = (a.length : Int) := by
  induction l generalizing a b with
  | nil => simp [firstCut] at h
  | cons c l ih =>
    unfold firstCut at h
    split at h
    · rename_i hc
      simp only [Option.some.injEq, Prod.mk.injEq] at h
      obtain ⟨rfl, rfl⟩ := h
      subst hc
      rfl
    · rename_i hc
      match e : firstCut l with
      | none => rw [e] at h; cases h
      | some (a', b') =>
        rw [e] at h
        simp only [Option.some.injEq, Prod.mk.injEq] at h
        obtain ⟨rfl, rfl⟩ := h
        have h := ih e
        unfold Lib.indexByte
        rw [h, if_neg (by simpa using hc), if_neg (by simp)]
        simp

theorem indexByte_neg {l : L} {c : UInt8} : Lib.indexByte l c = -1 ↔ c ∉ l := by
  induction l with
  | nil => simp [Lib.indexByte]
  | cons d l ih =>
    have hg := Lib.indexByte_ge l c
    unfold Lib.indexByte
    by_cases hd : d = c
    · subst hd; simp
    · have hd' : ¬ c = d := fun e => hd e.symm
      simp only [beq_iff_eq, hd, if_false, List.mem_cons, hd', false_or]
      rw [← ih]
      split
      · rename_i h; simp [h]
      · rename_i h; constructor <;> intro h' <;> omega

/-- What a path is split into, where it can be. -/
def splitO (l : L) : Option (L × L) :=
  if mayB l = true then
    if l.length ≤ 100 then some ([], l)
    else match firstCut (l.drop (l.length - 101)) with
      | some (a, b) => if l.length - 101 + a.length ≤ 155 then some (l.take (l.length - 101 + a.length), b) else none
      | none => none
  else none

def splV (l : L) : L × L := (splitO l).getD ([], [])
def splB (l : L) : Bool := (splitO l).isSome

def joinV (a b : L) : L := if a = [] then b else a ++ 47 :: b

theorem splitO_long {l a b : L} (h : splitO l = some (a, b)) (hl : ¬ l.length ≤ 100) : mayB l = true ∧ l = a ++ 47 :: b ∧ a.length ≤ 155 ∧ b.length ≤ 100 ∧ mayB a = true ∧ mayB b = true := by
  unfold splitO at h
  by_cases hm : mayB l = true
  · rw [if_pos hm, if_neg hl] at h
    split at h
    · rename_i a' b' e
      split at h
      · rename_i h155
        simp only [Option.some.injEq, Prod.mk.injEq] at h
        obtain ⟨rfl, rfl⟩ := h
        obtain ⟨h1, h2⟩ := firstCut_some e
        have hlen := firstCut_len e
        rw [List.length_drop] at hlen
        have e2 : l = l.take (l.length - 101 + a'.length) ++ 47 :: b' := by
          rw [List.take_add, h1, List.take_left, List.append_assoc, ← h1, List.take_append_drop]
        have hm' := hm
        rw [e2, mayB_append] at hm'
        simp only [Bool.and_eq_true, decide_eq_true_eq] at hm'
        refine ⟨hm, e2, by rw [List.length_take]; omega, by omega, hm'.1, hm'.2.1⟩
      · cases h
    · cases h
  · rw [if_neg hm] at h; cases h

theorem splitO_short {l a b : L} (h : splitO l = some (a, b)) (hl : l.length ≤ 100) : mayB l = true ∧ a = [] ∧ b = l := by
  unfold splitO at h
  by_cases hm : mayB l = true
  · rw [if_pos hm, if_pos hl] at h
    simp only [Option.some.injEq, Prod.mk.injEq] at h
    exact ⟨hm, h.1.symm, h.2.symm⟩
  · rw [if_neg hm] at h; cases h

/-- What a split answers. -/
theorem split_facts {p : L} (h : splB p = true) : mayB p = true ∧ joinV (splV p).1 (splV p).2 = p ∧ (splV p).1.length ≤ 155 ∧ (splV p).2.length ≤ 100 ∧ (splV p).2 ≠ [] ∧ (100 < p.length ∨ (splV p).1 = []) ∧ mayB (splV p).2 = true ∧ ((splV p).1 = [] ∨ mayB (splV p).1 = true) := by
  match e : splitO p with
  | none => unfold splB at h; rw [e] at h; cases h
  | some (a, b) =>
    have e1 : splV p = (a, b) := by unfold splV; rw [e]; rfl
    rw [e1]
    have hne : ∀ {q : L}, mayB q = true → q ≠ [] := by
      intro q hq hn
      rw [hn] at hq
      exact absurd hq (by decide)
    by_cases hl : p.length ≤ 100
    · obtain ⟨h1, rfl, rfl⟩ := splitO_short e hl
      exact ⟨h1, by simp [joinV], by simp, hl, hne h1, .inr rfl, h1, .inl rfl⟩
    · obtain ⟨h1, h2, h3, h4, h5, h6⟩ := splitO_long e hl
      refine ⟨h1, ?_, h3, h4, hne h6, .inl (by omega), h6, .inr h5⟩
      simp only [joinV]
      rw [if_neg (hne h5), ← h2]
theorem split_none_facts {p : L} (h : splB p = false) : splV p = ([], []) := by
  match e : splitO p with
  | none => unfold splV; rw [e]; rfl
  | some _ => unfold splB at h; rw [e] at h; cases h

theorem splitO_none {l : L} (h : splitO l = none) : mayB l = false ∨ 100 < l.length := by
  unfold splitO at h
  by_cases hm : mayB l = true
  · by_cases hl : l.length ≤ 100
    · rw [if_pos hm, if_pos hl] at h; cases h
    · exact .inr (by omega)
  · exact .inl (by simpa using hm)
theorem split_none_long {p : L} (h : splB p = false) : mayB p = false ∨ 100 < p.length := by
  match e : splitO p with
  | none => exact splitO_none e
  | some _ => unfold splB at h; rw [e] at h; cases h

/-! ### the parent -/
theorem par_yes {p : L} (h : parB p = true) : mayB p = true ∧ mayB (parV p) = true ∧ belowB p (parV p) = true ∧ (pcs (parV p)).length + 1 = (pcs p).length := by
  unfold parB at h
  rw [Bool.and_eq_true] at h
  obtain ⟨hm, hs⟩ := h
  match e : lastCut p with
  | none => rw [e] at hs; cases hs
  | some (a, b) =>
    have e1 : parV p = a := by unfold parV; rw [if_pos hm, e]
    rw [e1]
    obtain ⟨h1, h2⟩ := lastCut_some e
    have hma : mayB a = true := by
      have h := hm
      rw [h1, mayB_append, Bool.and_eq_true] at h
      exact h.1
    exact ⟨hm, hma, belowB_iff.2 ⟨hm, hma, b, h1⟩, by rw [pcs_lastCut e]; simp⟩
theorem par_no {p : L} (hm : mayB p = true) (h : parB p = false) : parV p = [] ∧ (pcs p).length = 1 := by
  unfold parB at h
  rw [hm, Bool.true_and] at h
  match e : lastCut p with
  | none =>
    refine ⟨by unfold parV; rw [if_pos hm, e], ?_⟩
    rw [pcs_one (lastCut_none e)]
    rfl
  | some (a, b) => rw [e] at h; cases h

theorem joinV_may {a b : L} (ha : a ≠ []) : mayB (joinV a b) = (mayB a && (mayB b && decide (a.length + b.length < 300))) := by
  unfold joinV
  rw [if_neg ha, mayB_append]
theorem joinV_pcs {a b : L} (ha : a ≠ []) : pcs (joinV a b) = pcs a ++ pcs b := by
  unfold joinV
  rw [if_neg ha, pcs_append]

theorem safe_fact {o p : L} (hp : mayB p = true) (ho : mayB o = true) : (mayB (joinV o p) = true → belowB (joinV o p) o = true) ∧ (¬ mayB (joinV o p) = true → 300 < (joinV o p).length) := by
  have hn : o ≠ [] := by rintro rfl; exact absurd ho (by decide)
  have e : joinV o p = o ++ 47 :: p := by simp [joinV, hn]
  refine ⟨fun h => belowB_iff.2 ⟨h, ho, p, e⟩, fun h => ?_⟩
  rw [joinV_may hn, ho, hp] at h
  simp at h
  rw [e]
  simp
  omega

/-- What a path begins by, and ends by. -/
theorem ends_fact {p : L} (hp : mayB p = true) : ∃ c d, p[0]? = some c ∧ p[p.length - 1]? = some d ∧ c ≠ 47 ∧ d ≠ 47 := by
  obtain ⟨h1, _, _, h4⟩ := mayB_iff.1 hp
  match p, h1 with
  | c :: t, _ =>
    obtain ⟨d, hd⟩ : ∃ d, (c :: t)[(c :: t).length - 1]? = some d := ⟨_, List.getElem?_eq_getElem (by simp)⟩
    refine ⟨c, d, rfl, hd, ?_, ?_⟩
    · rintro rfl
      exact okP_ne (h4 [] (by rw [pcs_slash]; simp)) rfl
    · rintro rfl
      have e : c :: t = (c :: t).dropLast ++ 47 :: [] := by
        have hl : (c :: t).getLast (by simp) = 47 := by
          rw [List.getLast_eq_getElem]
          have := List.getElem?_eq_some_iff.1 hd
          exact this.2
        conv => lhs; rw [← List.dropLast_concat_getLast (show (c :: t) ≠ [] by simp), hl]
      rw [e, pcs_append] at h4
      exact okP_ne (h4 [] (by simp [pcs])) rfl
theorem okP_facts {x : L} (h : okP x = true) : (x == []) = false ∧ (x == [46]) = false ∧ (x == [46, 46]) = false := by
  simpa [okP] using h

/-- What has been joined of the first k parts. -/
def joined (xs : List L) (k : Nat) : L := joinS (xs.take k)
theorem joinS_take_succ {xs : List L} {k : Nat} (hk : k < xs.length) (hne : ∀ x ∈ xs, x ≠ []) : joinS (xs.take (k + 1)) = joinV (joinS (xs.take k)) xs[k] := by
  rw [List.take_succ_eq_append_getElem hk]
  cases k with
  | zero => simp [joinS, joinV]
  | succ k =>
    have h1 : xs.take (k + 1) ≠ [] := by
      intro h
      have := congrArg List.length h
      rw [List.length_take, List.length_nil] at this
      omega
    rw [joinS_snoc _ h1, joinV, if_neg]
    intro h
    have hx : xs[0] ∈ xs.take (k + 1) := by
      rw [List.mem_take_iff_getElem]
      exact ⟨0, by omega, rfl⟩
    have := mem_joinS_len hx
    rw [h] at this
    exact hne xs[0] (List.getElem_mem _) (List.eq_nil_of_length_eq_zero (by simpa using this))
theorem joinS_take_len {xs : List L} (k : Nat) : (joinS (xs.take k)).length ≤ (joinS xs).length := by
  induction xs generalizing k with
  | nil => simp
  | cons x xs ih =>
    cases k with
    | zero => simp [joinS]
    | succ k =>
      rw [List.take_succ_cons]
      cases xs with
      | nil => simp
      | cons y ys =>
        rw [joinS_cons (p := x) (ps := y :: ys) (by simp)]
        cases k with
        | zero => simp [joinS]
        | succ k =>
          have := ih (k + 1)
          rw [List.take_succ_cons] at this ⊢
          rw [joinS_cons (by simp)]
          simp only [List.length_append, List.length_cons]
          omega
end Go.Proofs.Ytjddgmdbgajjpaa.PathM

