/-
  Blocks of bytes as plain lists: no program, no statement is proved here.
-/
import Std
namespace Go.Proofs.YtopihahjjcpnpaaGreatDoor.BlockM

abbrev L := List UInt8

/-- n bytes 0. -/
def noughts (n : Nat) : L := List.replicate n 0
/-- The first block of what is left of a text. -/
def blk (s : L) : L := s.take 512 ++ noughts (512 - s.length)
/-- The first n blocks of a text. -/
def blks : Nat → L → List L
  | 0, _ => []
  | n + 1, s => blk s :: blks n (s.drop 512)
def manyN (n : Nat) : Nat := (n + 511) / 512
def manyV (n : Int) : Int := if n < 1 then 0 else (n - 1) / 512 + 1
def cutV (s : L) : List L := blks (manyN s.length) s
def mayV (l : List L) : Bool := l.all fun b => decide (b.length = 512)
def zeroV (b : L) : Bool := b.all fun x => decide (x = 0)
def zerosV (n : Int) : List L := if 1 ≤ n ∧ n ≤ 400 then blks n.toNat [] else []
def textB (l : List L) (n : Int) : Bool := mayV l && decide (0 ≤ n ∧ manyV n = (l.length : Int))
def textV (l : List L) (n : Int) : L := if textB l n = true then l.flatten.take n.toNat else []

theorem noughts_length (n : Nat) : (noughts n).length = n := by simp [noughts]
theorem noughts_add (m n : Nat) : noughts m ++ noughts n = noughts (m + n) := by simp [noughts]
theorem noughts_take (m n : Nat) : (noughts m).take n = noughts (min n m) := by simp [noughts]
theorem noughts_drop (m n : Nat) : (noughts m).drop n = noughts (m - n) := by simp [noughts]
theorem blk_length (s : L) : (blk s).length = 512 := by
  rw [blk, List.length_append, List.length_take, noughts_length]
  omega
theorem blks_length (n : Nat) (s : L) : (blks n s).length = n := by
  induction n generalizing s with
  | zero => rfl
  | succ n ih => rw [blks, List.length_cons, ih]
theorem blks_snoc (n : Nat) (s : L) : blks (n + 1) s = blks n s ++ [blk (s.drop (512 * n))] := by
  induction n generalizing s with
  | zero => rfl
  | succ n ih =>
    rw [blks, ih, blks, List.cons_append, List.drop_drop]
    congr 5
    omega
theorem blks_add (m n : Nat) (s : L) : blks (m + n) s = blks m s ++ blks n (s.drop (512 * m)) := by
  induction m generalizing s with
  | zero => simp [blks]
  | succ m ih =>
    rw [show m + 1 + n = (m + n) + 1 by omega, blks, ih, blks, List.cons_append, List.drop_drop]
    congr 4
    omega
theorem blks_at {n i : Nat} (s : L) (h : i < n) : (blks n s)[i]? = some (blk (s.drop (512 * i))) := by
  induction n generalizing i s with
  | zero => omega
  | succ n ih =>
    cases i with
    | zero => simp [blks]
    | succ i =>
      rw [blks, List.getElem?_cons_succ, ih (s.drop 512) (by omega), List.drop_drop]
      congr 3
      omega
theorem blks_mem {n : Nat} {s b : L} (h : b ∈ blks n s) : b.length = 512 := by
  induction n generalizing s with
  | zero => simp [blks] at h
  | succ n ih =>
    rw [blks, List.mem_cons] at h
    rcases h with rfl | h
    · exact blk_length s
    · exact ih h
theorem mayV_iff {l : List L} : mayV l = true ↔ ∀ b ∈ l, b.length = 512 := by simp [mayV]
theorem blks_may (n : Nat) (s : L) : mayV (blks n s) = true := mayV_iff.2 fun _ h => blks_mem h
theorem blks_flatten (n : Nat) (s : L) : (blks n s).flatten = s.take (512 * n) ++ noughts (512 * n - s.length) := by
  induction n generalizing s with
  | zero => simp [blks, noughts]
  | succ n ih =>
    rw [blks, List.flatten_cons, ih, blk]
    by_cases h : s.length ≤ 512
    · rw [List.drop_of_length_le h, List.take_of_length_le h, List.take_nil, List.nil_append, List.length_nil, List.append_assoc, noughts_add, List.take_of_length_le (by omega)]
      congr 2
      omega
    · rw [show 512 - s.length = 0 by omega, show noughts 0 = [] from rfl, List.append_nil, ← List.append_assoc, List.length_drop, show 512 * n - (s.length - 512) = 512 * (n + 1) - s.length by omega]
      congr 1
      rw [show 512 * (n + 1) = 512 + 512 * n by omega, List.take_add]
theorem may_flatten {l : List L} (h : mayV l = true) : l.flatten.length = 512 * l.length := by
  induction l with
  | nil => rfl
  | cons b l ih =>
    have h' := mayV_iff.1 h
    rw [List.flatten_cons, List.length_append, ih (mayV_iff.2 fun x hx => h' x (List.mem_cons_of_mem _ hx)), h' b List.mem_cons_self, List.length_cons]
    omega

/-! ### how many -/
theorem manyV_nat (n : Nat) : manyV (n : Int) = (manyN n : Int) := by unfold manyV manyN; split <;> omega
theorem manyV_neg {n : Int} (h : n < 1) : manyV n = 0 := by simp [manyV, h]
theorem manyN_le (n : Nat) : n ≤ 512 * manyN n := by unfold manyN; omega
theorem manyN_lt (n : Nat) : 512 * manyN n < n + 512 := by unfold manyN; omega
theorem manyN_small {n k : Nat} (h : n ≤ 512 * k) : manyN n ≤ k := by unfold manyN; omega
theorem manyN_of {n k : Nat} (h1 : n ≤ 512 * k) (h2 : 512 * k < n + 512) : manyN n = k := by unfold manyN; omega
theorem manyV_bound {n : Int} (h : n < 9223372036854775808) : 0 ≤ manyV n ∧ manyV n < 9223372036854775808 := by unfold manyV; split <;> omega

/-! ### what is cut is told again -/
theorem cutV_length (s : L) : (cutV s).length = manyN s.length := blks_length _ _
theorem cutV_may (s : L) : mayV (cutV s) = true := blks_may _ _
theorem cutV_flatten (s : L) : (cutV s).flatten = s ++ noughts (512 * manyN s.length - s.length) := by
  rw [cutV, blks_flatten, List.take_of_length_le (manyN_le _)]
theorem cutV_textB (s : L) : textB (cutV s) (s.length : Int) = true := by
  simp [textB, cutV_may, cutV_length, manyV_nat]
theorem cutV_textV (s : L) : textV (cutV s) (s.length : Int) = s := by
  rw [textV, if_pos (cutV_textB s), cutV_flatten, Int.toNat_natCast, List.take_left]
theorem cutV_at {s : L} {i : Nat} (h : i < manyN s.length) : (cutV s)[i]? = some (blk (s.drop (512 * i))) := blks_at s h
theorem blk_at {s : L} {j : Nat} (h : j < 512) : (blk s)[j]? = some (if j < s.length then s[j]?.getD 0 else 0) := by
  rw [blk]
  by_cases hj : j < s.length
  · rw [List.getElem?_append_left (by rw [List.length_take]; omega), List.getElem?_take, if_pos h, if_pos hj, List.getElem?_eq_getElem hj]
    rfl
  · rw [List.getElem?_append_right (by rw [List.length_take]; omega), if_neg hj, noughts, List.getElem?_replicate, if_pos (by rw [List.length_take]; omega)]
/-- A byte behind the text is 0. -/
theorem cutV_behind {s : L} {i : Nat} (h1 : s.length ≤ i) (h2 : i < 512 * manyN s.length) : ∃ b, (cutV s)[i / 512]? = some b ∧ b[i % 512]? = some 0 := by
  refine ⟨_, cutV_at (s := s) (i := i / 512) (by omega), ?_⟩
  rw [blk_at (by omega), if_neg (by rw [List.length_drop]; omega)]

/-! ### texts of blocks -/
theorem textB_iff {l : List L} {n : Int} : textB l n = true ↔ mayV l = true ∧ 0 ≤ n ∧ manyV n = (l.length : Int) := by simp [textB]
theorem textB_le {l : List L} {n : Int} (h : textB l n = true) : n.toNat ≤ l.flatten.length := by
  obtain ⟨h1, h2, h3⟩ := textB_iff.1 h
  obtain ⟨m, rfl⟩ := Int.eq_ofNat_of_zero_le h2
  rw [may_flatten h1, Int.toNat_natCast]
  rw [manyV_nat] at h3
  have := manyN_le m
  omega
theorem textV_length {l : List L} {n : Int} (h : textB l n = true) : (textV l n).length = n.toNat := by
  rw [textV, if_pos h, List.length_take, Nat.min_eq_left (textB_le h)]
theorem textV_no {l : List L} {n : Int} (h : textB l n = false) : textV l n = [] := by simp [textV, h]
theorem textV_take {l : List L} {n k : Int} (hn : textB l n = true) (hk : textB l k = true) (h : n ≤ k) : textV l n = (textV l k).take n.toNat := by
  rw [textV, if_pos hn, textV, if_pos hk, List.take_take, Nat.min_eq_left (by omega)]

/-! ### noughts -/
theorem zeroV_iff {b : L} : zeroV b = true ↔ b = noughts b.length := by
  simp only [zeroV, List.all_eq_true, decide_eq_true_eq]
  exact List.eq_replicate_iff.trans ⟨fun h => h.2, fun h => ⟨rfl, h⟩⟩ |>.symm
theorem blk_noughts (n : Nat) : blk (noughts n) = noughts 512 := by
  rw [blk, noughts_take, noughts_length, noughts_add]
  congr 1
  omega
theorem blks_noughts (n m : Nat) : blks n (noughts m) = List.replicate n (noughts 512) := by
  induction n generalizing m with
  | zero => rfl
  | succ n ih => rw [blks, blk_noughts, noughts_drop, ih, List.replicate_succ]
theorem blks_nil (n : Nat) : blks n [] = List.replicate n (noughts 512) := blks_noughts n 0
theorem zerosV_yes {n : Int} (h : 1 ≤ n ∧ n ≤ 400) : zerosV n = blks n.toNat [] := by simp [zerosV, h]
theorem zerosV_no {n : Int} (h : ¬ (1 ≤ n ∧ n ≤ 400)) : zerosV n = [] := by simp [zerosV, h]
theorem cutV_noughts (n : Nat) : cutV (noughts (512 * n)) = blks n [] := by
  rw [cutV, blks_noughts, blks_nil, noughts_length, manyN_of (k := n) (by omega) (by omega)]
theorem zero_at {n i : Nat} (h : i < n) : ∃ b, (blks n [])[i]? = some b ∧ zeroV b = true ∧ b.length = 512 := by
  refine ⟨noughts 512, by rw [blks_nil, List.getElem?_replicate, if_pos h], ?_, noughts_length _⟩
  exact zeroV_iff.2 (by rw [noughts_length])

/-! ### joined; apart -/
theorem cutV_join {a b : L} (h : a.length % 512 = 0) : cutV (a ++ b) = cutV a ++ cutV b := by
  have ha : manyN a.length = a.length / 512 := manyN_of (by omega) (by omega)
  have hb : manyN (a ++ b).length = a.length / 512 + manyN b.length := by
    rw [List.length_append]
    unfold manyN
    omega
  have e : 512 * (a.length / 512) = a.length := by omega
  have first : ∀ (k : Nat) (x : L), 512 * k ≤ x.length → blks k (x ++ b) = blks k x := by
    intro k
    induction k with
    | zero => intro x _; rfl
    | succ k ih =>
      intro x hx
      rw [blks, blks, List.drop_append_of_le_length (by omega), ih (x.drop 512) (by rw [List.length_drop]; omega)]
      congr 1
      rw [blk, blk, List.take_append_of_le_length (by omega), List.length_append, show 512 - (x.length + b.length) = 512 - x.length by omega]
  rw [cutV, hb, blks_add, e, List.drop_left, first _ _ (by omega), cutV, ha]
  rfl
theorem cutV_inj {a b : L} (hl : a.length = b.length) (h : cutV a = cutV b) : a = b := by
  have h1 := congrArg List.flatten h
  rw [cutV_flatten, cutV_flatten, hl] at h1
  exact (List.append_inj h1 hl).1
theorem cutV_more {a : L} {n : Nat} (h : manyN (a.length + n) = manyN a.length) : cutV (a ++ noughts n) = cutV a := by
  have key : ∀ (k : Nat) (x : L) (m : Nat), x.length + m ≤ 512 * k → blks k (x ++ noughts m) = blks k x := by
    intro k
    induction k with
    | zero =>
      intro x m _
      rfl
    | succ k ih =>
      intro x m hx
      rw [blks, blks]
      by_cases hs : 512 ≤ x.length
      · rw [List.drop_append_of_le_length hs, ih (x.drop 512) m (by rw [List.length_drop]; omega)]
        congr 1
        rw [blk, blk, List.take_append_of_le_length hs, List.length_append, show 512 - (x.length + (noughts m).length) = 512 - x.length by omega]
      · have e1 : (x ++ noughts m).drop 512 = noughts (x.length + m - 512) := by
          rw [List.drop_append, List.drop_of_length_le (by omega), List.nil_append, noughts_drop, show m - (512 - x.length) = x.length + m - 512 by omega]
        have e2 : x.drop 512 = [] := List.drop_of_length_le (by omega)
        rw [e1, e2, blks_noughts, blks_nil]
        have e3 : blk (x ++ noughts m) = blk x := by
          rw [blk, blk, List.take_append, List.take_of_length_le (by omega), List.append_assoc, noughts_take, noughts_add, List.length_append, noughts_length,
            show min (512 - x.length) m + (512 - (x.length + m)) = 512 - x.length by omega]
        rw [e3]
  rw [cutV, List.length_append, noughts_length, h, key _ _ _ (by rw [← h]; exact manyN_le _)]
  rfl
theorem cutV_more_iff {a : L} {n : Nat} : cutV a = cutV (a ++ noughts n) ↔ manyN a.length = manyN (a.length + n) := by
  constructor
  · intro h
    have h1 := congrArg List.length h
    rwa [cutV_length, cutV_length, List.length_append, noughts_length] at h1
  · intro h
    rw [cutV_more h.symm]
end Go.Proofs.YtopihahjjcpnpaaGreatDoor.BlockM
