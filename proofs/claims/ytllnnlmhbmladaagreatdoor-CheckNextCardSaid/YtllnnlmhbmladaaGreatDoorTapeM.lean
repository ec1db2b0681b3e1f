/-
  Records of so many blocks: plain functions over lists of bytes, and what follows of them: no Go, and no statement, is proved here.
  Tapes: plain functions over rows of bytes, and what follows of them: no Go, and no statement, is proved here.
-/
import Std
import Derived.Test.YtllnnlmhbmladaaGreatDoorBlockM
namespace Go.Proofs.YtllnnlmhbmladaaGreatDoor.RecM
open Go.Proofs.YtllnnlmhbmladaaGreatDoor.BlockM

def holdV (b : Int) : Bool := decide (1 ≤ b) && decide (b ≤ 20)
def rmanyV (n b : Int) : Int := if 1 ≤ n ∧ holdV b = true then (n - 1) / b + 1 else 0
def mayR (r : L) : Bool := decide (r.length % 512 = 0) && holdV ((r.length / 512 : Nat) : Int)
/-- A record of these blocks, that has room for b. -/
def recOf (b : Nat) (c : List L) : L := c.flatten ++ noughts (512 * b - c.flatten.length)
/-- So many pieces of b blocks, and the records that they are. -/
def cks (b : Nat) : Nat → List L → List (List L)
  | 0, _ => []
  | k + 1, l => l.take b :: cks b k (l.drop b)
def recs (b k : Nat) (l : List L) : List L := (cks b k l).map (recOf b)
def groupB (l : List L) (b : Int) : Bool := holdV b && decide (l.length ≤ 4000) && mayV l
def groupV (l : List L) (b : Int) : List L := if groupB l b = true then recs b.toNat (rmanyV l.length b).toNat l else []
def blocksB (rs : List L) : Bool := rs.all mayR
def blocksV (rs : List L) : List L := if blocksB rs = true then rs.flatMap cutV else []

theorem holdV_iff {b : Int} : holdV b = true ↔ 1 ≤ b ∧ b ≤ 20 := by simp [holdV]
theorem mayR_iff {r : L} : mayR r = true ↔ r.length % 512 = 0 ∧ 512 ≤ r.length ∧ r.length ≤ 10240 := by
  simp only [mayR, Bool.and_eq_true, decide_eq_true_eq, holdV_iff]
  omega
theorem groupB_iff {l : List L} {b : Int} : groupB l b = true ↔ (1 ≤ b ∧ b ≤ 20) ∧ l.length ≤ 4000 ∧ mayV l = true := by
  simp only [groupB, Bool.and_eq_true, decide_eq_true_eq, holdV_iff, and_assoc]
theorem groupV_yes {l : List L} {b : Int} (h : groupB l b = true) : groupV l b = recs b.toNat (rmanyV l.length b).toNat l := by simp [groupV, h]
theorem blocksV_no {rs : List L} (h : blocksB rs = false) : blocksV rs = [] := by simp [blocksV, h]
theorem blocksV_yes {rs : List L} (h : blocksB rs = true) : blocksV rs = rs.flatMap cutV := by simp [blocksV, h]
theorem blocksB_iff {rs : List L} : blocksB rs = true ↔ ∀ r ∈ rs, mayR r = true := by simp [blocksB]

theorem div_pos_bound {a b : Int} (ha : 0 ≤ a) (hb : 1 ≤ b) : 0 ≤ a / b ∧ a / b ≤ a :=
  ⟨Int.ediv_nonneg ha (by omega), Int.ediv_le_self b ha⟩
theorem rmanyV_no {n b : Int} (h : n < 1 ∨ holdV b = false) : rmanyV n b = 0 := by
  unfold rmanyV
  rw [if_neg]
  rintro ⟨h1, h2⟩
  rcases h with h | h
  · omega
  · rw [h] at h2
    cases h2
theorem rmanyV_yes {n b : Int} (h : 1 ≤ n) (h2 : holdV b = true) : rmanyV n b = (n - 1) / b + 1 := by
  unfold rmanyV
  rw [if_pos ⟨h, h2⟩]
/-- Enough, and one fewer is not. -/
theorem rmanyV_sound {n b : Int} (h : 1 ≤ n) (h2 : holdV b = true) : n ≤ rmanyV n b * b ∧ (rmanyV n b - 1) * b < n ∧ 1 ≤ rmanyV n b ∧ rmanyV n b ≤ n := by
  obtain ⟨hb, -⟩ := holdV_iff.1 h2
  rw [rmanyV_yes h h2]
  have h3 := Int.mul_ediv_add_emod (n - 1) b
  have h4 := Int.emod_nonneg (n - 1) (b := b) (by omega)
  have h5 := Int.emod_lt_of_pos (n - 1) (b := b) (by omega)
  have h6 := div_pos_bound (a := n - 1) (b := b) (by omega) hb
  have h7 : ((n - 1) / b + 1) * b = b * ((n - 1) / b) + b := by rw [Int.add_mul, Int.one_mul, Int.mul_comm]
  have h8 : ((n - 1) / b + 1 - 1) * b = b * ((n - 1) / b) := by rw [Int.add_sub_cancel, Int.mul_comm]
  omega
/-- .. in natural numbers. -/
theorem many_nat (n b : Nat) (hb : 1 ≤ b) (hb2 : b ≤ 20) : ∃ k : Nat, rmanyV (n : Int) (b : Int) = (k : Int) ∧ n ≤ b * k ∧ (b * k < n + b) ∧ (n = 0 ↔ k = 0) ∧ k ≤ n := by
  have hv : holdV (b : Int) = true := holdV_iff.2 ⟨by omega, by omega⟩
  rcases Nat.eq_zero_or_pos n with rfl | hn
  · exact ⟨0, rmanyV_no (.inl (by omega)), by omega, by omega, by simp, by omega⟩
  · obtain ⟨h1, h2, h3, h4⟩ := rmanyV_sound (n := n) (b := b) (by omega) hv
    obtain ⟨k, hk⟩ := Int.eq_ofNat_of_zero_le (show 0 ≤ rmanyV (n : Int) (b : Int) by omega)
    rw [hk] at h1 h2 h3 h4
    have e : (k : Int) * (b : Int) = ((b * k : Nat) : Int) := by rw [Int.natCast_mul, Int.mul_comm]
    have e2 : ((k : Int) - 1) * (b : Int) = ((b * k : Nat) : Int) - (b : Int) := by rw [Int.sub_mul, Int.one_mul, e]
    rw [e] at h1
    rw [e2] at h2
    exact ⟨k, hk, by omega, by omega, by omega, by omega⟩
theorem many_unique {n b k m : Nat} (_hb : 1 ≤ b) (h1 : n ≤ b * k) (h2 : b * k < n + b) (h3 : n ≤ b * m) (h4 : b * m < n + b) : k = m := by
  have a : k < m + 1 := Nat.lt_of_mul_lt_mul_left (a := b) (by rw [Nat.mul_add]; omega)
  have c : m < k + 1 := Nat.lt_of_mul_lt_mul_left (a := b) (by rw [Nat.mul_add]; omega)
  omega

theorem may_take {l : List L} (h : mayV l = true) (k : Nat) : mayV (l.take k) = true := mayV_iff.2 fun b hb => mayV_iff.1 h b (List.mem_of_mem_take hb)
theorem may_drop {l : List L} (h : mayV l = true) (k : Nat) : mayV (l.drop k) = true := mayV_iff.2 fun b hb => mayV_iff.1 h b (List.mem_of_mem_drop hb)
theorem may_append {l m : List L} (h : mayV l = true) (k : mayV m = true) : mayV (l ++ m) = true := mayV_iff.2 fun b hb => (List.mem_append.1 hb).elim (mayV_iff.1 h b) (mayV_iff.1 k b)
theorem recOf_length {b : Nat} {c : List L} (h : mayV c = true) (hc : c.length ≤ b) : (recOf b c).length = 512 * b := by
  rw [recOf, List.length_append, noughts_length, may_flatten h]
  omega
theorem cks_length (b k : Nat) (l : List L) : (cks b k l).length = k := by
  induction k generalizing l with
  | zero => rfl
  | succ k ih => rw [cks, List.length_cons, ih]
theorem recs_length (b k : Nat) (l : List L) : (recs b k l).length = k := by rw [recs, List.length_map, cks_length]
/-- A record's blocks. -/
theorem cut_rec {b : Nat} {c : List L} (h : mayV c = true) (hc : c.length ≤ b) : cutV (recOf b c) = c ++ List.replicate (b - c.length) (noughts 512) := by
  rw [recOf, may_flatten h, cutV_join (by rw [may_flatten h]; omega), show 512 * b - 512 * c.length = 512 * (b - c.length) by omega, cutV_noughts, blks_nil]
  congr 1
  clear hc
  induction c with
  | nil => rfl
  | cons x c ih =>
    have hx : x.length = 512 := mayV_iff.1 h x (by simp)
    have h' : mayV c = true := mayV_iff.2 fun y hy => mayV_iff.1 h y (by simp [hy])
    rw [List.flatten_cons, cutV_join (by omega), ih h']
    have hm : manyN x.length = 1 := by rw [hx]; rfl
    have h1 : cutV x = [x] := by
      rw [cutV, hm]
      show [blk x] = [x]
      rw [blk, hx, List.take_of_length_le (by omega)]
      simp [noughts]
    rw [h1]
    rfl
/-- What is grouped is blocks again, and noughts behind. -/
theorem cut_recs {b : Nat} (hb : 1 ≤ b) : ∀ (k : Nat) (l : List L), mayV l = true → l.length ≤ b * k → b * k < l.length + b → (recs b k l).flatMap cutV = l ++ List.replicate (b * k - l.length) (noughts 512)
  | 0, l, _, h1, _ => by
    have : l = [] := List.eq_nil_of_length_eq_zero (by omega)
    subst this
    rfl
  | k + 1, l, hm, h1, h2 => by
    rw [Nat.mul_succ] at h1 h2
    have hr : recs b (k + 1) l = recOf b (l.take b) :: recs b k (l.drop b) := rfl
    rw [hr, List.flatMap_cons, cut_rec (may_take hm b) (by rw [List.length_take]; omega)]
    by_cases hl : b ≤ l.length
    · rw [cut_recs hb k (l.drop b) (may_drop hm b) (by rw [List.length_drop]; omega) (by rw [List.length_drop]; omega), List.length_take, List.length_drop, Nat.min_eq_left hl, Nat.sub_self,
        show b * (k + 1) - l.length = b * k - (l.length - b) by rw [Nat.mul_succ]; omega]
      simp only [List.replicate_zero, List.append_nil]
      rw [← List.append_assoc, List.take_append_drop]
    · have hk : k = 0 := by
        rcases Nat.eq_zero_or_pos k with h | h
        · exact h
        · have : b ≤ b * k := Nat.le_mul_of_pos_right b h
          omega
      subst hk
      rw [List.length_take, Nat.min_eq_right (by omega), List.take_of_length_le (by omega)]
      simp [recs, cks]
theorem recs_may {b : Nat} (hb : 1 ≤ b) (hb2 : b ≤ 20) (k : Nat) (l : List L) (hm : mayV l = true) : ∀ r ∈ recs b k l, r.length = 512 * b ∧ mayR r = true := by
  induction k generalizing l with
  | zero => intro r h; cases h
  | succ k ih =>
    intro r h
    have hr : recs b (k + 1) l = recOf b (l.take b) :: recs b k (l.drop b) := rfl
    rw [hr] at h
    rcases List.mem_cons.1 h with rfl | h
    · have e := recOf_length (may_take hm b) (b := b) (by rw [List.length_take]; omega)
      exact ⟨e, mayR_iff.2 (by rw [e]; omega)⟩
    · exact ih _ (may_drop hm b) r h
/-- The law: grouped, and blocks again. -/
theorem back {l : List L} {b : Int} (h : groupB l b = true) : blocksB (groupV l b) = true ∧ ∃ d : Nat, (d : Int) < b ∧ blocksV (groupV l b) = l ++ List.replicate d (noughts 512) ∧ ((l.length + d : Nat) : Int) = b * ((groupV l b).length : Int) := by
  obtain ⟨⟨h1, h2⟩, h3, h4⟩ := groupB_iff.1 h
  obtain ⟨n, rfl⟩ := Int.eq_ofNat_of_zero_le (show 0 ≤ b by omega)
  obtain ⟨k, hk, k1, k2, -, -⟩ := many_nat l.length n (by omega) (by omega)
  have e : groupV l (n : Int) = recs n k l := by
    rw [groupV_yes h, hk]
    rfl
  have hB : blocksB (groupV l (n : Int)) = true := blocksB_iff.2 fun r hr => by
    rw [e] at hr
    exact (recs_may (by omega) (by omega) k l h4 r hr).2
  refine ⟨hB, n * k - l.length, by omega, ?_, ?_⟩
  · rw [blocksV_yes hB, e, cut_recs (by omega) k l h4 k1 k2]
  · rw [e, recs_length, ← Int.natCast_mul]
    omega

/-- Records that have all as many blocks. -/
theorem recs_again {b : Nat} (_hb : 1 ≤ b) (rs : List L) (h : ∀ r ∈ rs, r.length = 512 * b) : recs b rs.length (rs.flatMap cutV) = rs := by
  induction rs with
  | nil => rfl
  | cons r rs ih =>
    have hr : r.length = 512 * b := h r (by simp)
    have hcl : (cutV r).length = b := by rw [cutV_length, hr]; unfold manyN; omega
    have hf : (cutV r).flatten = r := by
      rw [cutV_flatten, hr, show 512 * manyN (512 * b) - 512 * b = 0 by unfold manyN; omega]
      simp [noughts]
    rw [List.flatMap_cons, List.length_cons]
    show recOf b ((cutV r ++ rs.flatMap cutV).take b) :: recs b rs.length ((cutV r ++ rs.flatMap cutV).drop b) = r :: rs
    rw [List.take_left' hcl, List.drop_left' hcl, ih fun x hx => h x (by simp [hx]), recOf, hf, hr]
    simp [noughts]
theorem flat_length {b : Nat} (rs : List L) (h : ∀ r ∈ rs, r.length = 512 * b) : (rs.flatMap cutV).length = b * rs.length := by
  induction rs with
  | nil => rfl
  | cons r rs ih =>
    have hcl : (cutV r).length = b := by rw [cutV_length, h r (by simp)]; unfold manyN; omega
    rw [List.flatMap_cons, List.length_append, hcl, ih fun x hx => h x (by simp [hx]), List.length_cons, Nat.mul_succ]
    omega
theorem flat_may (rs : List L) : mayV (rs.flatMap cutV) = true := mayV_iff.2 fun x hx => by
  obtain ⟨r, _, h⟩ := List.mem_flatMap.1 hx
  exact mayV_iff.1 (cutV_may r) x h
/-- The law. -/
theorem again {rs : List L} {b : Int} (h1 : 1 ≤ b) (h2 : b ≤ 20) (h : ∀ r ∈ rs, (r.length : Int) = 512 * b) (hl : rs.length ≤ 200) : blocksB rs = true ∧ groupB (blocksV rs) b = true ∧ groupV (blocksV rs) b = rs := by
  obtain ⟨n, rfl⟩ := Int.eq_ofNat_of_zero_le (show 0 ≤ b by omega)
  have h' : ∀ r ∈ rs, r.length = 512 * n := fun r hr => by have := h r hr; omega
  have hB : blocksB rs = true := blocksB_iff.2 fun r hr => mayR_iff.2 (by rw [h' r hr]; omega)
  have hfl := flat_length rs h'
  have hle : n * rs.length ≤ 20 * 200 := Nat.mul_le_mul (by omega) hl
  have hG : groupB (blocksV rs) (n : Int) = true := groupB_iff.2 ⟨⟨h1, h2⟩, by rw [blocksV_yes hB, hfl]; omega, by rw [blocksV_yes hB]; exact flat_may rs⟩
  refine ⟨hB, hG, ?_⟩
  obtain ⟨k, hk, k1, k2, -, -⟩ := many_nat (blocksV rs).length n (by omega) (by omega)
  rw [groupV_yes hG, hk]
  rw [blocksV_yes hB] at k1 k2 ⊢
  have : k = rs.length := many_unique (b := n) (by omega) k1 k2 (by rw [hfl]; exact Nat.le_refl _) (by rw [hfl]; omega)
  subst this
  exact recs_again (by omega) rs h'

/-- Blocks that fill their records. -/
theorem recs_add (b j k : Nat) (l m : List L) (h : l.length = b * j) : recs b (j + k) (l ++ m) = recs b j l ++ recs b k m := by
  induction j generalizing l with
  | zero =>
    have : l = [] := List.eq_nil_of_length_eq_zero (by omega)
    subst this
    rw [Nat.zero_add]
    rfl
  | succ j ih =>
    rw [Nat.mul_succ] at h
    have e1 : recs b (j + 1 + k) (l ++ m) = recOf b ((l ++ m).take b) :: recs b (j + k) ((l ++ m).drop b) := by rw [show j + 1 + k = (j + k) + 1 by omega]; rfl
    have e2 : recs b (j + 1) l = recOf b (l.take b) :: recs b j (l.drop b) := rfl
    rw [e1, e2, List.take_append_of_le_length (by omega), List.drop_append_of_le_length (by omega), ih _ (by rw [List.length_drop]; omega), List.cons_append]
theorem parts {l m : List L} {b : Int} (h1 : 1 ≤ b) (h2 : b ≤ 20) (hd : (l.length : Int) % b = 0) (hl : mayV l = true) (hm : mayV m = true) (s1 : l.length ≤ 1000) (s2 : m.length ≤ 1000) :
    groupB (l ++ m) b = true ∧ groupV (l ++ m) b = groupV l b ++ groupV m b := by
  have hG : groupB (l ++ m) b = true := groupB_iff.2 ⟨⟨h1, h2⟩, by rw [List.length_append]; omega, may_append hl hm⟩
  have hGl : groupB l b = true := groupB_iff.2 ⟨⟨h1, h2⟩, by omega, hl⟩
  have hGm : groupB m b = true := groupB_iff.2 ⟨⟨h1, h2⟩, by omega, hm⟩
  obtain ⟨n, rfl⟩ := Int.eq_ofNat_of_zero_le (show 0 ≤ b by omega)
  obtain ⟨j, hj⟩ : ∃ j : Nat, l.length = n * j := Nat.dvd_of_mod_eq_zero (by omega)
  obtain ⟨jl, hjl, a1, a2, -, -⟩ := many_nat l.length n (by omega) (by omega)
  obtain ⟨k, hk, k1, k2, -, -⟩ := many_nat m.length n (by omega) (by omega)
  obtain ⟨q, hq, q1, q2, -, -⟩ := many_nat (l ++ m).length n (by omega) (by omega)
  have ej : jl = j := many_unique (b := n) (by omega) a1 a2 (by omega) (by omega)
  have eq : q = j + k := many_unique (b := n) (by omega) q1 q2 (by rw [List.length_append, Nat.mul_add]; omega) (by rw [List.length_append, Nat.mul_add]; omega)
  subst ej eq
  refine ⟨hG, ?_⟩
  rw [groupV_yes hG, groupV_yes hGl, groupV_yes hGm, hq, hjl, hk]
  exact recs_add n jl k l m hj
theorem ones {l : List L} (hl : mayV l = true) (s : l.length ≤ 1000) : groupB l 1 = true ∧ groupV l 1 = l := by
  have hG : groupB l 1 = true := groupB_iff.2 ⟨⟨by omega, by omega⟩, by omega, hl⟩
  refine ⟨hG, ?_⟩
  obtain ⟨k, hk, k1, k2, -, -⟩ := many_nat l.length 1 (by omega) (by omega)
  have : k = l.length := by omega
  subst this
  have hk' : rmanyV (l.length : Int) 1 = (l.length : Int) := hk
  rw [groupV_yes hG, hk']
  show recs 1 l.length l = l
  clear hG hk hk' k1 k2 s
  induction l with
  | nil => rfl
  | cons x l ih =>
    have hx : x.length = 512 := mayV_iff.1 hl x (by simp)
    rw [List.length_cons]
    show recOf 1 [x] :: recs 1 l.length l = x :: l
    rw [ih (mayV_iff.2 fun y hy => mayV_iff.1 hl y (by simp [hy])), recOf]
    simp [noughts, hx]
end Go.Proofs.YtllnnlmhbmladaaGreatDoor.RecM

namespace Go.Proofs.YtllnnlmhbmladaaGreatDoor.TapeM
open Go.Proofs.YtllnnlmhbmladaaGreatDoor.BlockM Go.Proofs.YtllnnlmhbmladaaGreatDoor.RecM

@[ext] structure Tp where
  cap : Int
  rows : List L
  mark : Bool
deriving DecidableEq

def mayT (t : Tp) : Bool := decide (0 ≤ t.cap) && decide (t.cap ≤ 200) && decide ((t.rows.length : Int) ≤ t.cap) && blocksB t.rows
def newV (n : Int) : Tp × Bool := if 0 ≤ n ∧ n ≤ 200 then (⟨n, [], false⟩, true) else (⟨0, [], false⟩, false)
/-- No error is 0, a bad argument 1, the end 8, nothing there 9. -/
def writeV (t : Tp) (r : L) : Tp × Nat :=
  if (mayT t && mayR r) = false then (t, 1)
  else if t.mark = true ∨ t.cap ≤ (t.rows.length : Int) then (t, 8)
  else (⟨t.cap, t.rows ++ [r], false⟩, 0)
def fillG : Tp → List L → Tp × Nat × Nat
  | t, [] => (t, 0, 0)
  | t, r :: rs => if (writeV t r).2 = 0 then ((fillG (writeV t r).1 rs).1, (fillG (writeV t r).1 rs).2.1 + 1, (fillG (writeV t r).1 rs).2.2) else (t, 0, (writeV t r).2)
def fillV (t : Tp) (rs : List L) : Tp × Nat × Nat := if mayT t = true then fillG t rs else (t, 0, 1)
def readV (t : Tp) (i : Int) : L × Nat :=
  if mayT t = false then ([], 1) else if i < 0 then ([], 9) else if (t.rows.length : Int) ≤ i then ([], 8) else (t.rows.getD i.toNat [], 0)
def closeV (t : Tp) : Tp × Nat := if mayT t = false then (t, 1) else if t.mark = true then (t, 8) else (⟨t.cap, t.rows, true⟩, 0)
theorem mayT_iff {t : Tp} : mayT t = true ↔ 0 ≤ t.cap ∧ t.cap ≤ 200 ∧ (t.rows.length : Int) ≤ t.cap ∧ ∀ r ∈ t.rows, mayR r = true := by
  simp only [mayT, Bool.and_eq_true, decide_eq_true_eq, blocksB_iff, and_assoc]

theorem writeV_yes {t : Tp} {r : L} (h : mayT t = true) (h2 : mayR r = true) (h3 : t.mark = false) (h4 : (t.rows.length : Int) < t.cap) : writeV t r = (⟨t.cap, t.rows ++ [r], false⟩, 0) := by
  unfold writeV
  rw [h, h2, h3, if_neg (by simp), if_neg (by simp; omega)]
theorem readV_yes {t : Tp} {i : Int} (h : mayT t = true) (h0 : 0 ≤ i) (h1 : i < (t.rows.length : Int)) : readV t i = (t.rows.getD i.toNat [], 0) := by
  rw [readV, h, if_neg (by simp), if_neg (by omega), if_neg (by omega)]
end Go.Proofs.YtllnnlmhbmladaaGreatDoor.TapeM

