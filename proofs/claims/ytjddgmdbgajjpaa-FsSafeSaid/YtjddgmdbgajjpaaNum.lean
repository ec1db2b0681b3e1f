/-
  Plain arithmetic on the digits of numbers, to the base of 8 and of 256: no Go, and no statement, is proved here. Contracts of package num: what each function returns, and that it writes nothing that was there: no statement is proved here. Contracts of package num, more: putBytes and Put: no statement is proved here. Contracts of package num, more: guess and Get: no statement is proved here.
  Contracts of the document's answers for numbers (package reelkeeperref01): Octal and Put: no statement is proved here. The contract of the document's Get (package reelkeeperref01): no statement is proved here. num's answers, and the document's, as one function each: no statement is proved here.
-/
import Derived.Test.YtjddgmdbgajjpaaProg
import Derived.Test.YtjddgmdbgajjpaaBase
namespace Go.Proofs.Ytjddgmdbgajjpaa.NumM

/-- d digits of n to the base b, the highest one first, each written by f. -/
def digs (b : Nat) (f : Nat → UInt8) : Nat → Nat → List UInt8
  | 0, _ => []
  | d + 1, n => digs b f d (n / b) ++ [f (n % b)]

def oc (x : Nat) : UInt8 := UInt8.ofNat (48 + x)
def octs (d n : Nat) : List UInt8 := digs 8 oc d n
def byts (d n : Nat) : List UInt8 := digs 256 UInt8.ofNat d n

theorem digs_length (b : Nat) (f : Nat → UInt8) : ∀ d n, (digs b f d n).length = d
  | 0, _ => rfl
  | d + 1, n => by simp [digs, digs_length b f d]

theorem digs_cons (b : Nat) (f : Nat → UInt8) : ∀ d n, digs b f (d + 1) n = f (n / b ^ d % b) :: digs b f d n
  | 0, n => by simp [digs]
  | d + 1, n => by
    have ih := digs_cons b f d (n / b)
    rw [show digs b f (d + 1 + 1) n = digs b f (d + 1) (n / b) ++ [f (n % b)] from rfl, ih, Nat.div_div_eq_div_mul, ← Nat.pow_succ']
    rfl

theorem digs_at (b : Nat) (f : Nat → UInt8) : ∀ d n i, i < d → (digs b f d n)[i]? = some (f (n / b ^ (d - 1 - i) % b))
  | d + 1, n, 0, _ => by simp [digs_cons]
  | d + 1, n, i + 1, h => by
    rw [digs_cons, List.getElem?_cons_succ, digs_at b f d n i (by omega)]
    rw [show d + 1 - 1 - (i + 1) = d - 1 - i by omega]

theorem digs_inj (b : Nat) (f : Nat → UInt8) (hf : ∀ x y, x < b → y < b → f x = f y → x = y) (hb : 0 < b) : ∀ d n m, n < b ^ d → m < b ^ d → digs b f d n = digs b f d m → n = m
  | 0, n, m, hn, hm, _ => by simp at hn hm; omega
  | d + 1, n, m, hn, hm, h => by
    simp only [digs] at h
    have h2 := List.append_inj' h rfl
    have e1 := digs_inj b f hf hb d (n / b) (m / b) (by rw [Nat.div_lt_iff_lt_mul hb]; rwa [Nat.pow_succ] at hn) (by rw [Nat.div_lt_iff_lt_mul hb]; rwa [Nat.pow_succ] at hm) h2.1
    have e2 := hf _ _ (Nat.mod_lt n hb) (Nat.mod_lt m hb) (by simpa using h2.2)
    rw [← Nat.div_add_mod n b, ← Nat.div_add_mod m b, e1, e2]

theorem digs_zero_cons (b : Nat) (f : Nat → UInt8) (d n : Nat) (h : n < b ^ d) : digs b f (d + 1) n = f 0 :: digs b f d n := by
  rw [digs_cons, Nat.div_eq_of_lt h, Nat.zero_mod]

theorem oc_toNat {x : Nat} (h : x < 8) : (oc x).toNat = 48 + x := by
  unfold oc
  simp [UInt8.toNat_ofNat']
  omega
theorem oc_inj : ∀ x y, x < 8 → y < 8 → oc x = oc y → x = y := by
  intro x y hx hy h
  have := congrArg UInt8.toNat h
  rw [oc_toNat hx, oc_toNat hy] at this
  omega
theorem by_toNat {x : Nat} (h : x < 256) : (UInt8.ofNat x).toNat = x := by
  simp [UInt8.toNat_ofNat']
  omega
theorem by_inj : ∀ x y, x < 256 → y < 256 → UInt8.ofNat x = UInt8.ofNat y → x = y := by
  intro x y hx hy h
  have := congrArg UInt8.toNat h
  rw [by_toNat hx, by_toNat hy] at this
  exact this

theorem octs_length (d n : Nat) : (octs d n).length = d := digs_length _ _ _ _
theorem byts_length (d n : Nat) : (byts d n).length = d := digs_length _ _ _ _
theorem octs_at {d n i : Nat} (h : i < d) : (octs d n)[i]? = some (oc (n / 8 ^ (d - 1 - i) % 8)) := digs_at _ _ _ _ _ h
theorem byts_at {d n i : Nat} (h : i < d) : (byts d n)[i]? = some (UInt8.ofNat (n / 256 ^ (d - 1 - i) % 256)) := digs_at _ _ _ _ _ h
theorem octs_succ (d n : Nat) : octs (d + 1) n = octs d (n / 8) ++ [oc (n % 8)] := rfl
theorem byts_succ (d n : Nat) : byts (d + 1) n = byts d (n / 256) ++ [UInt8.ofNat (n % 256)] := rfl
theorem octs_cons (d n : Nat) : octs (d + 1) n = oc (n / 8 ^ d % 8) :: octs d n := digs_cons _ _ _ _
theorem byts_cons (d n : Nat) : byts (d + 1) n = UInt8.ofNat (n / 256 ^ d % 256) :: byts d n := digs_cons _ _ _ _
theorem octs_inj {d n m : Nat} (hn : n < 8 ^ d) (hm : m < 8 ^ d) (h : octs d n = octs d m) : n = m := digs_inj 8 oc oc_inj (by omega) d n m hn hm h
theorem byts_inj {d n m : Nat} (hn : n < 256 ^ d) (hm : m < 256 ^ d) (h : byts d n = byts d m) : n = m := digs_inj 256 _ by_inj (by omega) d n m hn hm h
theorem octs_mem {d n : Nat} {x : UInt8} (h : x ∈ octs d n) : 48 ≤ x.toNat ∧ x.toNat ≤ 55 := by
  obtain ⟨i, hi, he⟩ := List.getElem_of_mem h
  rw [octs_length] at hi
  have h1 := octs_at (n := n) hi
  rw [List.getElem?_eq_getElem (by rw [octs_length]; exact hi), he] at h1
  injection h1 with h1
  rw [h1, oc_toNat (Nat.mod_lt _ (by omega))]
  have := Nat.mod_lt (n / 8 ^ (d - 1 - i)) (show 0 < 8 by omega)
  omega

/-- What stands in a field of that width: digits and a byte 0, or a byte 128 and bytes. -/
def putL (w n : Nat) : List UInt8 := if n < 8 ^ (w - 1) then octs (w - 1) n ++ [0] else 128 :: byts (w - 1) n
theorem putL_few {w n : Nat} (h : n < 8 ^ (w - 1)) : putL w n = octs (w - 1) n ++ [0] := if_pos h
theorem putL_many {w n : Nat} (h : ¬ n < 8 ^ (w - 1)) : putL w n = 128 :: byts (w - 1) n := if_neg h
theorem putL_length {w n : Nat} (h : 1 ≤ w) : (putL w n).length = w := by
  unfold putL
  split
  · rw [List.length_append, octs_length]; simp; omega
  · rw [List.length_cons, byts_length]; omega
theorem putL_few_head {w n : Nat} (hw : 2 ≤ w) (h : n < 8 ^ (w - 1)) : ∃ x t, putL w n = x :: t ∧ 48 ≤ x.toNat ∧ x.toNat ≤ 55 := by
  rw [putL_few h]
  obtain ⟨d, hd⟩ : ∃ d, w - 1 = d + 1 := ⟨w - 2, by omega⟩
  rw [hd]
  have hm : ∀ x ∈ octs (d + 1) n, 48 ≤ x.toNat ∧ x.toNat ≤ 55 := fun x hx => octs_mem hx
  rw [octs_cons] at hm ⊢
  have := hm _ (List.mem_cons_self)
  exact ⟨_, _, rfl, this⟩
theorem putL_inj {w n m : Nat} (hw : 2 ≤ w) (hn : n < 256 ^ (w - 1)) (hm : m < 256 ^ (w - 1)) (h : putL w n = putL w m) : n = m := by
  by_cases h1 : n < 8 ^ (w - 1) <;> by_cases h2 : m < 8 ^ (w - 1)
  · rw [putL_few h1, putL_few h2] at h
    exact octs_inj h1 h2 (List.append_inj' h rfl).1
  · obtain ⟨x, t, e, hx⟩ := putL_few_head hw h1
    rw [e, putL_many h2] at h
    injection h with h _
    subst h
    simp at hx
  · obtain ⟨x, t, e, hx⟩ := putL_few_head hw h2
    rw [e, putL_many h1] at h
    injection h with h _
    subst h
    simp at hx
  · rw [putL_many h1, putL_many h2] at h
    injection h with _ h
    exact byts_inj hn hm h
theorem pow_le_256 (d : Nat) : 8 ^ d ≤ 256 ^ d := Nat.pow_le_pow_left (by omega) d

/-- Are these the bytes of a number that is below 2^63? -/
structure IsNum (l : List UInt8) (n : Nat) : Prop where
  two : 2 ≤ l.length
  most : l.length ≤ 20
  small : n < 9223372036854775808
  fits : n < 256 ^ (l.length - 1)
  put : putL l.length n = l
theorem IsNum.same {l : List UInt8} {n m : Nat} (h : IsNum l n) (h' : IsNum l m) : n = m := putL_inj h.two h.fits h'.fits (h.put.trans h'.put.symm)
theorem isNum_put {w n : Nat} (h2 : 2 ≤ w) (h20 : w ≤ 20) (hs : n < 9223372036854775808) (hf : n < 256 ^ (w - 1)) : IsNum (putL w n) n := by
  have hl : (putL w n).length = w := putL_length (by omega)
  exact ⟨by omega, by omega, hs, by rw [hl]; exact hf, by rw [hl]⟩

/-- A step of reading: what is known of the digits from the one that comes on. -/
theorem div_step (b N m : Nat) : N / b ^ (m + 1) * b + N / b ^ m % b = N / b ^ m := by
  rw [Nat.pow_succ, ← Nat.div_div_eq_div_mul, Nat.mul_comm]
  exact Nat.div_add_mod _ _

/-- Of a number's bytes the first one tells which of both forms it has. -/
theorem IsNum.mark {l : List UInt8} {n : Nat} (h : IsNum l n) (h0 : l[0]? = some 128) : l = 128 :: byts (l.length - 1) n := by
  by_cases hf : n < 8 ^ (l.length - 1)
  · obtain ⟨x, t, e, hx⟩ := putL_few_head h.two hf
    rw [h.put] at e
    rw [e] at h0
    simp at h0
    subst h0
    simp at hx
  · have := h.put
    rw [putL_many hf] at this
    exact this.symm
theorem IsNum.few {l : List UInt8} {n : Nat} (h : IsNum l n) (h0 : l[0]? ≠ some 128) : n < 8 ^ (l.length - 1) ∧ l = octs (l.length - 1) n ++ [0] := by
  by_cases hf : n < 8 ^ (l.length - 1)
  · have := h.put
    rw [putL_few hf] at this
    exact ⟨hf, this.symm⟩
  · have := h.put
    rw [putL_many hf] at this
    rw [← this] at h0
    simp at h0
theorem IsNum.mark_at {l : List UInt8} {n : Nat} (h : IsNum l n) (h0 : l[0]? = some 128) {k : Nat} (hk : k + 1 < l.length) (hl : k + 1 < l.length) : l[k + 1].toNat = n / 256 ^ (l.length - 2 - k) % 256 := by
  have e := h.mark h0
  have e1 : l[k + 1]? = (byts (l.length - 1) n)[k]? := by
    conv => lhs; rw [e]
    rw [List.getElem?_cons_succ]
  rw [byts_at (by omega), List.getElem?_eq_getElem hk] at e1
  injection e1 with e1
  rw [e1, by_toNat (Nat.mod_lt _ (by omega)), show l.length - 1 - 1 - k = l.length - 2 - k by omega]
theorem IsNum.few_at {l : List UInt8} {n : Nat} (h : IsNum l n) (h0 : l[0]? ≠ some 128) {k : Nat} (hk : k < l.length) (hl : k + 1 < l.length) : l[k].toNat = 48 + n / 8 ^ (l.length - 2 - k) % 8 := by
  have e := (h.few h0).2
  have e1 : l[k]? = (octs (l.length - 1) n)[k]? := by
    conv => lhs; rw [e]
    rw [List.getElem?_append_left (by rw [octs_length]; omega)]
  rw [octs_at (by omega), List.getElem?_eq_getElem hk] at e1
  injection e1 with e1
  rw [e1, oc_toNat (Nat.mod_lt _ (by omega)), show l.length - 1 - 1 - k = l.length - 2 - k by omega]
end Go.Proofs.Ytjddgmdbgajjpaa.NumM

namespace Go.Proofs.Ytjddgmdbgajjpaa.Num
open Go.RowKit Go.Proofs.Ytjddgmdbgajjpaa.Base Go.Proofs.Ytjddgmdbgajjpaa.NumM

theorem byte_info : (Try.prog.info? 5).map (fun i => (i.zero, i.size, i.bytes)) = some (some (.int .u8 0), 1, 1) := by kernel_rfl

theorem ba_eq {a b : ByteArray} (h : a.data.toList = b.data.toList) : a = b := by
  cases a; cases b
  simp only at h
  rw [ByteArray.mk.injEq]
  exact Array.toList_inj.1 h

/-- The cells of the text behind k rounds: zeros, and the digits that are there. -/
def octCells (d k n : Nat) : Array Value := Array.replicate (d - k) (.int .u8 0) ++ (bs (octs k n)).toArray
theorem octCells_size {d k n : Nat} (h : k ≤ d) : (octCells d k n).size = d := by
  simp [octCells, bs_length, octs_length]; omega
theorem octCells_step {d k n : Nat} (h : k < d) (x : Int) (hx : x = ((n / 8 ^ k : Nat) : Int)) : (octCells d k n).setIfInBounds (d - k - 1) (.int .u8 (48 + x % 8)) = octCells d (k + 1) n := by
  subst hx
  have e : (48 + ((n / 8 ^ k : Nat) : Int) % 8 : Int) = ((oc (n / 8 ^ k % 8)).toNat : Int) := by
    rw [oc_toNat (Nat.mod_lt _ (by omega))]; omega
  rw [e]
  unfold octCells
  rw [octs_cons]
  obtain ⟨j, hj⟩ : ∃ j, d - k = j + 1 := ⟨d - k - 1, by omega⟩
  rw [hj, show d - (k + 1) = j by omega, Nat.add_sub_cancel]
  apply Array.ext'
  rw [Array.toList_setIfInBounds]
  simp only [Array.toList_append, Array.toList_replicate, List.replicate_succ']
  rw [List.append_assoc, List.set_append_right _ _ (by simp)]
  simp [bs]

/-- Has Octal an answer? -/
def octOk (n d : Int) : Bool := decide (0 ≤ n ∧ 1 ≤ d ∧ d ≤ 20 ∧ n.toNat < 8 ^ d.toNat)
theorem octOk_iff {n d : Int} : octOk n d = true ↔ 0 ≤ n ∧ 1 ≤ d ∧ d ≤ 20 ∧ n.toNat < 8 ^ d.toNat := by simp [octOk]
theorem octOk_nat {n d : Nat} (h1 : 1 ≤ d) (h20 : d ≤ 20) : octOk (n : Int) (d : Int) = decide (n < 8 ^ d) := by
  unfold octOk
  rw [Int.toNat_natCast, Int.toNat_natCast]
  by_cases h : n < 8 ^ d
  · simp only [h, and_true, decide_true, decide_eq_true_eq]; omega
  · simp [h]

/-- Is that a width? -/
def widOk (n : Int) : Bool := decide (2 ≤ n ∧ n ≤ 20)
theorem widOk_iff {n : Int} : widOk n = true ↔ 2 ≤ n ∧ n ≤ 20 := by simp [widOk]
end Go.Proofs.Ytjddgmdbgajjpaa.Num

namespace Go.Proofs.Ytjddgmdbgajjpaa.Num
open Go.RowKit Go.Proofs.Ytjddgmdbgajjpaa.Base Go.Proofs.Ytjddgmdbgajjpaa.NumM

/-- The cells of the field behind k rounds: the mark, zeros, and the bytes that are there. -/
def pbCells (d k n : Nat) : Array Value := #[.int .u8 128] ++ Array.replicate (d - k) (.int .u8 0) ++ (bs (byts k n)).toArray
theorem pbCells_size {d k n : Nat} (h : k ≤ d) : (pbCells d k n).size = d + 1 := by
  simp [pbCells, bs_length, byts_length]; omega
theorem pbCells_step {d k n : Nat} (h : k < d) (x : Int) (hx : x = ((n / 256 ^ k : Nat) : Int)) : (pbCells d k n).setIfInBounds (d - k) (.int .u8 (x % 256)) = pbCells d (k + 1) n := by
  subst hx
  have e : (((n / 256 ^ k : Nat) : Int) % 256 : Int) = ((UInt8.ofNat (n / 256 ^ k % 256)).toNat : Int) := by
    rw [by_toNat (Nat.mod_lt _ (by omega))]; omega
  rw [e]
  unfold pbCells
  rw [byts_cons]
  obtain ⟨j, hj⟩ : ∃ j, d - k = j + 1 := ⟨d - k - 1, by omega⟩
  rw [hj, show d - (k + 1) = j by omega]
  apply Array.ext'
  rw [Array.toList_setIfInBounds]
  simp only [Array.toList_append, Array.toList_replicate, List.replicate_succ']
  rw [List.append_assoc, List.append_assoc, List.set_append_right _ _ (by simp)]
  simp [bs]

/-- Has Put an answer? -/
def putOk (n wide : Int) : Bool := decide (0 ≤ n ∧ 2 ≤ wide ∧ wide ≤ 20 ∧ n.toNat < 256 ^ (wide - 1).toNat)
theorem putOk_iff {n wide : Int} : putOk n wide = true ↔ 0 ≤ n ∧ 2 ≤ wide ∧ wide ≤ 20 ∧ n.toNat < 256 ^ (wide - 1).toNat := by simp [putOk]
theorem octOk_putOk {n wide : Int} (h2 : 2 ≤ wide) (h20 : wide ≤ 20) (h : octOk n (wide - 1) = true) : putOk n wide = true := by
  obtain ⟨h0, _, _, hf⟩ := octOk_iff.1 h
  exact putOk_iff.2 ⟨h0, h2, h20, Nat.lt_of_lt_of_le hf (pow_le_256 _)⟩

end Go.Proofs.Ytjddgmdbgajjpaa.Num

namespace Go.Proofs.Ytjddgmdbgajjpaa.Num
open Go.RowKit Go.Proofs.Ytjddgmdbgajjpaa.Base Go.Proofs.Ytjddgmdbgajjpaa.NumM

theorem step_fold (b N m : Nat) (g y : Int) (hN : N < 9223372036854775808) (hg : g = ((N / b ^ (m + 1) : Nat) : Int)) (hy : y = ((N / b ^ m % b : Nat) : Int)) : wrap64 (wrap64 (g * (b : Int)) + y) = ((N / b ^ m : Nat) : Int) ∧ wrap64 (g * (b : Int)) + y = ((N / b ^ m : Nat) : Int) := by
  have h1 := div_step b N m
  have h2 := Nat.div_le_self N (b ^ m)
  subst hg hy
  have e : ((N / b ^ (m + 1) : Nat) : Int) * (b : Int) = ((N / b ^ (m + 1) * b : Nat) : Int) := by rw [Int.natCast_mul]
  rw [e]
  generalize N / b ^ (m + 1) * b = p at *
  generalize N / b ^ m % b = q at *
  generalize N / b ^ m = r at *
  rw [IntWalk.wrap64_in (p : Int) ⟨by omega, by omega⟩, IntWalk.wrap64_in _ ⟨by omega, by omega⟩]
  exact ⟨by omega, by omega⟩
theorem wrap64_range (x : Int) : -9223372036854775808 ≤ wrap64 x ∧ wrap64 x < 9223372036854775808 := by unfold wrap64; omega
theorem step_fold_oct (N m : Nat) (g y : Int) (hN : N < 9223372036854775808) (hg : g = ((N / 8 ^ (m + 1) : Nat) : Int)) (hy : y = ((48 + N / 8 ^ m % 8 : Nat) : Int)) (hs : N < 4611686018427387904) : wrap64 (wrap64 (wrap64 (g * 8) + y) - 48) = ((N / 8 ^ m : Nat) : Int) := by
  have h1 := div_step 8 N m
  have h2 := Nat.div_le_self N (8 ^ m)
  subst hg hy
  have e : ((N / 8 ^ (m + 1) : Nat) : Int) * 8 = ((N / 8 ^ (m + 1) * 8 : Nat) : Int) := by omega
  rw [e]
  have h3 := Nat.mod_lt (N / 8 ^ m) (show 0 < 8 by omega)
  generalize N / 8 ^ (m + 1) * 8 = p at *
  generalize N / 8 ^ m % 8 = q at *
  generalize N / 8 ^ m = r at *
  rw [IntWalk.wrap64_in (p : Int) ⟨by omega, by omega⟩, IntWalk.wrap64_in ((p : Int) + _) ⟨by omega, by omega⟩, IntWalk.wrap64_in _ ⟨by omega, by omega⟩]
  omega
theorem first_is {l : List UInt8} (h : 0 < l.length) (hy : (128 : Int) = (l[0].toNat : Int)) : l[0]? = some 128 := by
  rw [List.getElem?_eq_getElem h]
  congr 1
  apply UInt8.toNat_inj.1
  simp only [UInt8.reduceToNat]
  omega
theorem first_not {l : List UInt8} {y : Int} (h : 0 < l.length) (hy : y = (l[0].toNat : Int)) (hn : ¬ y = 128) : l[0]? ≠ some 128 := by
  rw [List.getElem?_eq_getElem h]
  intro e
  injection e with e
  rw [e] at hy
  exact hn hy
theorem few_small {n d : Nat} (h : n < 8 ^ d) (hd : d ≤ 19) : n < 4611686018427387904 := by
  have : 8 ^ d ≤ 8 ^ 19 := Nat.pow_le_pow_right (by omega) hd
  have e : 8 ^ 19 = 144115188075855872 := by decide
  omega

theorem widOk_len {l : List UInt8} (h2 : 2 ≤ l.length) (h20 : l.length ≤ 20) : widOk (l.length : Int) = true := widOk_iff.2 ⟨by omega, by omega⟩
theorem putOk_num {l : List UInt8} {N : Nat} (h : IsNum l N) : putOk (N : Int) (l.length : Int) = true := by
  have h2 := h.two
  have h20 := h.most
  refine putOk_iff.2 ⟨by omega, by omega, by omega, ?_⟩
  rw [Int.toNat_natCast, show ((l.length : Int) - 1).toNat = l.length - 1 by omega]
  exact h.fits

theorem str_ne {l m : List UInt8} (h : l ≠ m) : (l == m) = false := beq_eq_false_iff_ne.2 h

end Go.Proofs.Ytjddgmdbgajjpaa.Num

namespace Go.Proofs.Ytjddgmdbgajjpaa.Num
open Go.RowKit Go.Proofs.Ytjddgmdbgajjpaa.Base Go.Proofs.Ytjddgmdbgajjpaa.NumM

/-- The digit that is cut out. -/
theorem digit_cut (y : Int) (h0 : 0 ≤ y) (h7 : y ≤ 7) (w : World) :
    (Instr.slice 9 (.string ⟨#[48, 49, 50, 51, 52, 53, 54, 55]⟩) (some (.int .i64 y)) (some (.int .i64 (y + 1))) none).run Try.prog w = .ok (.string ⟨#[oc y.toNat]⟩) w := by
  rw [run_slice_string (P := Try.prog) w 9 _ .i64 .i64 y (y + 1) Try.underlying9 h0 (by omega) (by show y + 1 ≤ 8; omega)]
  have h : y = 0 ∨ y = 1 ∨ y = 2 ∨ y = 3 ∨ y = 4 ∨ y = 5 ∨ y = 6 ∨ y = 7 := by omega
  rcases h with rfl | rfl | rfl | rfl | rfl | rfl | rfl | rfl <;> rfl

end Go.Proofs.Ytjddgmdbgajjpaa.Num

namespace Go.Proofs.Ytjddgmdbgajjpaa.Num
open Go.RowKit Go.Proofs.Ytjddgmdbgajjpaa.Base Go.Proofs.Ytjddgmdbgajjpaa.NumM

/-- What Get answers for these bytes. -/
def GetIs (l : List UInt8) (e : Ending) : Prop := (∀ N, IsNum l N → e = .returned (.tuple #[.int .i64 (N : Int), .bool true])) ∧ ((∀ N, ¬ IsNum l N) → e = .returned (.tuple #[.int .i64 0, .bool false]))
theorem getIs_no {l : List UInt8} (h : ∀ N, ¬ IsNum l N) : GetIs l (.returned (.tuple #[.int .i64 0, .bool false])) := ⟨fun N hN => absurd hN (h N), fun _ => rfl⟩

/-- The value that was read, behind k bytes. -/
def Val (l : List UInt8) (k : Nat) (g : Int) : Prop := ∀ N, IsNum l N → (l[0]? = some 128 → g = ((N / 256 ^ (l.length - k) : Nat) : Int)) ∧ (l[0]? ≠ some 128 → g = ((N / 8 ^ (l.length - 1 - k) : Nat) : Int))

theorem val_zero (l : List UInt8) : Val l 0 0 := by
  intro N hN
  refine ⟨fun _ => ?_, fun h => ?_⟩
  · have h1 := hN.fits
    have h2 : (256 : Nat) ^ (l.length - 1) ≤ 256 ^ (l.length - 0) := Nat.pow_le_pow_right (by omega) (by omega)
    rw [Nat.div_eq_of_lt (by omega)]
    rfl
  · have h1 := (hN.few h).1
    rw [Nat.sub_zero, Nat.div_eq_of_lt h1]
    rfl
theorem val_mark_first {l : List UInt8} {g : Int} (h0 : l[0]? = some 128) (h : Val l 0 g) : Val l 1 g := by
  intro N hN
  refine ⟨fun _ => ?_, fun h => absurd h0 h⟩
  have h1 := hN.fits
  have h2 : (256 : Nat) ^ (l.length - 1) ≤ 256 ^ (l.length - 0) := Nat.pow_le_pow_right (by omega) (by omega)
  rw [(h N hN).1 h0, Nat.div_eq_of_lt (by omega), Nat.div_eq_of_lt h1]
theorem val_mark_next {l : List UInt8} {k : Nat} {g y : Int} (h0 : l[0]? = some 128) (hk : k + 1 < l.length) (hy : y = (l[k + 1].toNat : Int)) (h : Val l (k + 1) g) : Val l (k + 1 + 1) (wrap64 (wrap64 (256 * g) + y)) := by
  intro N hN
  refine ⟨fun _ => ?_, fun h => absurd h0 h⟩
  have e := (step_fold 256 N (l.length - (k + 1 + 1)) g y hN.small (by rw [(h N hN).1 h0, show l.length - (k + 1 + 1) + 1 = l.length - (k + 1) by omega]) (by
    rw [hy, hN.mark_at h0 (k := k) hk hk, show l.length - 2 - k = l.length - (k + 1 + 1) by omega])).1
  rw [Int.mul_comm]
  exact e
theorem val_few_next {l : List UInt8} {k : Nat} {g y : Int} (h0 : l[0]? ≠ some 128) (hk : k + 1 < l.length) (hy : y = (l[k].toNat : Int)) (h : Val l k g) : Val l (k + 1) (wrap64 (wrap64 (8 * g) + (y - 48))) := by
  intro N hN
  refine ⟨fun h => absurd h h0, fun _ => ?_⟩
  have hg := (h N hN).2 h0
  have hy2 : y - 48 = ((N / 8 ^ (l.length - 2 - k) % 8 : Nat) : Int) := by
    rw [hy, hN.few_at h0 (k := k) (by omega) (by omega)]; omega
  have e := (step_fold 8 N (l.length - 2 - k) g (y - 48) hN.small (by rw [hg, show l.length - 2 - k + 1 = l.length - 1 - k by omega]) hy2).1
  rw [Int.mul_comm, show l.length - 1 - (k + 1) = l.length - 2 - k by omega]
  exact e
theorem val_few_last {l : List UInt8} {k : Nat} {g : Int} (h0 : l[0]? ≠ some 128) (hk : l.length ≤ k + 1) (h : Val l k g) : Val l (k + 1) g := by
  intro N hN
  refine ⟨fun h => absurd h h0, fun _ => ?_⟩
  rw [(h N hN).2 h0, show l.length - 1 - (k + 1) = l.length - 1 - k by omega]
theorem val_few_none {l : List UInt8} {k : Nat} {g' y : Int} (h0 : l[0]? ≠ some 128) (hk : k + 1 < l.length) (hy : y = (l[k].toNat : Int)) (hb : y < 48 ∨ 55 < y) : Val l (k + 1) g' := by
  intro N hN
  exfalso
  have := hN.few_at h0 (k := k) (by omega) (by omega)
  have h8 := Nat.mod_lt (N / 8 ^ (l.length - 2 - k)) (show 0 < 8 by omega)
  omega
theorem val_big {l : List UInt8} {k : Nat} {g : Int} (h0 : l[0]? = some 128) (hk : k < l.length) (hg : 36028797018963967 < g) (h : Val l k g) : ∀ N, ¬ IsNum l N := by
  intro N hN
  have h1 := (h N hN).1 h0
  obtain ⟨m, hm⟩ : ∃ m, l.length - k = m + 1 := ⟨l.length - k - 1, by omega⟩
  rw [hm, Nat.pow_succ, ← Nat.div_div_eq_div_mul] at h1
  have h2 := Nat.div_le_self N (256 ^ m)
  have h3 := hN.small
  generalize N / 256 ^ m = q at h1 h2
  omega

end Go.Proofs.Ytjddgmdbgajjpaa.Num

namespace Go.Proofs.Ytjddgmdbgajjpaa.Num
open Go.RowKit Go.Proofs.Ytjddgmdbgajjpaa.Base Go.Proofs.Ytjddgmdbgajjpaa.NumM

/-- What Octal answers. -/
def octV (n d : Int) : ByteArray := if octOk n d = true then ⟨(octs d.toNat n.toNat).toArray⟩ else ⟨#[]⟩
def putV (n wide : Int) : List UInt8 := if putOk n wide = true then putL wide.toNat n.toNat else []

/-- There is just one answer of Get. -/
theorem getIs_form (l : List UInt8) : ∃ (x : Int) (b : Bool), ∀ e, GetIs l e → e = .returned (.tuple #[.int .i64 x, .bool b]) := by
  by_cases hex : ∃ N, IsNum l N
  · obtain ⟨N, hN⟩ := hex
    exact ⟨N, true, fun e he => he.1 N hN⟩
  · exact ⟨0, false, fun e he => he.2 fun N hN => hex ⟨N, hN⟩⟩

end Go.Proofs.Ytjddgmdbgajjpaa.Num

