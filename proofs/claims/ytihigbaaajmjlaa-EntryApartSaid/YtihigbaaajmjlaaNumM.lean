/-
  Plain arithmetic on the digits of numbers, to the base of 8 and of 256: no Go, and no statement, is proved here.
-/
namespace Go.Proofs.Ytihigbaaajmjlaa.NumM

/-- d digits of n to the base b, the highest one first, each written by f. -/
def digs (b : Nat) (f : Nat → UInt8) : Nat → Nat → List UInt8
  | 0, _ => []
  | d + 1, n => digs b f d (n / b) ++ [f (n % b)]

def oc (x : Nat) : UInt8 := UInt8.ofNat (48 + x)
def octs (d n : Nat) : List UInt8 := digs 8 oc d n
def byts (d n : Nat) : List UInt8 := digs 256 UInt8.ofNat d n

theorem digs_length (b : Nat) (f : Nat → UInt8) : ∀ d n, (digs b f d n).length = d
  | 0, _ => rfl
  | d + 1, n => by simp [digs, digs_length b f d]

theorem digs_cons (b : Nat) (f : Nat → UInt8) : ∀ d n, digs b f (d + 1) n = f (n / b ^ d % b) :: digs b f d n
  | 0, n => by simp [digs]
  | d + 1, n => by
    have ih := digs_cons b f d (n / b)
    rw [show digs b f (d + 1 + 1) n = digs b f (d + 1) (n / b) ++ [f (n % b)] from rfl, ih, Nat.div_div_eq_div_mul, ← Nat.pow_succ']
    rfl

theorem digs_at (b : Nat) (f : Nat → UInt8) : ∀ d n i, i < d → (digs b f d n)[i]? = some (f (n / b ^ (d - 1 - i) % b))
  | d + 1, n, 0, _ => by simp [digs_cons]
  | d + 1, n, i + 1, h => by
    rw [digs_cons, List.getElem?_cons_succ, digs_at b f d n i (by omega)]
    rw [show d + 1 - 1 - (i + 1) = d - 1 - i by omega]

theorem digs_inj (b : Nat) (f : Nat → UInt8) (hf : ∀ x y, x < b → y < b → f x = f y → x = y) (hb : 0 < b) : ∀ d n m, n < b ^ d → m < b ^ d → digs b f d n = digs b f d m → n = m
  | 0, n, m, hn, hm, _ => by simp at hn hm; omega
  | d + 1, n, m, hn, hm, h => by
    simp only [digs] at h
    have h2 := List.append_inj' h rfl
    have e1 := digs_inj b f hf hb d (n / b) (m / b) (by rw [Nat.div_lt_iff_lt_mul hb]; rwa [Nat.pow_succ] at hn) (by rw [Nat.div_lt_iff_lt_mul hb]; rwa [Nat.pow_succ] at hm) h2.1
    have e2 := hf _ _ (Nat.mod_lt n hb) (Nat.mod_lt m hb) (by simpa using h2.2)
    rw [← Nat.div_add_mod n b, ← Nat.div_add_mod m b, e1, e2]

theorem digs_zero_cons (b : Nat) (f : Nat → UInt8) (d n : Nat) (h : n < b ^ d) : digs b f (d + 1) n = f 0 :: digs b f d n := by
  rw [digs_cons, Nat.div_eq_of_lt h, Nat.zero_mod]

theorem oc_toNat {x : Nat} (h : x < 8) : (oc x).toNat = 48 + x := by
  unfold oc
  simp [UInt8.toNat_ofNat']
  omega
theorem oc_inj : ∀ x y, x < 8 → y < 8 → oc x = oc y → x = y := by
  intro x y hx hy h
  have := congrArg UInt8.toNat h
  rw [oc_toNat hx, oc_toNat hy] at this
  omega
theorem by_toNat {x : Nat} (h : x < 256) : (UInt8.ofNat x).toNat = x := by
  simp [UInt8.toNat_ofNat']
  omega
theorem by_inj : ∀ x y, x < 256 → y < 256 → UInt8.ofNat x = UInt8.ofNat y → x = y := by
  intro x y hx hy h
  have := congrArg UInt8.toNat h
  rw [by_toNat hx, by_toNat hy] at this
  exact this

theorem octs_length (d n : Nat) : (octs d n).length = d := digs_length _ _ _ _
theorem byts_length (d n : Nat) : (byts d n).length = d := digs_length _ _ _ _
theorem octs_at {d n i : Nat} (h : i < d) : (octs d n)[i]? = some (oc (n / 8 ^ (d - 1 - i) % 8)) := digs_at _ _ _ _ _ h
theorem byts_at {d n i : Nat} (h : i < d) : (byts d n)[i]? = some (UInt8.ofNat (n / 256 ^ (d - 1 - i) % 256)) := digs_at _ _ _ _ _ h
theorem octs_succ (d n : Nat) : octs (d + 1) n = octs d (n / 8) ++ [oc (n % 8)] := rfl
theorem byts_succ (d n : Nat) : byts (d + 1) n = byts d (n / 256) ++ [UInt8.ofNat (n % 256)] := rfl
theorem octs_cons (d n : Nat) : octs (d + 1) n = oc (n / 8 ^ d % 8) :: octs d n := digs_cons _ _ _ _
theorem byts_cons (d n : Nat) : byts (d + 1) n = UInt8.ofNat (n / 256 ^ d % 256) :: byts d n := digs_cons _ _ _ _
theorem octs_inj {d n m : Nat} (hn : n < 8 ^ d) (hm : m < 8 ^ d) (h : octs d n = octs d m) : n = m := digs_inj 8 oc oc_inj (by omega) d n m hn hm h
theorem byts_inj {d n m : Nat} (hn : n < 256 ^ d) (hm : m < 256 ^ d) (h : byts d n = byts d m) : n = m := digs_inj 256 _ by_inj (by omega) d n m hn hm h
theorem octs_mem {d n : Nat} {x : UInt8} (h : x ∈ octs d n) : 48 ≤ x.toNat ∧ x.toNat ≤ 55 := by
  obtain ⟨i, hi, he⟩ := List.getElem_of_mem h
  rw [octs_length] at hi
  have h1 := octs_at (n := n) hi
  rw [List.getElem?_eq_getElem (by rw [octs_length]; exact hi), he] at h1
  injection h1 with h1
  rw [h1, oc_toNat (Nat.mod_lt _ (by omega))]
  have := Nat.mod_lt (n / 8 ^ (d - 1 - i)) (show 0 < 8 by omega)
  omega

/-- What stands in a field of that width: digits and a byte 0, or a byte 128 and bytes. -/
def putL (w n : Nat) : List UInt8 := if n < 8 ^ (w - 1) then octs (w - 1) n ++ [0] else 128 :: byts (w - 1) n
theorem putL_few {w n : Nat} (h : n < 8 ^ (w - 1)) : putL w n = octs (w - 1) n ++ [0] := if_pos h
theorem putL_many {w n : Nat} (h : ¬ n < 8 ^ (w - 1)) : putL w n = 128 :: byts (w - 1) n := if_neg h
theorem putL_length {w n : Nat} (h : 1 ≤ w) : (putL w n).length = w := by
  unfold putL
  split
  · rw [List.length_append, octs_length]; simp; omega
  · rw [List.length_cons, byts_length]; omega
theorem putL_few_head {w n : Nat} (hw : 2 ≤ w) (h : n < 8 ^ (w - 1)) : ∃ x t, putL w n = x :: t ∧ 48 ≤ x.toNat ∧ x.toNat ≤ 55 := by
  rw [putL_few h]
  obtain ⟨d, hd⟩ : ∃ d, w - 1 = d + 1 := ⟨w - 2, by omega⟩
  rw [hd]
  have hm : ∀ x ∈ octs (d + 1) n, 48 ≤ x.toNat ∧ x.toNat ≤ 55 := fun x hx => octs_mem hx
  rw [octs_cons] at hm ⊢
  have := hm _ (List.mem_cons_self)
  exact ⟨_, _, rfl, this⟩
theorem putL_inj {w n m : Nat} (hw : 2 ≤ w) (hn : n < 256 ^ (w - 1)) (hm : m < 256 ^ (w - 1)) (h : putL w n = putL w m) : n = m := by
  by_cases h1 : n < 8 ^ (w - 1) <;> by_cases h2 : m < 8 ^ (w - 1)
  · rw [putL_few h1, putL_few h2] at h
    exact octs_inj h1 h2 (List.append_inj' h rfl).1
  · obtain ⟨x, t, e, hx⟩ := putL_few_head hw h1
    rw [e, putL_many h2] at h
    injection h with h _
    subst h
    simp at hx
  · obtain ⟨x, t, e, hx⟩ := putL_few_head hw h2
    rw [e, putL_many h1] at h
    injection h with h _
    subst h
    simp at hx
  · rw [putL_many h1, putL_many h2] at h
    injection h with _ h
    exact byts_inj hn hm h
theorem pow_le_256 (d : Nat) : 8 ^ d ≤ 256 ^ d := Nat.pow_le_pow_left (by omega) d

/-- Are these the bytes of a number that is below 2^63? -/
structure IsNum (l : List UInt8) (n : Nat) : Prop where
  two : 2 ≤ l.length
  most : l.length ≤ 20
  small : n < 9223372036854775808
  fits : n < 256 ^ (l.length - 1)
  put : putL l.length n = l
theorem IsNum.same {l : List UInt8} {n m : Nat} (h : IsNum l n) (h' : IsNum l m) : n = m := putL_inj h.two h.fits h'.fits (h.put.trans h'.put.symm)
theorem isNum_put {w n : Nat} (h2 : 2 ≤ w) (h20 : w ≤ 20) (hs : n < 9223372036854775808) (hf : n < 256 ^ (w - 1)) : IsNum (putL w n) n := by
  have hl : (putL w n).length = w := putL_length (by omega)
  exact ⟨by omega, by omega, hs, by rw [hl]; exact hf, by rw [hl]⟩

/-- A step of reading: what is known of the digits from the one that comes on. -/
theorem div_step (b N m : Nat) : N / b ^ (m + 1) * b + N / b ^ m % b = N / b ^ m := by
  rw [Nat.pow_succ, ← Nat.div_div_eq_div_mul, Nat.mul_comm]
  exact Nat.div_add_mod _ _

/-- Of a number's bytes the first one tells which of both forms it has. -/
theorem IsNum.mark {l : List UInt8} {n : Nat} (h : IsNum l n) (h0 : l[0]? = some 128) : l = 128 :: byts (l.length - 1) n := by
  by_cases hf : n < 8 ^ (l.length - 1)
  · obtain ⟨x, t, e, hx⟩ := putL_few_head h.two hf
    rw [h.put] at e
    rw [e] at h0
    simp at h0
    subst h0
    simp at hx
  · have := h.put
    rw [putL_many hf] at this
    exact this.symm
theorem IsNum.few {l : List UInt8} {n : Nat} (h : IsNum l n) (h0 : l[0]? ≠ some 128) : n < 8 ^ (l.length - 1) ∧ l = octs (l.length - 1) n ++ [0] := by
  by_cases hf : n < 8 ^ (l.length - 1)
  · have := h.put
    rw [putL_few hf] at this
    exact ⟨hf, this.symm⟩
  · have := h.put
    rw [putL_many hf] at this
    rw [← this] at h0
    simp at h0
theorem IsNum.mark_at {l : List UInt8} {n : Nat} (h : IsNum l n) (h0 : l[0]? = some 128) {k : Nat} (hk : k + 1 < l.length) (hl : k + 1 < l.length) : l[k + 1].toNat = n / 256 ^ (l.length - 2 - k) % 256 := by
  have e := h.mark h0
  have e1 : l[k + 1]? = (byts (l.length - 1) n)[k]? := by
    conv => lhs; rw [e]
    rw [List.getElem?_cons_succ]
  rw [byts_at (by omega), List.getElem?_eq_getElem hk] at e1
  injection e1 with e1
  rw [e1, by_toNat (Nat.mod_lt _ (by omega)), show l.length - 1 - 1 - k = l.length - 2 - k by omega]
theorem IsNum.few_at {l : List UInt8} {n : Nat} (h : IsNum l n) (h0 : l[0]? ≠ some 128) {k : Nat} (hk : k < l.length) (hl : k + 1 < l.length) : l[k].toNat = 48 + n / 8 ^ (l.length - 2 - k) % 8 := by
  have e := (h.few h0).2
  have e1 : l[k]? = (octs (l.length - 1) n)[k]? := by
    conv => lhs; rw [e]
    rw [List.getElem?_append_left (by rw [octs_length]; omega)]
  rw [octs_at (by omega), List.getElem?_eq_getElem hk] at e1
  injection e1 with e1
  rw [e1, oc_toNat (Nat.mod_lt _ (by omega)), show l.length - 1 - 1 - k = l.length - 2 - k by omega]
end Go.Proofs.Ytihigbaaajmjlaa.NumM
