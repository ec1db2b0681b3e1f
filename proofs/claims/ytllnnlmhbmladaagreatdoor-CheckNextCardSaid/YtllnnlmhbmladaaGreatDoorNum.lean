/-
  Plain arithmetic on the digits of numbers, to the base of 8 and of 256: no Go, and no statement, is proved here. Contracts of package num: what each function returns, and that it writes nothing that was there: no statement is proved here. Contracts of package num, more: putBytes and Put: no statement is proved here. Contracts of package num, more: guess and Get: no statement is proved here.
  Contracts of the document's answers for numbers (package reelkeeperref01): Octal and Put: no statement is proved here. The contract of the document's Get (package reelkeeperref01): no statement is proved here. num's answers, and the document's, as one function each: no statement is proved here.
-/
import Derived.Test.YtllnnlmhbmladaaGreatDoorProg
import Derived.Test.YtllnnlmhbmladaaGreatDoorBase
namespace Go.Proofs.YtllnnlmhbmladaaGreatDoor.NumM

/-- d digits of n to the base b, the highest one first, each written by f. -/
def digs (b : Nat) (f : Nat → UInt8) : Nat → Nat → List UInt8
  | 0, _ => []
  | d + 1, n => digs b f d (n / b) ++ [f (n % b)]

def oc (x : Nat) : UInt8 := UInt8.ofNat (48 + x)
def octs (d n : Nat) : List UInt8 := digs 8 oc d n
def byts (d n : Nat) : List UInt8 := digs 256 UInt8.ofNat d n

theorem digs_length (b : Nat) (f : Nat → UInt8) : ∀ d n, (digs b f d n).length = d
  | 0, _ => rfl
  | d + 1, n => by simp [digs, digs_length b f d]

theorem digs_cons (b : Nat) (f : Nat → UInt8) : ∀ d n, digs b f (d + 1) n = f (n / b ^ d % b) :: digs b f d n
  | 0, n => by simp [digs]
  | d + 1, n => by
    have ih := digs_cons b f d (n / b)
    rw [show digs b f (d + 1 + 1) n = digs b f (d + 1) (n / b) ++ [f (n % b)] from rfl, ih, Nat.div_div_eq_div_mul, ← Nat.pow_succ']
    rfl

theorem digs_at (b : Nat) (f : Nat → UInt8) : ∀ d n i, i < d → (digs b f d n)[i]? = some (f (n / b ^ (d - 1 - i) % b))
  | d + 1, n, 0, _ => by simp [digs_cons]
  | d + 1, n, i + 1, h => by
    rw [digs_cons, List.getElem?_cons_succ, digs_at b f d n i (by omega)]
    rw [show d + 1 - 1 - (i + 1) = d - 1 - i by omega]

theorem digs_inj (b : Nat) (f : Nat → UInt8) (hf : ∀ x y, x < b → y < b → f x = f y → x = y) (hb : 0 < b) : ∀ d n m, n < b ^ d → m < b ^ d → digs b f d n = digs b f d m → n = m
  | 0, n, m, hn, hm, _ => by simp at hn hm; omega
  | d + 1, n, m, hn, hm, h => by
    simp only [digs] at h
    have h2 := List.append_inj' h rfl
    have e1 := digs_inj b f hf hb d (n / b) (m / b) (by rw [Nat.div_lt_iff_lt_mul hb]; rwa [Nat.pow_succ] at hn) (by rw [Nat.div_lt_iff_lt_mul hb]; rwa [Nat.pow_succ] at hm) h2.1
    have e2 := hf _ _ (Nat.mod_lt n hb) (Nat.mod_lt m hb) (by simpa using h2.2)
    rw [← Nat.div_add_mod n b, ← Nat.div_add_mod m b, e1, e2]

theorem oc_toNat {x : Nat} (h : x < 8) : (oc x).toNat = 48 + x := by
  unfold oc
  simp [UInt8.toNat_ofNat']
  omega
theorem oc_inj : ∀ x y, x < 8 → y < 8 → oc x = oc y → x = y := by
  intro x y hx hy h
  have := congrArg UInt8.toNat h
  rw [oc_toNat hx, oc_toNat hy] at this
  omega
theorem by_toNat {x : Nat} (h : x < 256) : (UInt8.ofNat x).toNat = x := by
  simp [UInt8.toNat_ofNat']
  omega
theorem by_inj : ∀ x y, x < 256 → y < 256 → UInt8.ofNat x = UInt8.ofNat y → x = y := by
  intro x y hx hy h
  have := congrArg UInt8.toNat h
  rw [by_toNat hx, by_toNat hy] at this
  exact this

theorem octs_length (d n : Nat) : (octs d n).length = d := digs_length _ _ _ _
theorem byts_length (d n : Nat) : (byts d n).length = d := digs_length _ _ _ _
theorem octs_at {d n i : Nat} (h : i < d) : (octs d n)[i]? = some (oc (n / 8 ^ (d - 1 - i) % 8)) := digs_at _ _ _ _ _ h
theorem byts_at {d n i : Nat} (h : i < d) : (byts d n)[i]? = some (UInt8.ofNat (n / 256 ^ (d - 1 - i) % 256)) := digs_at _ _ _ _ _ h
theorem octs_cons (d n : Nat) : octs (d + 1) n = oc (n / 8 ^ d % 8) :: octs d n := digs_cons _ _ _ _
theorem byts_cons (d n : Nat) : byts (d + 1) n = UInt8.ofNat (n / 256 ^ d % 256) :: byts d n := digs_cons _ _ _ _
theorem octs_inj {d n m : Nat} (hn : n < 8 ^ d) (hm : m < 8 ^ d) (h : octs d n = octs d m) : n = m := digs_inj 8 oc oc_inj (by omega) d n m hn hm h
theorem byts_inj {d n m : Nat} (hn : n < 256 ^ d) (hm : m < 256 ^ d) (h : byts d n = byts d m) : n = m := digs_inj 256 _ by_inj (by omega) d n m hn hm h
theorem octs_mem {d n : Nat} {x : UInt8} (h : x ∈ octs d n) : 48 ≤ x.toNat ∧ x.toNat ≤ 55 := by
  obtain ⟨i, hi, he⟩ := List.getElem_of_mem h
  rw [octs_length] at hi
  have h1 := octs_at (n := n) hi
  rw [List.getElem?_eq_getElem (by rw [octs_length]; exact hi), he] at h1
  injection h1 with h1
  rw [h1, oc_toNat (Nat.mod_lt _ (by omega))]
  have := Nat.mod_lt (n / 8 ^ (d - 1 - i)) (show 0 < 8 by omega)
  omega

/-- What stands in a field of that width: digits and a byte 0, or a byte 128 and bytes. -/
def putL (w n : Nat) : List UInt8 := if n < 8 ^ (w - 1) then octs (w - 1) n ++ [0] else 128 :: byts (w - 1) n
theorem putL_few {w n : Nat} (h : n < 8 ^ (w - 1)) : putL w n = octs (w - 1) n ++ [0] := if_pos h
theorem putL_many {w n : Nat} (h : ¬ n < 8 ^ (w - 1)) : putL w n = 128 :: byts (w - 1) n := if_neg h
theorem putL_length {w n : Nat} (h : 1 ≤ w) : (putL w n).length = w := by
  unfold putL
  split
  · rw [List.length_append, octs_length]; simp; omega
  · rw [List.length_cons, byts_length]; omega
theorem putL_few_head {w n : Nat} (hw : 2 ≤ w) (h : n < 8 ^ (w - 1)) : ∃ x t, putL w n = x :: t ∧ 48 ≤ x.toNat ∧ x.toNat ≤ 55 := by
  rw [putL_few h]
  obtain ⟨d, hd⟩ : ∃ d, w - 1 = d + 1 := ⟨w - 2, by omega⟩
  rw [hd]
  have hm : ∀ x ∈ octs (d + 1) n, 48 ≤ x.toNat ∧ x.toNat ≤ 55 := fun x hx => octs_mem hx
  rw [octs_cons] at hm ⊢
  have := hm _ (List.mem_cons_self)
  exact ⟨_, _, rfl, this⟩
theorem putL_inj {w n m : Nat} (hw : 2 ≤ w) (hn : n < 256 ^ (w - 1)) (hm : m < 256 ^ (w - 1)) (h : putL w n = putL w m) : n = m := by
  by_cases h1 : n < 8 ^ (w - 1) <;> by_cases h2 : m < 8 ^ (w - 1)
  · rw [putL_few h1, putL_few h2] at h
    exact octs_inj h1 h2 (List.append_inj' h rfl).1
  · obtain ⟨x, t, e, hx⟩ := putL_few_head hw h1
    rw [e, putL_many h2] at h
    injection h with h _
    subst h
    simp at hx
  · obtain ⟨x, t, e, hx⟩ := putL_few_head hw h2
    rw [e, putL_many h1] at h
    injection h with h _
    subst h
    simp at hx
  · rw [putL_many h1, putL_many h2] at h
    injection h with _ h
    exact byts_inj hn hm h
theorem pow_le_256 (d : Nat) : 8 ^ d ≤ 256 ^ d := Nat.pow_le_pow_left (by omega) d

/-- Are these the bytes of a number that is below 2^63? -/
structure IsNum (l : List UInt8) (n : Nat) : Prop where
  two : 2 ≤ l.length
  most : l.length ≤ 20
  small : n < 9223372036854775808
  fits : n < 256 ^ (l.length - 1)
  put : putL l.length n = l
theorem IsNum.same {l : List UInt8} {n m : Nat} (h : IsNum l n) (h' : IsNum l m) : n = m := putL_inj h.two h.fits h'.fits (h.put.trans h'.put.symm)
theorem isNum_put {w n : Nat} (h2 : 2 ≤ w) (h20 : w ≤ 20) (hs : n < 9223372036854775808) (hf : n < 256 ^ (w - 1)) : IsNum (putL w n) n := by
  have hl : (putL w n).length = w := putL_length (by omega)
  exact ⟨by omega, by omega, hs, by rw [hl]; exact hf, by rw [hl]⟩

/-- A step of reading: what is known of the digits from the one that comes on. -/
theorem div_step (b N m : Nat) : N / b ^ (m + 1) * b + N / b ^ m % b = N / b ^ m := by
  rw [Nat.pow_succ, ← Nat.div_div_eq_div_mul, Nat.mul_comm]
  exact Nat.div_add_mod _ _

/-- Of a number's bytes the first one tells which of both forms it has. -/
theorem IsNum.mark {l : List UInt8} {n : Nat} (h : IsNum l n) (h0 : l[0]? = some 128) : l = 128 :: byts (l.length - 1) n := by
  by_cases hf : n < 8 ^ (l.length - 1)
  · obtain ⟨x, t, e, hx⟩ := putL_few_head h.two hf
    rw [h.put] at e
    rw [e] at h0
    simp at h0
    subst h0
    simp at hx
  · have := h.put
    rw [putL_many hf] at this
    exact this.symm
theorem IsNum.few {l : List UInt8} {n : Nat} (h : IsNum l n) (h0 : l[0]? ≠ some 128) : n < 8 ^ (l.length - 1) ∧ l = octs (l.length - 1) n ++ [0] := by
  by_cases hf : n < 8 ^ (l.length - 1)
  · have := h.put
    rw [putL_few hf] at this
    exact ⟨hf, this.symm⟩
  · have := h.put
    rw [putL_many hf] at this
    rw [← this] at h0
    simp at h0
theorem IsNum.mark_at {l : List UInt8} {n : Nat} (h : IsNum l n) (h0 : l[0]? = some 128) {k : Nat} (hk : k + 1 < l.length) (hl : k + 1 < l.length) : l[k + 1].toNat = n / 256 ^ (l.length - 2 - k) % 256 := by
  have e := h.mark h0
  have e1 : l[k + 1]? = (byts (l.length - 1) n)[k]? := by
    conv => lhs; rw [e]
    rw [List.getElem?_cons_succ]
  rw [byts_at (by omega), List.getElem?_eq_getElem hk] at e1
  injection e1 with e1
  rw [e1, by_toNat (Nat.mod_lt _ (by omega)), show l.length - 1 - 1 - k = l.length - 2 - k by omega]
theorem IsNum.few_at {l : List UInt8} {n : Nat} (h : IsNum l n) (h0 : l[0]? ≠ some 128) {k : Nat} (hk : k < l.length) (hl : k + 1 < l.length) : l[k].toNat = 48 + n / 8 ^ (l.length - 2 - k) % 8 := by
  have e := (h.few h0).2
  have e1 : l[k]? = (octs (l.length - 1) n)[k]? := by
    conv => lhs; rw [e]
    rw [List.getElem?_append_left (by rw [octs_length]; omega)]
  rw [octs_at (by omega), List.getElem?_eq_getElem hk] at e1
  injection e1 with e1
  rw [e1, oc_toNat (Nat.mod_lt _ (by omega)), show l.length - 1 - 1 - k = l.length - 2 - k by omega]
end Go.Proofs.YtllnnlmhbmladaaGreatDoor.NumM

namespace Go.Proofs.YtllnnlmhbmladaaGreatDoor.Num
open Go.RowKit Go.Proofs.YtllnnlmhbmladaaGreatDoor.Base Go.Proofs.YtllnnlmhbmladaaGreatDoor.NumM

theorem byte_info : (Tryz.prog.info? 5).map (fun i => (i.zero, i.size, i.bytes)) = some (some (.int .u8 0), 1, 1) := by kernel_rfl

/-- string(b), at this program's numbers. -/
theorem str_of (w : World) (B : Nat) (v : Value) (l : List UInt8) (h : Rd w B v (bs l)) : (convert 46 9 v).run Tryz.prog w = .ok (.string ⟨l.toArray⟩) w :=
  run_string_rd (P := Tryz.prog) w 46 9 5 Tryz.underlying46 Tryz.underlying5 Tryz.underlying9 B v l h

theorem ba_eq {a b : ByteArray} (h : a.data.toList = b.data.toList) : a = b := by
  cases a; cases b
  simp only at h
  rw [ByteArray.mk.injEq]
  exact Array.toList_inj.1 h

set_option maxRecDepth 100000 in
theorem isWidth_any (n : Int) (w : World) :
    Calls Tryz.prog 115 #[.int .i64 n] w fun e w' => e = .returned (.bool (decide (2 ≤ n) && decide (n ≤ 20))) ∧ w = w' := by
  by_cases h1 : 2 ≤ n
  · by_cases h2 : n ≤ 20
    · go_enter Tryz.func115, Tryz.ntmps115
      go_wp2
      go_ret
      exact ⟨by simp [h1, h2], rfl⟩
    · go_enter Tryz.func115, Tryz.ntmps115
      go_wp2
      go_ret
      exact ⟨by simp [h2], rfl⟩
  · go_enter Tryz.func115, Tryz.ntmps115
    go_wp2
    go_ret
    exact ⟨by simp; omega, rfl⟩

set_option maxRecDepth 100000 in
/-- The closure: one digit more, from behind. -/
theorem gather_any (gf gt ga d k : Nat) (x : Int) (cs : Array Value) (w : World) (hx : 0 ≤ x) (hx7 : x ≤ 7) (hk : k < d) (hd : d ≤ 20)
    (hf : Blk w gf 3 #[.int .i64 ((k + 1 : Nat) : Int)]) (ht : Blk w gt 46 #[.slice (some ⟨ga, 0, none⟩) d d]) (ha : Blk w ga 5 cs) (hc : cs.size = d) (hfa : gf ≠ ga) (hft : gf ≠ gt) :
    Calls Tryz.prog 113 #[.int .i64 x, .pointer (some ⟨gf, 0, none⟩), .pointer (some ⟨gt, 0, none⟩)] w fun e w' => e = .returned (.tuple #[]) ∧
      w' = (w.setCell ⟨gf, 0, none⟩ (.int .i64 (k : Int))).setCell ⟨ga, k, none⟩ (.int .u8 (48 + x)) := by
  have c1 := cell_of_one hf
  have c2 := free_of_one hf
  have c3 := cell_of_one ht
  have c4 : w.cell? ⟨ga, k, none⟩ = some (cs[k]'(by omega)) := by rw [ha.cell, Array.getElem?_eq_getElem]
  have c5 := ha.free k
  have hw1 : 0 ≤ 48 + x := by omega
  have hw2 : 48 + x ≤ 255 := by omega
  clear hf ht ha
  go_enter Tryz.func113, Tryz.ntmps113
  go_wp2

  go_end0
  exact ⟨rfl, rfl⟩

/-- The cells of the text behind k rounds: zeros, and the digits that are there. -/
def octCells (d k n : Nat) : Array Value := Array.replicate (d - k) (.int .u8 0) ++ (bs (octs k n)).toArray
theorem octCells_size {d k n : Nat} (h : k ≤ d) : (octCells d k n).size = d := by
  simp [octCells, bs_length, octs_length]; omega
theorem octCells_step {d k n : Nat} (h : k < d) (x : Int) (hx : x = ((n / 8 ^ k : Nat) : Int)) : (octCells d k n).setIfInBounds (d - k - 1) (.int .u8 (48 + x % 8)) = octCells d (k + 1) n := by
  subst hx
  have e : (48 + ((n / 8 ^ k : Nat) : Int) % 8 : Int) = ((oc (n / 8 ^ k % 8)).toNat : Int) := by
    rw [oc_toNat (Nat.mod_lt _ (by omega))]; omega
  rw [e]
  unfold octCells
  rw [octs_cons]
  obtain ⟨j, hj⟩ : ∃ j, d - k = j + 1 := ⟨d - k - 1, by omega⟩
  rw [hj, show d - (k + 1) = j by omega, Nat.add_sub_cancel]
  apply Array.ext'
  rw [Array.toList_setIfInBounds]
  simp only [Array.toList_append, Array.toList_replicate, List.replicate_succ']
  rw [List.append_assoc, List.set_append_right _ _ (by simp)]
  simp [bs]

set_option maxRecDepth 100000 in
set_option maxHeartbeats 800000 in
theorem oct_in (n d : Nat) (w : World) (hn : n < 9223372036854775808) (h1 : 1 ≤ d) (h20 : d ≤ 20) :
    Calls Tryz.prog 86 #[.int .i64 (n : Int), .int .i64 (d : Int)] w fun e w' => Below w.heap.size w w' ∧
      ((n < 8 ^ d → e = .returned (.tuple #[.string ⟨(octs d n).toArray⟩, .bool true])) ∧ (¬ n < 8 ^ d → e = .returned (.tuple #[.string ⟨#[]⟩, .bool false]))) := by
  have hmf : ∀ (fn : Fn) (first cap : Array Value) (w : World), (Instr.makeFunc fn first cap).run Tryz.prog w = .ok (.func fn first cap) w := fun _ _ _ _ => rfl
  go_enter Tryz.func86, Tryz.ntmps86
  go_wp2_with (at_make; refine wpList_make_blk _ rfl _ _ 46 rfl 5 (.int .u8 0) 1 Tryz.underlying46 byte_info rfl .i64 .i64 _ d rfl rfl rfl (by omega) (by unfold maxLen; omega) ?_)
  intro w1 hb1 hs1 hg1
  have hg2 := (((Below.refl w.heap.size w).grown hg1 (Nat.le_refl _) (by simp)).alloc (by omega) (.cells #[.slice (some ⟨w.heap.size, 0, none⟩) d d] 46)).alloc (by simp; omega) (.cells #[.int .i64 (d : Int)] 3)
  have ha2 := (hb1.alloc (.cells #[.slice (some ⟨w.heap.size, 0, none⟩) d d] 46)).alloc (.cells #[.int .i64 (d : Int)] 3)
  have ht2 := (Blk.new w1 46 #[.slice (some ⟨w.heap.size, 0, none⟩) d d]).alloc (.cells #[.int .i64 (d : Int)] 3)
  have hf2 := Blk.new (w1.alloc (.cells #[.slice (some ⟨w.heap.size, 0, none⟩) d d] 46)) 3 #[.int .i64 (d : Int)]
  rw [hs1] at ht2
  rw [World.size_alloc, hs1] at hf2
  have Hg2 := Lib.hid hg2
  have Ha2 := Lib.hid ha2
  have Ht2 := Lib.hid ht2
  have Hf2 := Lib.hid hf2
  clear hg2 ha2 ht2 hf2 hb1 hg1
  go_wp2_with fail
  go_loopw [9, 26] (fun r i wr => ∃ (k : Nat) (x : Int), k ≤ d ∧ i = .int .i64 k ∧ r = .int .i64 x ∧ 0 ≤ x ∧ x < 9223372036854775808 ∧ Hid (x = ((n / 8 ^ k : Nat) : Int)) ∧
      Hid (Blk wr w.heap.size 5 (octCells d k n)) ∧ Hid (Blk wr (w.heap.size + 1) 46 #[.slice (some ⟨w.heap.size, 0, none⟩) d d]) ∧ Hid (Blk wr (w.heap.size + 1 + 1) 3 #[.int .i64 ((d - k : Nat) : Int)]) ∧ Hid (Below w.heap.size w wr))
    (fun _ i _ => d - (intOf i).toNat)
  case atStart =>
    refine ⟨0, n, by omega, rfl, rfl, by omega, by omega, Lib.hid (by simp), ?_, Ht2, ?_, Hg2⟩
    · refine Lib.hid ?_
      have h := Ha2.out
      simpa [octCells, bs, octs, digs] using h
    · exact Hf2
  case round =>
    obtain ⟨k, x, hk, rfl, rfl, hx0, hx1, Hx, Ha, Ht, Hf, Hb⟩ := hrel
    clear Ha2 Ht2 Hf2 Hg2
    by_cases hlt : k < d
    · have hm0 : 0 ≤ x % 8 := by omega
      have hm1 : x % 8 ≤ 7 := by omega
      go_wp2_with fail
      refine (gather_any (w.heap.size + 1 + 1) (w.heap.size + 1) w.heap.size d (d - k - 1) (x % 8) _ wr hm0 hm1 (by omega) h20 (by rw [show d - k - 1 + 1 = d - k by omega]; exact Hf.out) Ht.out Ha.out (octCells_size hk) (by omega) (by omega)).mono ?_
      rintro e w3 ⟨rfl, rfl⟩
      have Ha3 := Lib.hid ((Ha.out.far (p := ⟨w.heap.size + 1 + 1, 0, none⟩) (by simp only; omega) (.int .i64 ((d - k - 1 : Nat) : Int))).put (d - k - 1) (.int .u8 (48 + x % 8)))
      have Ht3 := Lib.hid ((Ht.out.far (p := ⟨w.heap.size + 1 + 1, 0, none⟩) (by simp only; omega) (.int .i64 ((d - k - 1 : Nat) : Int))).far (p := ⟨w.heap.size, d - k - 1, none⟩) (by simp only; omega) (.int .u8 (48 + x % 8)))
      have Hf3 := Lib.hid ((Hf.out.put 0 (.int .i64 ((d - k - 1 : Nat) : Int))).far (p := ⟨w.heap.size, d - k - 1, none⟩) (by simp only; omega) (.int .u8 (48 + x % 8)))
      have Hb3 := Lib.hid ((Hb.out.setCell (p := ⟨w.heap.size + 1 + 1, 0, none⟩) (by simp only; omega) (.int .i64 ((d - k - 1 : Nat) : Int))).setCell (p := ⟨w.heap.size, d - k - 1, none⟩) (by simp) (.int .u8 (48 + x % 8)))
      clear Ha Ht Hf Hb
      go_wp2_with fail
      go_roundw
      case rel =>
        refine ⟨k + 1, x / 8, by omega, by go_num, rfl, by omega, by omega, Lib.hid ?_, ?_, Ht3, ?_, Hb3⟩
        · rw [Hx.out, Nat.pow_succ, ← Nat.div_div_eq_div_mul]; rfl
        · have h := Ha3.out
          rw [octCells_step hlt x Hx.out] at h
          exact h
        · have h := Hf3.out
          rw [show d - (k + 1) = d - k - 1 by omega]
          exact h
      case measure => simp [intOf]; omega
    · obtain rfl : k = d := by omega
      have hto : (octCells k k n).toList = bs (octs k n) := by simp [octCells]
      have hrd := (Own.of_blk (lo := 0) Ha.out (Nat.zero_le _) (octCells_size (Nat.le_refl _)) (by unfold maxLen; omega)).rd
      rw [hto] at hrd
      have hcv := run_string_rd (P := Tryz.prog) wr 46 9 5 Tryz.underlying46 Tryz.underlying5 Tryz.underlying9 _ _ _ hrd
      have hld := cell_of_one Ht.out
      clear hrd hto
      by_cases hfit : n < 8 ^ k
      · obtain rfl : x = 0 := by rw [Hx.out, Nat.div_eq_of_lt hfit]; rfl
        clear Hx
        have Hfit := Lib.hid hfit
        clear hfit
        go_wp2_with fail
        go_ret2
        exact ⟨Hb.out, fun _ => rfl, fun h => absurd Hfit.out h⟩
      · have hx2 : 0 < x := by
          rw [Hx.out]
          have := Nat.div_pos (Nat.le_of_not_lt hfit) (Nat.pow_pos (n := k) (show 0 < 8 by omega))
          omega
        have hne : (x != 0) = true := by simp; omega
        have Hfit := Lib.hid hfit
        clear hfit Hx
        go_wp2_with fail
        go_ret2
        exact ⟨Hb.out, fun h => absurd h Hfit.out, fun _ => rfl⟩

/-- Has Octal an answer? -/
def octOk (n d : Int) : Bool := decide (0 ≤ n ∧ 1 ≤ d ∧ d ≤ 20 ∧ n.toNat < 8 ^ d.toNat)
theorem octOk_iff {n d : Int} : octOk n d = true ↔ 0 ≤ n ∧ 1 ≤ d ∧ d ≤ 20 ∧ n.toNat < 8 ^ d.toNat := by simp [octOk]
theorem oct_yes (n d : Int) (w : World) (hn : n < 9223372036854775808) (h : octOk n d = true) :
    Calls Tryz.prog 86 #[.int .i64 n, .int .i64 d] w fun e w' => e = .returned (.tuple #[.string ⟨(octs d.toNat n.toNat).toArray⟩, .bool true]) ∧ Below w.heap.size w w' := by
  obtain ⟨h0, h1, h20, hf⟩ := octOk_iff.1 h
  obtain ⟨n, rfl⟩ := Int.eq_ofNat_of_zero_le h0
  obtain ⟨d, rfl⟩ := Int.eq_ofNat_of_zero_le (show 0 ≤ d by omega)
  simp only [Int.toNat_natCast] at hf ⊢
  exact (oct_in n d w (by omega) (by omega) (by omega)).mono fun _ _ h => ⟨h.2.1 hf, h.1⟩

set_option maxRecDepth 100000 in
theorem oct_no (n d : Int) (w : World) (hn : n < 9223372036854775808) (h : octOk n d = false) :
    Calls Tryz.prog 86 #[.int .i64 n, .int .i64 d] w fun e w' => e = .returned (.tuple #[.string ⟨#[]⟩, .bool false]) ∧ Below w.heap.size w w' := by
  by_cases h0 : n < 0
  · clear h hn
    go_enter Tryz.func86, Tryz.ntmps86
    go_wp2_with fail
    go_ret2
    exact ⟨rfl, Below.refl _ _⟩
  · by_cases h1 : d < 1
    · clear h hn
      have h0' : 0 ≤ n := by omega
      go_enter Tryz.func86, Tryz.ntmps86
      go_wp2_with fail
      go_ret2
      exact ⟨rfl, Below.refl _ _⟩
    · by_cases h2 : 20 < d
      · clear h hn
        have h0' : 0 ≤ n := by omega
        go_enter Tryz.func86, Tryz.ntmps86
        go_wp2_with fail
        go_ret2
        exact ⟨rfl, Below.refl _ _⟩
      · have hf : ¬ n.toNat < 8 ^ d.toNat := fun hf => by
          rw [octOk_iff.2 ⟨by omega, by omega, by omega, hf⟩] at h
          cases h
        obtain ⟨n, rfl⟩ := Int.eq_ofNat_of_zero_le (show 0 ≤ n by omega)
        obtain ⟨d, rfl⟩ := Int.eq_ofNat_of_zero_le (show 0 ≤ d by omega)
        simp only [Int.toNat_natCast] at hf
        exact (oct_in n d w (by omega) (by omega) (by omega)).mono fun _ _ h => ⟨h.2.2 hf, h.1⟩

/-- Is that a width? -/
def widOk (n : Int) : Bool := decide (2 ≤ n ∧ n ≤ 20)
theorem widOk_iff {n : Int} : widOk n = true ↔ 2 ≤ n ∧ n ≤ 20 := by simp [widOk]
theorem isWidth_is (n : Int) (w : World) : Calls Tryz.prog 115 #[.int .i64 n] w fun e w' => e = .returned (.bool (widOk n)) ∧ w = w' :=
  (isWidth_any n w).mono fun _ _ h => ⟨h.1.trans (by simp [widOk]), h.2⟩
theorem isWidth_yes (n : Int) (w : World) (h : widOk n = true) : Calls Tryz.prog 115 #[.int .i64 n] w fun e w' => e = .returned (.bool true) ∧ w = w' := by
  have := isWidth_is n w; rwa [h] at this
theorem isWidth_no (n : Int) (w : World) (h : widOk n = false) : Calls Tryz.prog 115 #[.int .i64 n] w fun e w' => e = .returned (.bool false) ∧ w = w' := by
  have := isWidth_is n w; rwa [h] at this

end Go.Proofs.YtllnnlmhbmladaaGreatDoor.Num

namespace Go.Proofs.YtllnnlmhbmladaaGreatDoor.Num
open Go.RowKit Go.Proofs.YtllnnlmhbmladaaGreatDoor.Base Go.Proofs.YtllnnlmhbmladaaGreatDoor.NumM

/-- The cells of the field behind k rounds: the mark, zeros, and the bytes that are there. -/
def pbCells (d k n : Nat) : Array Value := #[.int .u8 128] ++ Array.replicate (d - k) (.int .u8 0) ++ (bs (byts k n)).toArray
theorem pbCells_size {d k n : Nat} (h : k ≤ d) : (pbCells d k n).size = d + 1 := by
  simp [pbCells, bs_length, byts_length]; omega
theorem pbCells_step {d k n : Nat} (h : k < d) (x : Int) (hx : x = ((n / 256 ^ k : Nat) : Int)) : (pbCells d k n).setIfInBounds (d - k) (.int .u8 (x % 256)) = pbCells d (k + 1) n := by
  subst hx
  have e : (((n / 256 ^ k : Nat) : Int) % 256 : Int) = ((UInt8.ofNat (n / 256 ^ k % 256)).toNat : Int) := by
    rw [by_toNat (Nat.mod_lt _ (by omega))]; omega
  rw [e]
  unfold pbCells
  rw [byts_cons]
  obtain ⟨j, hj⟩ : ∃ j, d - k = j + 1 := ⟨d - k - 1, by omega⟩
  rw [hj, show d - (k + 1) = j by omega]
  apply Array.ext'
  rw [Array.toList_setIfInBounds]
  simp only [Array.toList_append, Array.toList_replicate, List.replicate_succ']
  rw [List.append_assoc, List.append_assoc, List.set_append_right _ _ (by simp)]
  simp [bs]

set_option maxRecDepth 100000 in
set_option maxHeartbeats 800000 in
theorem putBytes_in (n d : Nat) (w : World) (hn : n < 9223372036854775808) (h1 : 1 ≤ d) (h19 : d ≤ 19) :
    Calls Tryz.prog 146 #[.int .i64 (n : Int), .int .i64 ((d : Int) + 1)] w fun e w' => Below w.heap.size w w' ∧
      ((n < 256 ^ d → ∃ v, e = .returned (.tuple #[v, .bool true]) ∧ Own w' w.heap.size 5 v (bs (128 :: byts d n))) ∧ (¬ n < 256 ^ d → e = .returned (.tuple #[.slice none 0 0, .bool false]))) := by
  go_enter Tryz.func146, Tryz.ntmps146
  go_wp2_with (at_make; refine wpList_make_blk _ rfl _ _ 46 rfl 5 (.int .u8 0) 1 Tryz.underlying46 byte_info rfl .i64 .i64 _ (d + 1) rfl rfl rfl (by omega) (by unfold maxLen; omega) ?_)
  intro w1 hb1 hs1 hg1
  have hb0 := (Below.refl w.heap.size w).grown hg1 (Nat.le_refl _) (by simp)
  have hc0 : w1.cell? ⟨w.heap.size, 0, none⟩ = some (.int .u8 0) := by rw [hb1.cell]; simp
  have hf0 := hb1.free 0
  have Hb0 := Lib.hid hb0
  have Hb1 := Lib.hid hb1
  clear hb0 hb1 hg1
  go_wp2_with fail
  go_loopw [7, 16] (fun r i wr => ∃ (k : Nat) (x : Int), k ≤ d ∧ i = .int .i64 k ∧ r = .int .i64 x ∧ 0 ≤ x ∧ x < 9223372036854775808 ∧ Hid (x = ((n / 256 ^ k : Nat) : Int)) ∧
      Hid (Blk wr w.heap.size 5 (pbCells d k n)) ∧ Hid (Below w.heap.size w wr))
    (fun _ i _ => d - (intOf i).toNat)
  case atStart =>
    refine ⟨0, n, by omega, rfl, rfl, by omega, by omega, Lib.hid (by simp), Lib.hid ?_, Lib.hid (Hb0.out.setCell (p := ⟨w.heap.size, 0, none⟩) (Nat.le_refl _) _)⟩
    have h := Hb1.out.put 0 (.int .u8 128)
    have e : (Array.replicate (d + 1) (Value.int IntKind.u8 0)).setIfInBounds 0 (.int .u8 128) = pbCells d 0 n := by
      apply Array.ext'
      rw [Array.toList_setIfInBounds]
      simp [pbCells, bs, byts, digs, List.replicate_succ]
    rw [e] at h
    exact h
  case round =>
    obtain ⟨k, x, hk, rfl, rfl, hx0, hx1, Hx, Ha, Hb⟩ := hrel
    clear Hb0 Hb1 hc0 hf0 hs1
    by_cases hlt : k < d
    · have hm0 : 0 ≤ x % 256 := by omega
      have hm1 : x % 256 ≤ 255 := by omega
      have hcell : wr.cell? ⟨w.heap.size, d - k, none⟩ = some ((pbCells d k n)[d - k]'(by rw [pbCells_size hk]; omega)) := by rw [Ha.out.cell, Array.getElem?_eq_getElem]
      obtain ⟨y, hy⟩ : ∃ y, y = ((pbCells d k n)[d - k]'(by rw [pbCells_size hk]; omega)) := ⟨_, rfl⟩
      rw [← hy] at hcell
      clear hy
      have hfro := Ha.out.free (d - k)
      have Ha3 := Lib.hid (Ha.out.put (d - k) (.int .u8 (x % 256)))
      have Hb3 := Lib.hid (Hb.out.setCell (p := ⟨w.heap.size, d - k, none⟩) (by simp) (.int .u8 (x % 256)))
      clear Ha Hb
      go_wp2_with fail
      go_roundw
      case rel =>
        refine ⟨k + 1, x / 256, by omega, by go_num, rfl, by omega, by omega, Lib.hid ?_, Lib.hid ?_, Hb3⟩
        · rw [Hx.out, Nat.pow_succ, ← Nat.div_div_eq_div_mul]; rfl
        · have h := Ha3.out
          rw [pbCells_step hlt x Hx.out] at h
          exact h
      case measure => simp [intOf]; omega
    · obtain rfl : k = d := by omega
      by_cases hfit : n < 256 ^ k
      · obtain rfl : x = 0 := by rw [Hx.out, Nat.div_eq_of_lt hfit]; rfl
        clear Hx
        have Hfit := Lib.hid hfit
        clear hfit
        go_wp2_with fail
        go_ret2
        refine ⟨Hb.out, fun _ => ⟨_, rfl, ?_⟩, fun h => absurd Hfit.out h⟩
        have h := Own.of_blk (lo := w.heap.size) Ha.out (Nat.le_refl _) (pbCells_size (Nat.le_refl _)) (by unfold maxLen; omega)
        have e : (pbCells k k n).toList = bs (128 :: byts k n) := by simp [pbCells, bs]
        rw [e] at h
        exact h
      · have hx2 : 0 < x := by
          rw [Hx.out]
          have := Nat.div_pos (Nat.le_of_not_lt hfit) (Nat.pow_pos (n := k) (show 0 < 256 by omega))
          omega
        have hne : (x != 0) = true := by simp; omega
        have Hfit := Lib.hid hfit
        clear hfit Hx
        go_wp2_with fail
        go_ret2
        exact ⟨Hb.out, fun h => absurd h Hfit.out, fun _ => rfl⟩

/-- Has Put an answer? -/
def putOk (n wide : Int) : Bool := decide (0 ≤ n ∧ 2 ≤ wide ∧ wide ≤ 20 ∧ n.toNat < 256 ^ (wide - 1).toNat)
theorem putOk_iff {n wide : Int} : putOk n wide = true ↔ 0 ≤ n ∧ 2 ≤ wide ∧ wide ≤ 20 ∧ n.toNat < 256 ^ (wide - 1).toNat := by simp [putOk]
theorem octOk_putOk {n wide : Int} (h2 : 2 ≤ wide) (h20 : wide ≤ 20) (h : octOk n (wide - 1) = true) : putOk n wide = true := by
  obtain ⟨h0, _, _, hf⟩ := octOk_iff.1 h
  exact putOk_iff.2 ⟨h0, h2, h20, Nat.lt_of_lt_of_le hf (pow_le_256 _)⟩

set_option maxRecDepth 100000 in
set_option maxHeartbeats 800000 in
theorem put_yes (n wide : Int) (w : World) (hn : n < 9223372036854775808) (h : putOk n wide = true) :
    Calls Tryz.prog 117 #[.int .i64 n, .int .i64 wide] w fun e w' => ∃ v, e = .returned (.tuple #[v, .bool true]) ∧ Own w' w.heap.size 5 v (bs (putL wide.toNat n.toNat)) ∧ Below w.heap.size w w' := by
  obtain ⟨h0, h2, h20, hf⟩ := putOk_iff.1 h
  have Hw := Lib.hid (widOk_iff.2 ⟨h2, h20⟩)
  cases ho : octOk n (wide - 1)
  · have Ho := Lib.hid ho
    have Hf := Lib.hid hf
    have Hput : Hid (putL wide.toNat n.toNat = 128 :: byts (wide.toNat - 1) n.toNat) := Lib.hid (putL_many (fun hh => by
      rw [octOk_iff.2 ⟨h0, by omega, by omega, by rw [show (wide - 1).toNat = wide.toNat - 1 by omega]; exact hh⟩] at ho
      cases ho))
    clear ho h hf
    go_enter Tryz.func117, Tryz.ntmps117
    go_wp2_with fail
    refine (isWidth_yes _ _ Hw.out).mono ?_
    rintro e w' ⟨rfl, rfl⟩
    go_wp2_with fail
    refine (oct_no _ _ _ hn Ho.out).mono ?_
    rintro e w1 ⟨rfl, hb⟩
    have Hb := Lib.hid hb
    clear hb
    go_wp2_with fail
    obtain ⟨N, rfl⟩ := Int.eq_ofNat_of_zero_le h0
    obtain ⟨D, hD⟩ : ∃ D : Nat, wide = (D : Int) + 1 := ⟨(wide - 1).toNat, by omega⟩
    subst hD
    refine (putBytes_in N D w1 (by omega) (by omega) (by omega)).mono ?_
    rintro e w2 ⟨hb2, hy, _⟩
    have hf := Hf.out
    rw [show ((D : Int) + 1 - 1).toNat = D by omega, Int.toNat_natCast] at hf
    obtain ⟨v, rfl, hv⟩ := hy hf
    clear hy hf
    have hbb := Hb.out.trans (hb2.mono Hb.out.size)
    have Hv := Lib.hid (hv.less Hb.out.size)
    have Hbb := Lib.hid hbb
    clear hbb hv hb2 Hb Hf
    go_wp2_with fail
    go_ret2
    refine ⟨v, rfl, ?_, Hbb.out⟩
    rw [Hput.out, show ((D : Int) + 1).toNat - 1 = D by omega, Int.toNat_natCast]
    exact Hv.out
  · have Ho := Lib.hid ho
    have Hput : Hid (putL wide.toNat n.toNat = octs (wide.toNat - 1) n.toNat ++ [0]) := Lib.hid (putL_few (by
      have h3 := (octOk_iff.1 ho).2.2.2
      rw [show (wide - 1).toNat = wide.toNat - 1 by omega] at h3
      exact h3))
    clear ho h hf
    go_enter Tryz.func117, Tryz.ntmps117
    go_wp2_with fail
    refine (isWidth_yes _ _ Hw.out).mono ?_
    rintro e w' ⟨rfl, rfl⟩
    go_wp2_with fail
    refine (oct_yes _ _ _ hn Ho.out).mono ?_
    rintro e w1 ⟨rfl, hb⟩
    have Hb := Lib.hid hb
    clear hb
    go_wp2_with (refine wpList_bytes (P := Tryz.prog) (o := ⟨some 24, _, _, _, _, _⟩) _ rfl 9 46 (.tmp 23) rfl 5 Tryz.underlying9 Tryz.underlying46 Tryz.underlying5 _ rfl ?hm ?_)
    case hm =>
      show (octs _ _).toArray.size ≤ _
      rw [List.size_toArray, octs_length]
      unfold maxLen
      omega
    intro v2 w2 hv2 hg2 hat2
    have Hg2 := Lib.hid hg2
    have Hv2 : Hid (Own w2 w1.heap.size 5 v2 (bs (octs (wide.toNat - 1) n.toNat))) := Lib.hid (by simpa using hv2)
    have Hat2 := Lib.hid hat2
    have Hlen : Hid (wide.toNat ≤ 20) := Lib.hid (by omega)
    clear hg2 hv2 hat2
    go_wp2_with (at_builtin; refine wpList_append_rd (P := Tryz.prog) _ rfl (.tmp 24) (.tmp 25) 46 rfl w1.heap.size 5 (.int .u8 0) 1 Tryz.underlying46 byte_info rfl v2 _ rfl (Hv2.out.alloc _) _ _ [.int .u8 0] rfl (rd_lit _ _ _) (bs_one [0]) ?h1 ?h2 ?h3 ?_)
    case h1 =>
      rw [bs_length, octs_length]
      have := Hlen.out
      unfold maxLen
      simp only [List.length_cons, List.length_nil]
      omega
    case h2 =>
      rw [bs_length, octs_length]
      have := Hlen.out
      simp only [List.length_cons, List.length_nil]
      omega
    case h3 =>
      have := Hg2.out.size
      simp
      omega
    intro v3 w3 hv3 hg3 hat3
    have Hbb : Hid (Below w.heap.size w w3) := Lib.hid (by
      have hs := Hb.out.size
      have hs2 := Hg2.out.size
      refine ((Hb.out.grown Hg2.out hs (by simp)).alloc (by omega) _).grown hg3 (by simp; omega) (fun k hk => ?_)
      rw [Hat2.out] at hk
      injection hk with hk
      omega)
    have Hv3 : Hid (Own w3 w1.heap.size 5 v3 (bs (octs (wide.toNat - 1) n.toNat ++ [0]))) := Lib.hid (by rw [bs_append]; exact hv3)
    clear hv3 hg3 hat3
    go_wp2_with fail
    go_ret2
    exact ⟨v3, rfl, by rw [Hput.out]; exact Hv3.out.less Hb.out.size, Hbb.out⟩

set_option maxRecDepth 100000 in
set_option maxHeartbeats 800000 in
theorem put_no (n wide : Int) (w : World) (hn : n < 9223372036854775808) (h : putOk n wide = false) :
    Calls Tryz.prog 117 #[.int .i64 n, .int .i64 wide] w fun e w' => e = .returned (.tuple #[.slice none 0 0, .bool false]) ∧ Below w.heap.size w w' := by
  by_cases h0 : n < 0
  · clear h hn
    go_enter Tryz.func117, Tryz.ntmps117
    go_wp2_with fail
    go_ret2
    exact ⟨rfl, Below.refl _ _⟩
  · have h0' : 0 ≤ n := by omega
    cases hw : widOk wide
    · have Hw := Lib.hid hw
      clear h hn hw
      go_enter Tryz.func117, Tryz.ntmps117
      go_wp2_with fail
      refine (isWidth_no _ _ Hw.out).mono ?_
      rintro e w' ⟨rfl, rfl⟩
      go_wp2_with fail
      go_ret2
      exact ⟨rfl, Below.refl _ _⟩
    · obtain ⟨h2, h20⟩ := widOk_iff.1 hw
      have Hw := Lib.hid hw
      have Ho : Hid (octOk n (wide - 1) = false) := Lib.hid (by
        cases ho : octOk n (wide - 1)
        · rfl
        · rw [octOk_putOk h2 h20 ho] at h
          cases h)
      have Hf : Hid (¬ n.toNat < 256 ^ (wide - 1).toNat) := Lib.hid (fun hf => by
        rw [putOk_iff.2 ⟨h0', h2, h20, hf⟩] at h
        cases h)
      clear h hw
      go_enter Tryz.func117, Tryz.ntmps117
      go_wp2_with fail
      refine (isWidth_yes _ _ Hw.out).mono ?_
      rintro e w' ⟨rfl, rfl⟩
      go_wp2_with fail
      refine (oct_no _ _ _ hn Ho.out).mono ?_
      rintro e w1 ⟨rfl, hb⟩
      have Hb := Lib.hid hb
      clear hb
      go_wp2_with fail
      obtain ⟨N, rfl⟩ := Int.eq_ofNat_of_zero_le h0'
      obtain ⟨D, hD⟩ : ∃ D : Nat, wide = (D : Int) + 1 := ⟨(wide - 1).toNat, by omega⟩
      subst hD
      refine (putBytes_in N D w1 (by omega) (by omega) (by omega)).mono ?_
      rintro e w2 ⟨hb2, _, hy⟩
      have hf := Hf.out
      rw [show ((D : Int) + 1 - 1).toNat = D by omega, Int.toNat_natCast] at hf
      obtain rfl := hy hf
      have Hbb := Lib.hid (Hb.out.trans (hb2.mono Hb.out.size))
      clear hy hf hb2 Hb Hf
      go_wp2_with fail
      go_ret2
      exact ⟨rfl, Hbb.out⟩
end Go.Proofs.YtllnnlmhbmladaaGreatDoor.Num

namespace Go.Proofs.YtllnnlmhbmladaaGreatDoor.Num
open Go.RowKit Go.Proofs.YtllnnlmhbmladaaGreatDoor.Base Go.Proofs.YtllnnlmhbmladaaGreatDoor.NumM

theorem step_fold (b N m : Nat) (g y : Int) (hN : N < 9223372036854775808) (hg : g = ((N / b ^ (m + 1) : Nat) : Int)) (hy : y = ((N / b ^ m % b : Nat) : Int)) : wrap64 (wrap64 (g * (b : Int)) + y) = ((N / b ^ m : Nat) : Int) ∧ wrap64 (g * (b : Int)) + y = ((N / b ^ m : Nat) : Int) := by
  have h1 := div_step b N m
  have h2 := Nat.div_le_self N (b ^ m)
  subst hg hy
  have e : ((N / b ^ (m + 1) : Nat) : Int) * (b : Int) = ((N / b ^ (m + 1) * b : Nat) : Int) := by rw [Int.natCast_mul]
  rw [e]
  generalize N / b ^ (m + 1) * b = p at *
  generalize N / b ^ m % b = q at *
  generalize N / b ^ m = r at *
  rw [IntWalk.wrap64_in (p : Int) ⟨by omega, by omega⟩, IntWalk.wrap64_in _ ⟨by omega, by omega⟩]
  exact ⟨by omega, by omega⟩
theorem wrap64_range (x : Int) : -9223372036854775808 ≤ wrap64 x ∧ wrap64 x < 9223372036854775808 := by unfold wrap64; omega
theorem step_fold_oct (N m : Nat) (g y : Int) (hN : N < 9223372036854775808) (hg : g = ((N / 8 ^ (m + 1) : Nat) : Int)) (hy : y = ((48 + N / 8 ^ m % 8 : Nat) : Int)) (hs : N < 4611686018427387904) : wrap64 (wrap64 (wrap64 (g * 8) + y) - 48) = ((N / 8 ^ m : Nat) : Int) := by
  have h1 := div_step 8 N m
  have h2 := Nat.div_le_self N (8 ^ m)
  subst hg hy
  have e : ((N / 8 ^ (m + 1) : Nat) : Int) * 8 = ((N / 8 ^ (m + 1) * 8 : Nat) : Int) := by omega
  rw [e]
  have h3 := Nat.mod_lt (N / 8 ^ m) (show 0 < 8 by omega)
  generalize N / 8 ^ (m + 1) * 8 = p at *
  generalize N / 8 ^ m % 8 = q at *
  generalize N / 8 ^ m = r at *
  rw [IntWalk.wrap64_in (p : Int) ⟨by omega, by omega⟩, IntWalk.wrap64_in ((p : Int) + _) ⟨by omega, by omega⟩, IntWalk.wrap64_in _ ⟨by omega, by omega⟩]
  omega
theorem first_is {l : List UInt8} (h : 0 < l.length) (hy : (128 : Int) = (l[0].toNat : Int)) : l[0]? = some 128 := by
  rw [List.getElem?_eq_getElem h]
  congr 1
  apply UInt8.toNat_inj.1
  simp only [UInt8.reduceToNat]
  omega
theorem first_not {l : List UInt8} {y : Int} (h : 0 < l.length) (hy : y = (l[0].toNat : Int)) (hn : ¬ y = 128) : l[0]? ≠ some 128 := by
  rw [List.getElem?_eq_getElem h]
  intro e
  injection e with e
  rw [e] at hy
  exact hn hy
theorem few_small {n d : Nat} (h : n < 8 ^ d) (hd : d ≤ 19) : n < 4611686018427387904 := by
  have : 8 ^ d ≤ 8 ^ 19 := Nat.pow_le_pow_right (by omega) hd
  have e : 8 ^ 19 = 144115188075855872 := by decide
  omega

set_option maxRecDepth 100000 in
set_option maxHeartbeats 800000 in
theorem guess_any (l : List UInt8) (v : Value) (B : Nat) (w : World) (hv : Rd w B v (bs l)) (h1 : 1 ≤ l.length) (h20 : l.length ≤ 20) :
    Calls Tryz.prog 116 #[v] w fun e w' => w = w' ∧ ∃ g : Int, e = .returned (.int .i64 g) ∧ g < 9223372036854775808 ∧ ∀ N, IsNum l N → g = N := by
  obtain ⟨b, o, cap, rfl, _, _, hc⟩ := hv.at_ (j := 0) (by rw [bs_length]; omega)
  rw [bs_length]
  have Hc : Hid (∀ j (hj : j < l.length), w.cell? ⟨b, o + j, none⟩ = some (.int .u8 (l[j].toNat : Int))) := Lib.hid fun j hj => hc j _ (bs_at hj)
  clear hc
  have hc0 : w.cell? ⟨b, o, none⟩ = some (.int .u8 (l[0].toNat : Int)) := Hc.out 0 (by omega)
  obtain ⟨n, hn⟩ : ∃ n, l.length = n + 1 := ⟨l.length - 1, by omega⟩
  obtain ⟨y0, hy0⟩ : ∃ y : Int, y = (l[0].toNat : Int) := ⟨_, rfl⟩
  have hy0l : 0 ≤ y0 := by omega
  have hy0h : y0 ≤ 255 := by have := l[0].toNat_lt; omega
  rw [← hy0] at hc0
  have hn19 : n ≤ 19 := by omega
  have Hy0 := Lib.hid hy0
  have Hn := Lib.hid hn
  rw [hn]
  clear hy0 hn hv
  by_cases hm : y0 = 128
  · subst hm
    go_enter Tryz.func116, Tryz.ntmps116
    go_wp2_with fail
    go_loop [3, 13] (fun r i => ∃ (k : Nat) (g : Int), k ≤ n ∧ i = .int .i64 k ∧ r = .int .i64 g ∧ -9223372036854775808 ≤ g ∧ g < 9223372036854775808 ∧ Hid (∀ N, IsNum l N → g = ((N / 256 ^ (n - k) : Nat) : Int)))
      (fun _ i => n - (intOf i).toNat)
    case atStart =>
      refine ⟨0, 0, by omega, rfl, rfl, by omega, by omega, Lib.hid fun N hN => ?_⟩
      have := hN.fits
      rw [Hn.out, Nat.add_sub_cancel] at this
      rw [Nat.sub_zero, Nat.div_eq_of_lt this]
      rfl
    case round =>
      obtain ⟨k, g, hk, rfl, rfl, hg0, hg1, Hg⟩ := hrel
      by_cases hlt : k < n
      · have hck : w.cell? ⟨b, o + (k + 1), none⟩ = some (.int .u8 ((l[k + 1]'(by have := Hn.out; omega)).toNat : Int)) := Hc.out (k + 1) (by have := Hn.out; omega)
        obtain ⟨y, hy⟩ : ∃ y : Int, y = ((l[k + 1]'(by have := Hn.out; omega)).toNat : Int) := ⟨_, rfl⟩
        have hyl : 0 ≤ y := by omega
        have hyh : y ≤ 255 := by have := (l[k + 1]'(by have := Hn.out; omega)).toNat_lt; omega
        rw [← hy] at hck
        have Hy := Lib.hid hy
        clear hy
        go_wp2_with fail
        go_round
        case rel =>
          refine ⟨k + 1, wrap64 (wrap64 (g * 256) + y), by omega, by go_num, rfl, (wrap64_range _).1, (wrap64_range _).2, Lib.hid fun N hN => ?_⟩
          have hl := Hn.out
          refine (step_fold 256 N (n - (k + 1)) g y hN.small ?_ ?_).1
          · rw [Hg.out N hN, show n - (k + 1) + 1 = n - k by omega]
          · rw [Hy.out, hN.mark_at (first_is (by omega) Hy0.out) (k := k) (by omega) (by omega), show l.length - 2 - k = n - (k + 1) by omega]
        case measure => simp [intOf]; omega
      · obtain rfl : k = n := by omega
        go_wp2_with fail
        go_ret
        refine ⟨rfl, g, rfl, hg1, fun N hN => ?_⟩
        rw [Hg.out N hN]
        simp
  · have hmb : (y0 == 128) = false := by simp; exact hm
    have Hm := Lib.hid hm
    clear hm
    go_enter Tryz.func116, Tryz.ntmps116
    go_wp2_with fail
    go_loop [3, 30] (fun r i => ∃ (k : Nat) (g : Int), k ≤ n ∧ i = .int .i64 k ∧ r = .int .i64 g ∧ -9223372036854775808 ≤ g ∧ g < 9223372036854775808 ∧ Hid (∀ N, IsNum l N → g = ((N / 8 ^ (n - k) : Nat) : Int)))
      (fun _ i => n - (intOf i).toNat)
    case atStart =>
      refine ⟨0, 0, by omega, rfl, rfl, by omega, by omega, Lib.hid fun N hN => ?_⟩
      have := (hN.few (first_not (by have := Hn.out; omega) Hy0.out Hm.out)).1
      rw [Hn.out, Nat.add_sub_cancel] at this
      rw [Nat.sub_zero, Nat.div_eq_of_lt this]
      rfl
    case round =>
      obtain ⟨k, g, hk, rfl, rfl, hg0, hg1, Hg⟩ := hrel
      by_cases hlt : k < n
      · have hck : w.cell? ⟨b, o + k, none⟩ = some (.int .u8 ((l[k]'(by have := Hn.out; omega)).toNat : Int)) := Hc.out k (by have := Hn.out; omega)
        obtain ⟨y, hy⟩ : ∃ y : Int, y = ((l[k]'(by have := Hn.out; omega)).toNat : Int) := ⟨_, rfl⟩
        have hyl : 0 ≤ y := by omega
        have hyh : y ≤ 255 := by have := (l[k]'(by have := Hn.out; omega)).toNat_lt; omega
        rw [← hy] at hck
        have Hy := Lib.hid hy
        clear hy
        go_wp2_with fail
        go_round
        case rel =>
          refine ⟨k + 1, wrap64 (wrap64 (wrap64 (g * 8) + y) - 48), by omega, by go_num, rfl, (wrap64_range _).1, (wrap64_range _).2, Lib.hid fun N hN => ?_⟩
          have hl := Hn.out
          have h0 := first_not (by omega) Hy0.out Hm.out
          refine step_fold_oct N (n - (k + 1)) g y hN.small ?_ ?_ (few_small (hN.few h0).1 (by omega))
          · rw [Hg.out N hN, show n - (k + 1) + 1 = n - k by omega]
          · rw [Hy.out, hN.few_at h0 (k := k) (by omega) (by omega), show l.length - 2 - k = n - (k + 1) by omega]
        case measure => simp [intOf]; omega
      · obtain rfl : k = n := by omega
        go_wp2_with fail
        go_ret
        refine ⟨rfl, g, rfl, hg1, fun N hN => ?_⟩
        rw [Hg.out N hN]
        simp

theorem widOk_len {l : List UInt8} (h2 : 2 ≤ l.length) (h20 : l.length ≤ 20) : widOk (l.length : Int) = true := widOk_iff.2 ⟨by omega, by omega⟩
theorem putOk_num {l : List UInt8} {N : Nat} (h : IsNum l N) : putOk (N : Int) (l.length : Int) = true := by
  have h2 := h.two
  have h20 := h.most
  refine putOk_iff.2 ⟨by omega, by omega, by omega, ?_⟩
  rw [Int.toNat_natCast, show ((l.length : Int) - 1).toNat = l.length - 1 by omega]
  exact h.fits

set_option maxRecDepth 100000 in
set_option maxHeartbeats 800000 in
theorem get_yes (l : List UInt8) (N : Nat) (v : Value) (B : Nat) (w : World) (hv : Rd w B v (bs l)) (hB : B ≤ w.heap.size) (hN : IsNum l N) :
    Calls Tryz.prog 91 #[v] w fun e w' => e = .returned (.tuple #[.int .i64 (N : Int), .bool true]) ∧ Below w.heap.size w w' := by
  have h2 := hN.two
  have h20 := hN.most
  have hs := hN.small
  have HN := Lib.hid hN
  have Hw := Lib.hid (widOk_len h2 h20)
  have Hp := Lib.hid (putOk_num hN)
  have Hv := Lib.hid hv
  obtain ⟨A, cap, rfl, hcap, _⟩ := hv
  rw [bs_length] at Hv hcap ⊢
  clear hN
  go_enter Tryz.func91, Tryz.ntmps91
  go_wp2_with fail
  refine (isWidth_yes _ _ Hw.out).mono ?_
  rintro e w' ⟨rfl, rfl⟩
  go_wp2_with fail
  refine (guess_any l _ _ _ (by have := Hv.out; exact this) (by omega) (by omega)).mono ?_
  rintro e w' ⟨rfl, g, rfl, hg, hgN⟩
  obtain rfl : g = (N : Int) := hgN N HN.out
  clear hgN
  go_wp2_with fail
  refine (put_yes _ _ _ hg Hp.out).mono ?_
  rintro e w1 ⟨v1, rfl, hv1, hb1⟩
  have hcv1 := run_string_rd (P := Tryz.prog) w1 46 9 5 Tryz.underlying46 Tryz.underlying5 Tryz.underlying9 _ _ _ hv1.rd
  rw [Int.toNat_natCast, Int.toNat_natCast, HN.out.put] at hcv1
  have hcv2 := run_string_rd (P := Tryz.prog) w1 46 9 5 Tryz.underlying46 Tryz.underlying5 Tryz.underlying9 _ _ _ (Hv.out.keep (hb1.mono hB))
  have Hb1 := Lib.hid hb1
  clear hb1 hv1
  go_wp2_with fail
  go_ret2
  exact ⟨rfl, Hb1.out⟩

theorem str_ne {l m : List UInt8} (h : l ≠ m) : (l == m) = false := beq_eq_false_iff_ne.2 h

set_option maxRecDepth 100000 in
set_option maxHeartbeats 800000 in
theorem get_no (l : List UInt8) (v : Value) (B : Nat) (w : World) (hv : Rd w B v (bs l)) (hB : B ≤ w.heap.size) (hbig : l.length < 9223372036854775808) (hN : ∀ N, ¬ IsNum l N) :
    Calls Tryz.prog 91 #[v] w fun e w' => e = .returned (.tuple #[.int .i64 0, .bool false]) ∧ Below w.heap.size w w' := by
  have HN := Lib.hid hN
  have Hv := Lib.hid hv
  obtain ⟨A, cap, rfl, hcap, _⟩ := hv
  rw [bs_length] at Hv hcap ⊢
  clear hN
  cases hw : widOk (l.length : Int)
  · have Hw := Lib.hid hw
    clear hw
    go_enter Tryz.func91, Tryz.ntmps91
    go_wp2_with fail
    refine (isWidth_no _ _ Hw.out).mono ?_
    rintro e w' ⟨rfl, rfl⟩
    go_wp2_with fail
    go_ret2
    exact ⟨rfl, Below.refl _ _⟩
  · obtain ⟨h2, h20⟩ := widOk_iff.1 hw
    have Hw := Lib.hid hw
    clear hw
    go_enter Tryz.func91, Tryz.ntmps91
    go_wp2_with fail
    refine (isWidth_yes _ _ Hw.out).mono ?_
    rintro e w' ⟨rfl, rfl⟩
    go_wp2_with fail
    refine (guess_any l _ _ _ (by have := Hv.out; exact this) (by omega) (by omega)).mono ?_
    rintro e w' ⟨rfl, g, rfl, hg, _⟩
    go_wp2_with fail
    cases hp : putOk g (l.length : Int)
    · refine (put_no _ _ _ hg hp).mono ?_
      rintro e w1 ⟨rfl, hb1⟩
      have Hb1 := Lib.hid hb1
      have Hp := Lib.hid hp
      clear hb1 hp
      go_wp2_with fail
      go_ret2
      exact ⟨rfl, Hb1.out⟩
    · refine (put_yes _ _ _ hg hp).mono ?_
      rintro e w1 ⟨v1, rfl, hv1, hb1⟩
      have hcv1 := run_string_rd (P := Tryz.prog) w1 46 9 5 Tryz.underlying46 Tryz.underlying5 Tryz.underlying9 _ _ _ hv1.rd
      have hcv2 := run_string_rd (P := Tryz.prog) w1 46 9 5 Tryz.underlying46 Tryz.underlying5 Tryz.underlying9 _ _ _ (Hv.out.keep (hb1.mono hB))
      have hne : putL (l.length : Int).toNat g.toNat ≠ l := fun he => by
        obtain ⟨p0, p2, p20, pf⟩ := putOk_iff.1 hp
        rw [Int.toNat_natCast] at he
        exact HN.out g.toNat ⟨by omega, by omega, by omega, by rw [show ((l.length : Int) - 1).toNat = l.length - 1 by omega] at pf; exact pf, he⟩
      have hst := str_ne hne
      have Hb1 := Lib.hid hb1
      have Hp := Lib.hid hp
      clear hb1 hv1 hp hne
      rw [Int.toNat_natCast] at hcv1 hst
      generalize putL l.length g.toNat = q at hcv1 hst
      go_wp2_with fail
      go_ret2
      exact ⟨rfl, Hb1.out⟩
end Go.Proofs.YtllnnlmhbmladaaGreatDoor.Num

namespace Go.Proofs.YtllnnlmhbmladaaGreatDoor.Num
open Go.RowKit Go.Proofs.YtllnnlmhbmladaaGreatDoor.Base Go.Proofs.YtllnnlmhbmladaaGreatDoor.NumM

end Go.Proofs.YtllnnlmhbmladaaGreatDoor.Num

namespace Go.Proofs.YtllnnlmhbmladaaGreatDoor.Num
open Go.RowKit Go.Proofs.YtllnnlmhbmladaaGreatDoor.Base Go.Proofs.YtllnnlmhbmladaaGreatDoor.NumM

/-- What Get answers for these bytes. -/
def GetIs (l : List UInt8) (e : Ending) : Prop := (∀ N, IsNum l N → e = .returned (.tuple #[.int .i64 (N : Int), .bool true])) ∧ ((∀ N, ¬ IsNum l N) → e = .returned (.tuple #[.int .i64 0, .bool false]))
end Go.Proofs.YtllnnlmhbmladaaGreatDoor.Num

namespace Go.Proofs.YtllnnlmhbmladaaGreatDoor.Num
open Go.RowKit Go.Proofs.YtllnnlmhbmladaaGreatDoor.Base Go.Proofs.YtllnnlmhbmladaaGreatDoor.NumM

/-- What Octal answers. -/
def octV (n d : Int) : ByteArray := if octOk n d = true then ⟨(octs d.toNat n.toNat).toArray⟩ else ⟨#[]⟩
def putV (n wide : Int) : List UInt8 := if putOk n wide = true then putL wide.toNat n.toNat else []

theorem oct_all (n d : Int) (w : World) (hn : n < 9223372036854775808) :
    Calls Tryz.prog 86 #[.int .i64 n, .int .i64 d] w fun e w' => e = .returned (.tuple #[.string (octV n d), .bool (octOk n d)]) ∧ Below w.heap.size w w' := by
  cases h : octOk n d
  · rw [octV, if_neg (by simp [h])]; exact oct_no n d w hn h
  · rw [octV, if_pos h]; exact oct_yes n d w hn h
theorem put_all (n wide : Int) (w : World) (hn : n < 9223372036854775808) :
    Calls Tryz.prog 117 #[.int .i64 n, .int .i64 wide] w fun e w' => ∃ v, e = .returned (.tuple #[v, .bool (putOk n wide)]) ∧ Own w' w.heap.size 5 v (bs (putV n wide)) ∧ Below w.heap.size w w' := by
  cases h : putOk n wide
  · rw [putV, if_neg (by simp [h])]; exact (put_no n wide w hn h).mono fun _ _ hh => ⟨_, hh.1, Own.nil _ _ _, hh.2⟩
  · rw [putV, if_pos h]; exact put_yes n wide w hn h
theorem get_all (l : List UInt8) (v : Value) (B : Nat) (w : World) (hv : Rd w B v (bs l)) (hB : B ≤ w.heap.size) (hbig : l.length < 9223372036854775808) :
    Calls Tryz.prog 91 #[v] w fun e w' => GetIs l e ∧ Below w.heap.size w w' := by
  by_cases hex : ∃ N, IsNum l N
  · obtain ⟨N, hN⟩ := hex
    refine (get_yes l N v B w hv hB hN).mono fun e w' h => ⟨⟨fun M hM => ?_, fun hno => absurd hN (hno N)⟩, h.2⟩
    rw [hM.same hN]
    exact h.1
  · exact (get_no l v B w hv hB hbig (fun N hN => hex ⟨N, hN⟩)).mono fun e w' h => ⟨⟨fun M hM => absurd ⟨M, hM⟩ hex, fun _ => h.1⟩, h.2⟩
end Go.Proofs.YtllnnlmhbmladaaGreatDoor.Num

