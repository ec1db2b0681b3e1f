/-
  What package head answers, as plain functions over lists of bytes: no Go, and no statement, is proved here.
-/
import Derived.Test.YtihigbaaajmjlaaNumAll
namespace Go.Proofs.Ytihigbaaajmjlaa.Head
open Go.Proofs.Ytihigbaaajmjlaa.NumM Go.Proofs.Ytihigbaaajmjlaa.Num
abbrev L := List UInt8

/-- A text with bytes at a place. -/
def lay (b : L) (i : Nat) (x : L) : L := b.take i ++ x ++ b.drop (i + x.length)
theorem lay_length {b x : L} {i : Nat} (h : i + x.length ≤ b.length) : (lay b i x).length = b.length := by
  unfold lay
  simp only [List.length_append, List.length_take, List.length_drop]
  omega
/-- A piece of a text. -/
def sub (b : L) (i n : Nat) : L := (b.drop i).take n
theorem sub_length {b : L} {i n : Nat} (h : i + n ≤ b.length) : (sub b i n).length = n := by
  unfold sub
  rw [List.length_take, List.length_drop]
  omega

/-! ### the number that bytes spell -/
/-- The number that digits to a base tell. -/
def und (b : Nat) (g : UInt8 → Nat) (l : L) : Nat := l.foldl (fun a x => a * b + g x) 0
theorem und_digs (b : Nat) (f : Nat → UInt8) (g : UInt8 → Nat) (hb : 0 < b) (hg : ∀ x, x < b → g (f x) = x) : ∀ d n, n < b ^ d → und b g (digs b f d n) = n
  | 0, n, h => by simp at h; subst h; rfl
  | d + 1, n, h => by
    have ih := und_digs b f g hb hg d (n / b) (by rw [Nat.div_lt_iff_lt_mul hb]; rwa [Nat.pow_succ] at h)
    unfold und at ih ⊢
    rw [digs, List.foldl_append, ih]
    simp only [List.foldl_cons, List.foldl_nil, hg _ (Nat.mod_lt n hb)]
    rw [Nat.mul_comm]
    exact Nat.div_add_mod n b
def valN (l : L) : Nat := if l[0]? = some 128 then und 256 (·.toNat) (l.drop 1) else und 8 (fun x => x.toNat - 48) (l.take (l.length - 1))
theorem valN_of {l : L} {n : Nat} (h : IsNum l n) : valN l = n := by
  unfold valN
  split
  · rename_i h0
    have e := h.mark h0
    have hf := h.fits
    have ed : l.drop 1 = byts (l.length - 1) n := by
      conv => lhs; rw [e]
      rfl
    rw [ed]
    exact und_digs 256 _ _ (by omega) (fun x hx => by_toNat hx) _ n hf
  · rename_i h0
    obtain ⟨hf, e⟩ := h.few h0
    have ed : l.take (l.length - 1) = octs (l.length - 1) n := by
      conv => lhs; rw [e]
      rw [List.take_left' (octs_length _ _ ▸ by rw [← e]) ]
    rw [ed]
    exact und_digs 8 _ _ (by omega) (fun x hx => by rw [oc_toNat hx]; omega) _ n hf
def okN (l : L) : Bool := decide (2 ≤ l.length) && decide (l.length ≤ 20) && decide (valN l < 9223372036854775808) && decide (valN l < 256 ^ (l.length - 1)) && (putL l.length (valN l) == l)
theorem okN_iff {l : L} : okN l = true ↔ IsNum l (valN l) := by
  unfold okN
  simp only [Bool.and_eq_true, decide_eq_true_eq, beq_iff_eq]
  exact ⟨fun ⟨⟨⟨⟨a, b⟩, c⟩, d⟩, e⟩ => ⟨a, b, c, d, e⟩, fun h => ⟨⟨⟨⟨h.two, h.most⟩, h.small⟩, h.fits⟩, h.put⟩⟩
/-- What num's Get tells. -/
def getV (l : L) : Int := if okN l = true then (valN l : Int) else 0
theorem getV_range (l : L) : 0 ≤ getV l ∧ getV l < 9223372036854775808 := by
  unfold getV
  split
  · rename_i h
    have := (okN_iff.1 h).small
    omega
  · omega
theorem getIs_getV (l : L) (e : Go.Ending) (h : GetIs l e) : e = .returned (.tuple #[.int .i64 (getV l), .bool (okN l)]) := by
  cases hk : okN l
  · rw [getV, if_neg (by simp [hk])]
    refine h.2 fun N hN => ?_
    have := okN_iff.2 (valN_of hN ▸ hN)
    rw [hk] at this
    cases this
  · rw [getV, if_pos hk]
    exact h.1 _ (okN_iff.1 hk)
theorem getV_putV {n : Int} {w : Nat} (h : putOk n w = true) (hs : n < 9223372036854775808) : getV (putV n w) = n := by
  obtain ⟨h0, h2, h20, hf⟩ := putOk_iff.1 h
  have hn : IsNum (putL w n.toNat) n.toNat := isNum_put (by omega) (by omega) (by omega) (by rwa [show ((w : Int) - 1).toNat = w - 1 by omega] at hf)
  have e : putV n w = putL w n.toNat := by rw [putV, if_pos h, Int.toNat_natCast]
  have hv := valN_of hn
  have hok : okN (putL w n.toNat) = true := okN_iff.2 (by rw [hv]; exact hn)
  rw [e, getV, if_pos hok, hv]
  omega
theorem putV_length {n : Int} {w : Nat} (h : putOk n w = true) : (putV n w).length = w := by
  obtain ⟨h0, h2, h20, hf⟩ := putOk_iff.1 h
  rw [putV, if_pos h, Int.toNat_natCast]
  exact putL_length (by omega)

/-! ### headers -/
structure Hd where
  name : L
  pre : L
  link : L
  mode : Int
  uid : Int
  gid : Int
  size : Int
  time : Int
  ty : UInt8
  off : Int
  real : Int
deriving DecidableEq
def zeroH : Hd := ⟨[], [], [], 0, 0, 0, 0, 0, 0, 0, 0⟩

/-- May a text be in so many bytes? -/
def okT (s : L) (n : Nat) : Bool := decide (s.length ≤ n) && !(s.contains 0)
def typs : L := [48, 49, 50, 53, 75, 76, 77, 86]
def elseZ (h : Hd) : Bool := if h.ty = 77 then h.pre.isEmpty else decide (h.off = 0) && decide (h.real = 0)
def txtsOk (h : Hd) : Bool := okT h.name 100 && okT h.link 100 && (decide (h.ty = 77) || okT h.pre 155)
def numsOk (h : Hd) : Bool := putOk h.mode 8 && putOk h.uid 8 && putOk h.gid 8 && putOk h.size 12 && putOk h.time 12 && (!decide (h.ty = 77) || (putOk h.off 12 && putOk h.real 12))
def mayH (h : Hd) : Bool := !h.name.isEmpty && typs.contains h.ty && elseZ h && txtsOk h && numsOk h

/-- The sum of bytes. -/
def tot : L → Nat
  | [] => 0
  | x :: l => x.toNat + tot l
theorem tot_append (a b : L) : tot (a ++ b) = tot a + tot b := by
  induction a with
  | nil => simp [tot]
  | cons x a ih => simp only [List.cons_append, tot, ih]; omega
theorem tot_le (l : L) : tot l ≤ 255 * l.length := by
  induction l with
  | nil => simp [tot]
  | cons x l ih => have := x.toNat_lt; simp only [tot, List.length_cons]; omega
/-- A block's sum. -/
def sumN (b : L) : Nat := 256 + tot (b.take 148) + tot (b.drop 156)
def sumT (b : L) : L := octs 6 (sumN b) ++ [0, 32]
theorem sumT_length (b : L) : (sumT b).length = 8 := by simp [sumT, octs_length]
theorem sumN_le {b : L} (h : b.length = 512) : sumN b ≤ 128776 := by
  have h1 := tot_le (b.take 148)
  have h2 := tot_le (b.drop 156)
  rw [List.length_take] at h1
  rw [List.length_drop] at h2
  unfold sumN
  omega
def sumI (b : L) : Int := if b.length = 512 then (sumN b : Int) else -1

def magic : L := [117, 115, 116, 97, 114, 0, 48, 48]
/-- What is laid into a block of noughts, in order. -/
def layAll (b : L) (l : List (Nat × L)) : L := l.foldl (fun b p => lay b p.1 p.2) b
def txts (h : Hd) : List (Nat × L) := if h.ty = 77 then [(0, h.name), (157, h.link)] else [(0, h.name), (157, h.link), (345, h.pre)]
def numsL (h : Hd) : List (Nat × L) :=
  [(100, putV h.mode 8), (108, putV h.uid 8), (116, putV h.gid 8), (124, putV h.size 12), (136, putV h.time 12)] ++ if h.ty = 77 then [(369, putV h.off 12), (483, putV h.real 12)] else []
def zeros (n : Nat) : L := List.replicate n 0
/-- All but the sum. -/
def rawH (h : Hd) : L := layAll (zeros 512) (txts h ++ numsL h ++ [(156, [h.ty]), (257, magic)])
/-- A header's block. -/
def blk (h : Hd) : L := lay (rawH h) 148 (sumT (rawH h))

/-- Up to the first nought. -/
def upto (l : L) : L := l.takeWhile (· != 0)
def guessH (b : L) : Hd :=
  let t := (sub b 156 1).headD 0
  { name := upto (sub b 0 100), pre := if t = 77 then [] else upto (sub b 345 155), link := upto (sub b 157 100),
    mode := getV (sub b 100 8), uid := getV (sub b 108 8), gid := getV (sub b 116 8), size := getV (sub b 124 12), time := getV (sub b 136 12), ty := t,
    off := if t = 77 then getV (sub b 369 12) else 0, real := if t = 77 then getV (sub b 483 12) else 0 }
/-- What Get answers. -/
def codeB (b : L) : Int :=
  if b.length = 512 then
    if b = zeros 512 then 4
    else if sub b 148 8 = sumT b then (if mayH (guessH b) = true ∧ blk (guessH b) = b then 0 else 2)
    else 3
  else 1
def getH (b : L) : Hd := if codeB b = 0 then guessH b else zeroH

/-! ### the block's parts -/
def pad (n : Nat) (s : L) : L := s ++ zeros (n - s.length)
theorem pad_length {n : Nat} {s : L} (h : s.length ≤ n) : (pad n s).length = n := by simp [pad, zeros]; omega
theorem lay_seg (A B C x : L) (i : Nat) (hi : A.length = i) (hx : x.length ≤ B.length) : lay (A ++ B ++ C) i x = A ++ (x ++ B.drop x.length) ++ C := by
  subst hi
  unfold lay
  have e1 : (A ++ B ++ C).take A.length = A := by rw [List.append_assoc, List.take_left]
  have e2 : (A ++ B ++ C).drop (A.length + x.length) = B.drop x.length ++ C := by
    rw [← List.drop_drop, List.append_assoc, List.drop_left, List.drop_append_of_le_length hx]
  rw [e1, e2]
  simp only [List.append_assoc]
theorem sub_seg (A B C : L) (i n : Nat) (hi : A.length = i) (hn : B.length = n) : sub (A ++ B ++ C) i n = B := by
  subst hi hn
  unfold sub
  rw [List.append_assoc, List.drop_left, List.take_left]
theorem upto_pad {s : L} (h : (0 : UInt8) ∉ s) (n : Nat) : upto (pad n s) = s := by
  unfold upto pad
  rw [List.takeWhile_append_of_pos (fun x hx => by simp; rintro rfl; exact h hx)]
  have : (zeros (n - s.length)).takeWhile (· != 0) = [] := by
    unfold zeros
    cases n - s.length <;> simp [List.replicate_succ]
  rw [this, List.append_nil]
end Go.Proofs.Ytihigbaaajmjlaa.Head
