/-
  What package head answers, as plain functions over lists of bytes: no Go, and no statement, is proved here.
  Contracts of package head: the lists of a header's texts and numbers: no statement is proved here.
  Contracts of package head: bytes written into a block: no statement is proved here.
  Contracts of package head: texts and numbers written into a block: no statement is proved here.
-/
import Derived.Test.YtjddgmdbgajjpaaNum
import Derived.Test.YtjddgmdbgajjpaaProg
import Derived.Test.YtjddgmdbgajjpaaBase
import Derived.Laws.StructEq
import Derived.BigRegion
import Derived.Laws.CopyRow
import Derived.Laws.IdiomCopy
import Derived.StillTailTactics
import Derived.Deep.RegionWith
namespace Go.Proofs.Ytjddgmdbgajjpaa.Head
open Go.Proofs.Ytjddgmdbgajjpaa.NumM Go.Proofs.Ytjddgmdbgajjpaa.Num
abbrev L := List UInt8

/-- A text with bytes at a place. -/
def lay (b : L) (i : Nat) (x : L) : L := b.take i ++ x ++ b.drop (i + x.length)
theorem lay_length {b x : L} {i : Nat} (h : i + x.length ≤ b.length) : (lay b i x).length = b.length := by
  unfold lay
  simp only [List.length_append, List.length_take, List.length_drop]
  omega
/-- A piece of a text. -/
def sub (b : L) (i n : Nat) : L := (b.drop i).take n
theorem sub_length {b : L} {i n : Nat} (h : i + n ≤ b.length) : (sub b i n).length = n := by
  unfold sub
  rw [List.length_take, List.length_drop]
  omega

/-! ### the number that bytes spell -/
/-- The number that digits to a base tell. -/
def und (b : Nat) (g : UInt8 → Nat) (l : L) : Nat := l.foldl (fun a x => a * b + g x) 0
theorem und_digs (b : Nat) (f : Nat → UInt8) (g : UInt8 → Nat) (hb : 0 < b) (hg : ∀ x, x < b → g (f x) = x) : ∀ d n, n < b ^ d → und b g (digs b f d n) = n
  | 0, n, h => by simp at h; subst h; rfl
  | d + 1, n, h => by
    have ih := und_digs b f g hb hg d (n / b) (by rw [Nat.div_lt_iff_lt_mul hb]; rwa [Nat.pow_succ] at h)
    unfold und at ih ⊢
    rw [digs, List.foldl_append, ih]
    simp only [List.foldl_cons, List.foldl_nil, hg _ (Nat.mod_lt n hb)]
    rw [Nat.mul_comm]
    exact Nat.div_add_mod n b
def valN (l : L) : Nat := if l[0]? = some 128 then und 256 (·.toNat) (l.drop 1) else und 8 (fun x => x.toNat - 48) (l.take (l.length - 1))
theorem valN_of {l : L} {n : Nat} (h : IsNum l n) : valN l = n := by
  unfold valN
  split
  · rename_i h0
    have e := h.mark h0
    have hf := h.fits
    have ed : l.drop 1 = byts (l.length - 1) n := by
      conv => lhs; rw [e]
      rfl
    rw [ed]
    exact und_digs 256 _ _ (by omega) (fun x hx => by_toNat hx) _ n hf
  · rename_i h0
    obtain ⟨hf, e⟩ := h.few h0
    have ed : l.take (l.length - 1) = octs (l.length - 1) n := by
      conv => lhs; rw [e]
      rw [List.take_left' (octs_length _ _ ▸ by rw [← e]) ]
    rw [ed]
    exact und_digs 8 _ _ (by omega) (fun x hx => by rw [oc_toNat hx]; omega) _ n hf
def okN (l : L) : Bool := decide (2 ≤ l.length) && decide (l.length ≤ 20) && decide (valN l < 9223372036854775808) && decide (valN l < 256 ^ (l.length - 1)) && (putL l.length (valN l) == l)
theorem okN_iff {l : L} : okN l = true ↔ IsNum l (valN l) := by
  unfold okN
  simp only [Bool.and_eq_true, decide_eq_true_eq, beq_iff_eq]
  exact ⟨fun ⟨⟨⟨⟨a, b⟩, c⟩, d⟩, e⟩ => ⟨a, b, c, d, e⟩, fun h => ⟨⟨⟨⟨h.two, h.most⟩, h.small⟩, h.fits⟩, h.put⟩⟩
/-- What num's Get tells. -/
def getV (l : L) : Int := if okN l = true then (valN l : Int) else 0
theorem getV_range (l : L) : 0 ≤ getV l ∧ getV l < 9223372036854775808 := by
  unfold getV
  split
  · rename_i h
    have := (okN_iff.1 h).small
    omega
  · omega
theorem getIs_getV (l : L) (e : Go.Ending) (h : GetIs l e) : e = .returned (.tuple #[.int .i64 (getV l), .bool (okN l)]) := by
  cases hk : okN l
  · rw [getV, if_neg (by simp [hk])]
    refine h.2 fun N hN => ?_
    have := okN_iff.2 (valN_of hN ▸ hN)
    rw [hk] at this
    cases this
  · rw [getV, if_pos hk]
    exact h.1 _ (okN_iff.1 hk)
theorem getV_putV {n : Int} {w : Nat} (h : putOk n w = true) (hs : n < 9223372036854775808) : getV (putV n w) = n := by
  obtain ⟨h0, h2, h20, hf⟩ := putOk_iff.1 h
  have hn : IsNum (putL w n.toNat) n.toNat := isNum_put (by omega) (by omega) (by omega) (by rwa [show ((w : Int) - 1).toNat = w - 1 by omega] at hf)
  have e : putV n w = putL w n.toNat := by rw [putV, if_pos h, Int.toNat_natCast]
  have hv := valN_of hn
  have hok : okN (putL w n.toNat) = true := okN_iff.2 (by rw [hv]; exact hn)
  rw [e, getV, if_pos hok, hv]
  omega
theorem putV_length {n : Int} {w : Nat} (h : putOk n w = true) : (putV n w).length = w := by
  obtain ⟨h0, h2, h20, hf⟩ := putOk_iff.1 h
  rw [putV, if_pos h, Int.toNat_natCast]
  exact putL_length (by omega)

/-! ### headers -/
structure Hd where
  name : L
  pre : L
  link : L
  mode : Int
  uid : Int
  gid : Int
  size : Int
  time : Int
  ty : UInt8
  off : Int
  real : Int
deriving DecidableEq
def zeroH : Hd := ⟨[], [], [], 0, 0, 0, 0, 0, 0, 0, 0⟩

/-- May a text be in so many bytes? -/
def okT (s : L) (n : Nat) : Bool := decide (s.length ≤ n) && !(s.contains 0)
def typs : L := [48, 49, 50, 53, 75, 76, 77, 86]
def elseZ (h : Hd) : Bool := if h.ty = 77 then h.pre.isEmpty else decide (h.off = 0) && decide (h.real = 0)
def txtsOk (h : Hd) : Bool := okT h.name 100 && okT h.link 100 && (decide (h.ty = 77) || okT h.pre 155)
def numsOk (h : Hd) : Bool := putOk h.mode 8 && putOk h.uid 8 && putOk h.gid 8 && putOk h.size 12 && putOk h.time 12 && (!decide (h.ty = 77) || (putOk h.off 12 && putOk h.real 12))
def mayH (h : Hd) : Bool := !h.name.isEmpty && typs.contains h.ty && elseZ h && txtsOk h && numsOk h

/-- The sum of bytes. -/
def tot : L → Nat
  | [] => 0
  | x :: l => x.toNat + tot l
theorem tot_append (a b : L) : tot (a ++ b) = tot a + tot b := by
  induction a with
  | nil => simp [tot]
  | cons x a ih => simp only [List.cons_append, tot, ih]; omega
theorem tot_le (l : L) : tot l ≤ 255 * l.length := by
  induction l with
  | nil => simp [tot]
  | cons x l ih => have := x.toNat_lt; simp only [tot, List.length_cons]; omega
/-- A block's sum. -/
def sumN (b : L) : Nat := 256 + tot (b.take 148) + tot (b.drop 156)
def sumT (b : L) : L := octs 6 (sumN b) ++ [0, 32]
theorem sumT_length (b : L) : (sumT b).length = 8 := by simp [sumT, octs_length]
theorem sumN_le {b : L} (h : b.length = 512) : sumN b ≤ 128776 := by
  have h1 := tot_le (b.take 148)
  have h2 := tot_le (b.drop 156)
  rw [List.length_take] at h1
  rw [List.length_drop] at h2
  unfold sumN
  omega
def sumI (b : L) : Int := if b.length = 512 then (sumN b : Int) else -1

def magic : L := [117, 115, 116, 97, 114, 0, 48, 48]
/-- What is laid into a block of noughts, in order. -/
def layAll (b : L) (l : List (Nat × L)) : L := l.foldl (fun b p => lay b p.1 p.2) b
def txts (h : Hd) : List (Nat × L) := if h.ty = 77 then [(0, h.name), (157, h.link)] else [(0, h.name), (157, h.link), (345, h.pre)]
def numsL (h : Hd) : List (Nat × L) :=
  [(100, putV h.mode 8), (108, putV h.uid 8), (116, putV h.gid 8), (124, putV h.size 12), (136, putV h.time 12)] ++ if h.ty = 77 then [(369, putV h.off 12), (483, putV h.real 12)] else []
def zeros (n : Nat) : L := List.replicate n 0
/-- All but the sum. -/
def rawH (h : Hd) : L := layAll (zeros 512) (txts h ++ numsL h ++ [(156, [h.ty]), (257, magic)])
/-- A header's block. -/
def blk (h : Hd) : L := lay (rawH h) 148 (sumT (rawH h))

/-- Up to the first nought. -/
def upto (l : L) : L := l.takeWhile (· != 0)
def guessH (b : L) : Hd :=
  let t := (sub b 156 1).headD 0
  { name := upto (sub b 0 100), pre := if t = 77 then [] else upto (sub b 345 155), link := upto (sub b 157 100),
    mode := getV (sub b 100 8), uid := getV (sub b 108 8), gid := getV (sub b 116 8), size := getV (sub b 124 12), time := getV (sub b 136 12), ty := t,
    off := if t = 77 then getV (sub b 369 12) else 0, real := if t = 77 then getV (sub b 483 12) else 0 }
/-- What Get answers. -/
def codeB (b : L) : Int :=
  if b.length = 512 then
    if b = zeros 512 then 4
    else if sub b 148 8 = sumT b then (if mayH (guessH b) = true ∧ blk (guessH b) = b then 0 else 2)
    else 3
  else 1
def getH (b : L) : Hd := if codeB b = 0 then guessH b else zeroH

/-! ### the block's parts -/
def pad (n : Nat) (s : L) : L := s ++ zeros (n - s.length)
theorem pad_length {n : Nat} {s : L} (h : s.length ≤ n) : (pad n s).length = n := by simp [pad, zeros]; omega
theorem lay_seg (A B C x : L) (i : Nat) (hi : A.length = i) (hx : x.length ≤ B.length) : lay (A ++ B ++ C) i x = A ++ (x ++ B.drop x.length) ++ C := by
  subst hi
  unfold lay
  have e1 : (A ++ B ++ C).take A.length = A := by rw [List.append_assoc, List.take_left]
  have e2 : (A ++ B ++ C).drop (A.length + x.length) = B.drop x.length ++ C := by
    rw [← List.drop_drop, List.append_assoc, List.drop_left, List.drop_append_of_le_length hx]
  rw [e1, e2]
  simp only [List.append_assoc]
theorem sub_seg (A B C : L) (i n : Nat) (hi : A.length = i) (hn : B.length = n) : sub (A ++ B ++ C) i n = B := by
  subst hi hn
  unfold sub
  rw [List.append_assoc, List.drop_left, List.take_left]
theorem upto_pad {s : L} (h : (0 : UInt8) ∉ s) (n : Nat) : upto (pad n s) = s := by
  unfold upto pad
  rw [List.takeWhile_append_of_pos (fun x hx => by simp; rintro rfl; exact h hx)]
  have : (zeros (n - s.length)).takeWhile (· != 0) = [] := by
    unfold zeros
    cases n - s.length <;> simp [List.replicate_succ]
  rw [this, List.append_nil]
end Go.Proofs.Ytjddgmdbgajjpaa.Head

namespace Go.Proofs.Ytjddgmdbgajjpaa.Head
open Go.RowKit Go.Proofs.Ytjddgmdbgajjpaa.Base

/-- Cells that lie one behind another from the head of a block on. -/
def RdC (w : World) (g : Nat) (cs : List Value) : Prop := g < w.heap.size ∧ ∀ j u, cs[j]? = some u → w.cell? ⟨g, j, none⟩ = some u
theorem RdC.of_blk {w : World} {g : Nat} {t : TypeId} {cs : Array Value} (h : Blk w g t cs) : RdC w g cs.toList := ⟨h.lt, fun j u hj => by rw [h.cell j]; simpa using hj⟩
theorem RdC.keep {w w' : World} {g : Nat} {cs : List Value} (h : RdC w g cs) (hs : Stp w w') : RdC w' g cs := ⟨Nat.lt_of_lt_of_le h.1 hs.size, fun j u hj => (hs.cell (p := ⟨g, j, none⟩) h.1).trans (h.2 j u hj)⟩
theorem RdC.grown {w w' : World} {g : Nat} {row : Option Nat} {cs : List Value} (h : RdC w g cs) (hs : w.grownBy w' row) (hn : some g ≠ row) : RdC w' g cs := by
  refine ⟨Nat.lt_of_lt_of_le h.1 hs.size, fun j u hj => ?_⟩
  have := h.2 j u hj
  unfold World.cell? at this ⊢
  rwa [hs.block g h.1 hn]

/-- A row of a header's list: a place, a number, a pointer to a part of the header. -/
def rowC (hb : Nat) (r : Int × Int × Nat) : List Value := [.int .i64 r.1, .int .i64 r.2.1, .pointer (some ⟨hb, r.2.2, none⟩)]
def rowsC (hb : Nat) (l : List (Int × Int × Nat)) : List Value := l.flatMap (rowC hb)
def txM : List (Int × Int × Nat) := [(0, 100, 0), (157, 100, 2)]
def txN : List (Int × Int × Nat) := [(0, 100, 0), (157, 100, 2), (345, 155, 1)]
def nuN : List (Int × Int × Nat) := [(100, 8, 3), (108, 8, 4), (116, 8, 5), (124, 12, 6), (136, 12, 7)]
def nuM : List (Int × Int × Nat) := [(100, 8, 3), (108, 8, 4), (116, 8, 5), (124, 12, 6), (136, 12, 7), (369, 12, 9), (483, 12, 10)]

theorem RdC.new (w : World) (g : Nat) (hg : g = w.heap.size) (cs : Array Value) (t : TypeId) (fr : Nat × Nat) (l : List Value) (z : Array Value) (h : cs = l.toArray ++ z) : RdC (w.alloc (.cells cs t fr)) g l := by
  subst hg h
  refine ⟨by simp, fun j u hj => ?_⟩
  rw [World.cell?_alloc_mark]
  have hjl := (List.getElem?_eq_some_iff.1 hj).1
  rw [Array.getElem?_append_left (by simpa using hjl)]
  simpa using hj
theorem RdC.new2 (w : World) (g : Nat) (hg : g = w.heap.size) (A B z : Array Value) (t : TypeId) (fr : Nat × Nat) (l : List Value) (h : A.toList ++ B.toList = l) : RdC (w.alloc (.cells (A ++ (B ++ z)) t fr)) g l :=
  RdC.new w g hg _ t fr l z (by rw [← h]; apply Array.ext'; simp)
theorem RdC.drew {w : World} {g : Nat} {l : List Value} (h : RdC w g l) : RdC w.drew g l := h
theorem stp_drew {w w1 : World} (h : Stp w w1) : Stp w w1.drew := ⟨h.os, h.tape, h.output, h.size, h.block⟩
theorem stp_alloc {w w1 : World} (h : Stp w w1) (o : Obj) : Stp w (w1.alloc o) := Stp.alloc h o
theorem stp_grown {w w1 w2 : World} (h : Stp w w1) (hg : w1.grownBy w2 none) : Stp w w2 :=
  Stp.trans h ⟨hg.os, hg.tape, hg.output, hg.size, fun k hk => hg.block k hk (by simp)⟩

end Go.Proofs.Ytjddgmdbgajjpaa.Head

namespace Go.Proofs.Ytjddgmdbgajjpaa.Head
open Go.RowKit Go.Proofs.Ytjddgmdbgajjpaa.Base

section
variable {P : Program} (w : World)
theorem run_copy_rd (dT sT ty elem : TypeId) (g o n cap : Nat) (t : TypeId) (cur : Array Value) (B : Nat) (v : Value) (xs : List Value) (hu : P.underlying dT = some (.slice elem)) (hs : (P.info? elem).map (·.size) = some 1)
    (hb : Blk w g t cur) (hv : Rd w B v xs) (h1 : ∀ u ∈ xs, u.oneCell' = true) (hfit : o + xs.length ≤ cur.size) (hn : xs.length ≤ n) :
    ∃ w', (Builtin.copy_ #[dT, sT] ty #[.slice (some ⟨g, o, none⟩) n cap, v]).run P w = .ok (.int .i64 xs.length) w' ∧ Blk w' g t (cur.toList.take o ++ xs ++ cur.toList.drop (o + xs.length)).toArray ∧ w.grownBy w' (some g) := by
  obtain ⟨A, c, rfl, hc, hr⟩ := hv
  by_cases he : xs = []
  · subst he
    refine ⟨w, run_copy_none (P := P) w dT sT ty elem (some ⟨g, o, none⟩) A n cap 0 c hu hs (by simp), ?_, World.grownBy.refl w _⟩
    simpa using hb
  · obtain ⟨b, p, rfl, _, hcell⟩ := hr he
    have hrun := run_copy_row (P := P) w dT sT ty elem g o n cap ⟨b, p, none⟩ xs.length c cur t xs hu hs hb (by simp only [Nat.min_def]; split <;> omega) (fun j u hj => by rw [Addr.add_lit]; exact hcell j u hj) hfit h1
    exact ⟨_, hrun, setRow_heap w g cur _ t _ hb, ⟨rfl, rfl, rfl, by simp [World.setRow], fun k _ hk => setRow_other w g k _ (fun e => hk (by rw [e]))⟩⟩

theorem wpList_copy_rd {ops : Array Oper} {rest : List Oper} {o : Oper} {a : Act} {Q : Exit → Act → World → Prop} (hgd : o.guard = none) (d x : Operand) (dT sT : TypeId) (ho : o.op = .call { callee := .builtin .copy, args := #[d, x], argTypes := #[dT, sT] })
    (elem : TypeId) (hu : P.underlying dT = some (.slice elem)) (hs : (P.info? elem).map (·.size) = some 1) (g p n cap : Nat) (t : TypeId) (cur : Array Value) (B : Nat) (v : Value) (xs : List Value)
    (hd : a.eval d = .slice (some ⟨g, p, none⟩) n cap) (hx : a.eval x = v) (hb : Blk w g t cur) (hv : Rd w B v xs) (h1 : ∀ u ∈ xs, u.oneCell' = true) (hfit : p + xs.length ≤ cur.size) (hn : xs.length ≤ n)
    (h : ∀ w', Blk w' g t (cur.toList.take p ++ xs ++ cur.toList.drop (p + xs.length)).toArray → w.grownBy w' (some g) → wpList P ops Q rest (a.put o.dst (.int .i64 xs.length)) w') : wpList P ops Q (o :: rest) a w := by
  refine wpList_plain hgd fun K hK => ?_
  obtain ⟨w', hr, h3, h4⟩ := run_copy_rd (P := P) w dT sT o.type elem g p n cap t cur B v xs hu hs hb hv h1 hfit hn
  unfold Oper.wp execOp
  simp only [ho, resolve, invoke, builtin, Sem.run_bind, Sem.run_pure, Result.andThen_ok, List.map_toArray, List.map_cons, List.map_nil, hd, hx, hr]
  exact hK _ _ (h w' h3 h4)
end

theorem lay_cells (b x : List UInt8) (i : Nat) : ((bs b).toArray.toList.take i ++ bs x ++ (bs b).toArray.toList.drop (i + (bs x).length)).toArray = (bs (lay b i x)).toArray := by
  simp [lay, bs, List.map_take, List.map_drop]

end Go.Proofs.Ytjddgmdbgajjpaa.Head

namespace Go.Proofs.Ytjddgmdbgajjpaa.Head
open Go.RowKit Go.Proofs.Ytjddgmdbgajjpaa.Base Go.Proofs.Ytjddgmdbgajjpaa.NumM Go.Proofs.Ytjddgmdbgajjpaa.Num

theorem rowsC_length (hb : Nat) (l : List (Int × Int × Nat)) : (rowsC hb l).length = l.length * 3 := by
  induction l with
  | nil => rfl
  | cons r l ih => simp only [rowsC, List.flatMap_cons, List.length_append] at ih ⊢; rw [ih]; simp [rowC]; omega
theorem rowsC_at (hb : Nat) : ∀ (l : List (Int × Int × Nat)) (k : Nat) (r : Int × Int × Nat), l[k]? = some r → (rowsC hb l)[k * 3]? = some (.int .i64 r.1) ∧ (rowsC hb l)[k * 3 + 1]? = some (.int .i64 r.2.1) ∧ (rowsC hb l)[k * 3 + 2]? = some (.pointer (some ⟨hb, r.2.2, none⟩))
  | [], k, r, h => by simp at h
  | x :: l, 0, r, h => by
    simp only [List.getElem?_cons_zero, Option.some.injEq] at h
    subst h
    simp [rowsC, rowC]
  | x :: l, k + 1, r, h => by
    simp only [List.getElem?_cons_succ] at h
    have ih := rowsC_at hb l k r h
    have e : rowsC hb (x :: l) = rowC hb x ++ rowsC hb l := by simp [rowsC]
    have hl : (rowC hb x).length = 3 := rfl
    rw [e, List.getElem?_append_right (by rw [hl]; omega), List.getElem?_append_right (by rw [hl]; omega), List.getElem?_append_right (by rw [hl]; omega), hl]
    rw [show (k + 1) * 3 - 3 = k * 3 by omega, show (k + 1) * 3 + 1 - 3 = k * 3 + 1 by omega, show (k + 1) * 3 + 2 - 3 = k * 3 + 2 by omega]
    exact ih

theorem layAll_take {b : L} {ps : List (Nat × L)} {k : Nat} {p : Nat × L} (h : ps[k]? = some p) : layAll b (ps.take (k + 1)) = lay (layAll b (ps.take k)) p.1 p.2 := by
  rw [List.take_add_one, h]
  simp [layAll, List.foldl_append]
theorem layAll_length {b : L} {ps : List (Nat × L)} (h : ∀ p ∈ ps, p.1 + p.2.length ≤ b.length) : (layAll b ps).length = b.length := by
  induction ps generalizing b with
  | nil => rfl
  | cons p ps ih =>
    have h1 := h p (by simp)
    have e : layAll b (p :: ps) = layAll (lay b p.1 p.2) ps := rfl
    rw [e, ih (fun q hq => by rw [lay_length h1]; exact h q (by simp [hq])), lay_length h1]

theorem cell_grown {w w1 : World} {a : Addr} {v : Value} (h : w.grownBy w1 none) (hc : w.cell? a = some v) : w1.cell? a = some v := by
  have hlt := World.block_lt_of_cell? w _ hc
  unfold World.cell? at hc ⊢
  rwa [h.block _ hlt (by simp)]
theorem run_bytes_rd {P : Program} (w : World) (src dst e : TypeId) (hs : P.underlying src = some .string) (hd : P.underlying dst = some (.slice e)) (he : P.underlying e = some (.int .u8)) (s : L) (hm : s.length ≤ maxLen) :
    ∃ v w', (convert src dst (.string ⟨s.toArray⟩)).run P w = .ok v w' ∧ Own w' w.heap.size e v (bs s) ∧ w.grownBy w' none :=
  ⟨_, _, run_bytes_of_string (P := P) w src dst e ⟨s.toArray⟩ hs hd he, own_bytesRow w e ⟨s.toArray⟩ (by show s.toArray.size ≤ _; rw [List.size_toArray]; exact hm), ⟨rfl, rfl, rfl, by simp, fun k hk _ => Below.heap_alloc w.drew _ k hk⟩⟩

/-- A row that leads to a text, and what is to be laid where. -/
structure EntT (w : World) (hb : Nat) (r : Int × Int × Nat) (p : Nat × L) : Prop where
  at_ : r.1 = (p.1 : Int)
  cell : w.cell? ⟨hb, r.2.2, none⟩ = some (.string ⟨p.2.toArray⟩)
  room : p.1 + p.2.length ≤ 512
  low : p.1 < 512

theorem grown_trans {w w1 w2 : World} {r : Option Nat} (h : w.grownBy w1 r) (k : w1.grownBy w2 r) : w.grownBy w2 r :=
  ⟨k.os.trans h.os, k.tape.trans h.tape, k.output.trans h.output, Nat.le_trans h.size k.size, fun j hj hn => (k.block j (Nat.lt_of_lt_of_le hj h.size) hn).trans (h.block j hj hn)⟩
theorem grown_drew {w w1 : World} {r : Option Nat} (h : w.drew.grownBy w1 r) : w.grownBy w1 r := ⟨h.os, h.tape, h.output, h.size, h.block⟩
theorem grown_none {w w1 : World} {r : Option Nat} (h : w.grownBy w1 none) : w.grownBy w1 r := ⟨h.os, h.tape, h.output, h.size, fun j hj _ => h.block j hj (by simp)⟩

/-- A row that leads to a number, and what is to be laid where. -/
structure EntN (w : World) (hb : Nat) (r : Int × Int × Nat) (p : Nat × L) (x : Int) (wd : Nat) : Prop where
  at_ : r.1 = (p.1 : Int)
  wide : r.2.1 = (wd : Int)
  cell : w.cell? ⟨hb, r.2.2, none⟩ = some (.int .i64 x)
  room : p.1 + p.2.length ≤ 512
  low : p.1 < 512
  is : p.2 = putV x wd
  small : x < 9223372036854775808

end Go.Proofs.Ytjddgmdbgajjpaa.Head

