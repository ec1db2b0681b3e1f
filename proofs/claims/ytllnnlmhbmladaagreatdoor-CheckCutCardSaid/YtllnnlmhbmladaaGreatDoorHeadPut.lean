/-
  What package head answers, as plain functions over lists of bytes: no Go, and no statement, is proved here.
  Contracts of package head: the lists of a header's texts and numbers: no statement is proved here.
  Contracts of package head: bytes written into a block: no statement is proved here.
  Contracts of package head: texts and numbers written into a block: no statement is proved here.
-/
import Derived.Test.YtllnnlmhbmladaaGreatDoorNum
import Derived.Test.YtllnnlmhbmladaaGreatDoorProg
import Derived.Test.YtllnnlmhbmladaaGreatDoorBase
import Derived.Laws.StructEq
import Derived.BigRegion
import Derived.Laws.CopyRow
import Derived.Laws.IdiomCopy
import Derived.StillTailTactics
import Derived.Deep.RegionWith
namespace Go.Proofs.YtllnnlmhbmladaaGreatDoor.Head
open Go.Proofs.YtllnnlmhbmladaaGreatDoor.NumM Go.Proofs.YtllnnlmhbmladaaGreatDoor.Num
abbrev L := List UInt8

/-- A text with bytes at a place. -/
def lay (b : L) (i : Nat) (x : L) : L := b.take i ++ x ++ b.drop (i + x.length)
theorem lay_length {b x : L} {i : Nat} (h : i + x.length ≤ b.length) : (lay b i x).length = b.length := by
  unfold lay
  simp only [List.length_append, List.length_take, List.length_drop]
  omega
/-- A piece of a text. -/
def sub (b : L) (i n : Nat) : L := (b.drop i).take n
theorem sub_length {b : L} {i n : Nat} (h : i + n ≤ b.length) : (sub b i n).length = n := by
  unfold sub
  rw [List.length_take, List.length_drop]
  omega

/-! ### the number that bytes spell -/
/-- The number that digits to a base tell. -/
def und (b : Nat) (g : UInt8 → Nat) (l : L) : Nat := l.foldl (fun a x => a * b + g x) 0
theorem und_digs (b : Nat) (f : Nat → UInt8) (g : UInt8 → Nat) (hb : 0 < b) (hg : ∀ x, x < b → g (f x) = x) : ∀ d n, n < b ^ d → und b g (digs b f d n) = n
  | 0, n, h => by simp at h; subst h; rfl
  | d + 1, n, h => by
    have ih := und_digs b f g hb hg d (n / b) (by rw [Nat.div_lt_iff_lt_mul hb]; rwa [Nat.pow_succ] at h)
    unfold und at ih ⊢
    rw [digs, List.foldl_append, ih]
    simp only [List.foldl_cons, List.foldl_nil, hg _ (Nat.mod_lt n hb)]
    rw [Nat.mul_comm]
    exact Nat.div_add_mod n b
def valN (l : L) : Nat := if l[0]? = some 128 then und 256 (·.toNat) (l.drop 1) else und 8 (fun x => x.toNat - 48) (l.take (l.length - 1))
theorem valN_of {l : L} {n : Nat} (h : IsNum l n) : valN l = n := by
  unfold valN
  split
  · rename_i h0
    have e := h.mark h0
    have hf := h.fits
    have ed : l.drop 1 = byts (l.length - 1) n := by
      conv => lhs; rw [e]
      rfl
    rw [ed]
    exact und_digs 256 _ _ (by omega) (fun x hx => by_toNat hx) _ n hf
  · rename_i h0
    obtain ⟨hf, e⟩ := h.few h0
    have ed : l.take (l.length - 1) = octs (l.length - 1) n := by
      conv => lhs; rw [e]
      rw [List.take_left' (octs_length _ _ ▸ by rw [← e]) ]
    rw [ed]
    exact und_digs 8 _ _ (by omega) (fun x hx => by rw [oc_toNat hx]; omega) _ n hf
def okN (l : L) : Bool := decide (2 ≤ l.length) && decide (l.length ≤ 20) && decide (valN l < 9223372036854775808) && decide (valN l < 256 ^ (l.length - 1)) && (putL l.length (valN l) == l)
theorem okN_iff {l : L} : okN l = true ↔ IsNum l (valN l) := by
  unfold okN
  simp only [Bool.and_eq_true, decide_eq_true_eq, beq_iff_eq]
  exact ⟨fun ⟨⟨⟨⟨a, b⟩, c⟩, d⟩, e⟩ => ⟨a, b, c, d, e⟩, fun h => ⟨⟨⟨⟨h.two, h.most⟩, h.small⟩, h.fits⟩, h.put⟩⟩
/-- What num's Get tells. -/
def getV (l : L) : Int := if okN l = true then (valN l : Int) else 0
theorem getV_range (l : L) : 0 ≤ getV l ∧ getV l < 9223372036854775808 := by
  unfold getV
  split
  · rename_i h
    have := (okN_iff.1 h).small
    omega
  · omega
theorem getIs_getV (l : L) (e : Go.Ending) (h : GetIs l e) : e = .returned (.tuple #[.int .i64 (getV l), .bool (okN l)]) := by
  cases hk : okN l
  · rw [getV, if_neg (by simp [hk])]
    refine h.2 fun N hN => ?_
    have := okN_iff.2 (valN_of hN ▸ hN)
    rw [hk] at this
    cases this
  · rw [getV, if_pos hk]
    exact h.1 _ (okN_iff.1 hk)
theorem getV_putV {n : Int} {w : Nat} (h : putOk n w = true) (hs : n < 9223372036854775808) : getV (putV n w) = n := by
  obtain ⟨h0, h2, h20, hf⟩ := putOk_iff.1 h
  have hn : IsNum (putL w n.toNat) n.toNat := isNum_put (by omega) (by omega) (by omega) (by rwa [show ((w : Int) - 1).toNat = w - 1 by omega] at hf)
  have e : putV n w = putL w n.toNat := by rw [putV, if_pos h, Int.toNat_natCast]
  have hv := valN_of hn
  have hok : okN (putL w n.toNat) = true := okN_iff.2 (by rw [hv]; exact hn)
  rw [e, getV, if_pos hok, hv]
  omega
theorem putV_length {n : Int} {w : Nat} (h : putOk n w = true) : (putV n w).length = w := by
  obtain ⟨h0, h2, h20, hf⟩ := putOk_iff.1 h
  rw [putV, if_pos h, Int.toNat_natCast]
  exact putL_length (by omega)

/-! ### headers -/
structure Hd where
  name : L
  pre : L
  link : L
  mode : Int
  uid : Int
  gid : Int
  size : Int
  time : Int
  ty : UInt8
  off : Int
  real : Int
deriving DecidableEq
def zeroH : Hd := ⟨[], [], [], 0, 0, 0, 0, 0, 0, 0, 0⟩

/-- May a text be in so many bytes? -/
def okT (s : L) (n : Nat) : Bool := decide (s.length ≤ n) && !(s.contains 0)
def typs : L := [48, 49, 50, 53, 75, 76, 77, 86]
def elseZ (h : Hd) : Bool := if h.ty = 77 then h.pre.isEmpty else decide (h.off = 0) && decide (h.real = 0)
def txtsOk (h : Hd) : Bool := okT h.name 100 && okT h.link 100 && (decide (h.ty = 77) || okT h.pre 155)
def numsOk (h : Hd) : Bool := putOk h.mode 8 && putOk h.uid 8 && putOk h.gid 8 && putOk h.size 12 && putOk h.time 12 && (!decide (h.ty = 77) || (putOk h.off 12 && putOk h.real 12))
def mayH (h : Hd) : Bool := !h.name.isEmpty && typs.contains h.ty && elseZ h && txtsOk h && numsOk h

/-- The sum of bytes. -/
def tot : L → Nat
  | [] => 0
  | x :: l => x.toNat + tot l
theorem tot_append (a b : L) : tot (a ++ b) = tot a + tot b := by
  induction a with
  | nil => simp [tot]
  | cons x a ih => simp only [List.cons_append, tot, ih]; omega
theorem tot_le (l : L) : tot l ≤ 255 * l.length := by
  induction l with
  | nil => simp [tot]
  | cons x l ih => have := x.toNat_lt; simp only [tot, List.length_cons]; omega
/-- A block's sum. -/
def sumN (b : L) : Nat := 256 + tot (b.take 148) + tot (b.drop 156)
def sumT (b : L) : L := octs 6 (sumN b) ++ [0, 32]
theorem sumT_length (b : L) : (sumT b).length = 8 := by simp [sumT, octs_length]
theorem sumN_le {b : L} (h : b.length = 512) : sumN b ≤ 128776 := by
  have h1 := tot_le (b.take 148)
  have h2 := tot_le (b.drop 156)
  rw [List.length_take] at h1
  rw [List.length_drop] at h2
  unfold sumN
  omega
def sumI (b : L) : Int := if b.length = 512 then (sumN b : Int) else -1

def magic : L := [117, 115, 116, 97, 114, 0, 48, 48]
/-- What is laid into a block of noughts, in order. -/
def layAll (b : L) (l : List (Nat × L)) : L := l.foldl (fun b p => lay b p.1 p.2) b
def txts (h : Hd) : List (Nat × L) := if h.ty = 77 then [(0, h.name), (157, h.link)] else [(0, h.name), (157, h.link), (345, h.pre)]
def numsL (h : Hd) : List (Nat × L) :=
  [(100, putV h.mode 8), (108, putV h.uid 8), (116, putV h.gid 8), (124, putV h.size 12), (136, putV h.time 12)] ++ if h.ty = 77 then [(369, putV h.off 12), (483, putV h.real 12)] else []
def zeros (n : Nat) : L := List.replicate n 0
/-- All but the sum. -/
def rawH (h : Hd) : L := layAll (zeros 512) (txts h ++ numsL h ++ [(156, [h.ty]), (257, magic)])
/-- A header's block. -/
def blk (h : Hd) : L := lay (rawH h) 148 (sumT (rawH h))

/-- Up to the first nought. -/
def upto (l : L) : L := l.takeWhile (· != 0)
def guessH (b : L) : Hd :=
  let t := (sub b 156 1).headD 0
  { name := upto (sub b 0 100), pre := if t = 77 then [] else upto (sub b 345 155), link := upto (sub b 157 100),
    mode := getV (sub b 100 8), uid := getV (sub b 108 8), gid := getV (sub b 116 8), size := getV (sub b 124 12), time := getV (sub b 136 12), ty := t,
    off := if t = 77 then getV (sub b 369 12) else 0, real := if t = 77 then getV (sub b 483 12) else 0 }
/-- What Get answers. -/
def codeB (b : L) : Int :=
  if b.length = 512 then
    if b = zeros 512 then 4
    else if sub b 148 8 = sumT b then (if mayH (guessH b) = true ∧ blk (guessH b) = b then 0 else 2)
    else 3
  else 1
def getH (b : L) : Hd := if codeB b = 0 then guessH b else zeroH

/-! ### the block's parts -/
def pad (n : Nat) (s : L) : L := s ++ zeros (n - s.length)
theorem pad_length {n : Nat} {s : L} (h : s.length ≤ n) : (pad n s).length = n := by simp [pad, zeros]; omega
theorem lay_seg (A B C x : L) (i : Nat) (hi : A.length = i) (hx : x.length ≤ B.length) : lay (A ++ B ++ C) i x = A ++ (x ++ B.drop x.length) ++ C := by
  subst hi
  unfold lay
  have e1 : (A ++ B ++ C).take A.length = A := by rw [List.append_assoc, List.take_left]
  have e2 : (A ++ B ++ C).drop (A.length + x.length) = B.drop x.length ++ C := by
    rw [← List.drop_drop, List.append_assoc, List.drop_left, List.drop_append_of_le_length hx]
  rw [e1, e2]
  simp only [List.append_assoc]
theorem upto_pad {s : L} (h : (0 : UInt8) ∉ s) (n : Nat) : upto (pad n s) = s := by
  unfold upto pad
  rw [List.takeWhile_append_of_pos (fun x hx => by simp; rintro rfl; exact h hx)]
  have : (zeros (n - s.length)).takeWhile (· != 0) = [] := by
    unfold zeros
    cases n - s.length <;> simp [List.replicate_succ]
  rw [this, List.append_nil]
end Go.Proofs.YtllnnlmhbmladaaGreatDoor.Head

namespace Go.Proofs.YtllnnlmhbmladaaGreatDoor.Head
open Go.RowKit Go.Proofs.YtllnnlmhbmladaaGreatDoor.Base

/-- Cells that lie one behind another from the head of a block on. -/
def RdC (w : World) (g : Nat) (cs : List Value) : Prop := g < w.heap.size ∧ ∀ j u, cs[j]? = some u → w.cell? ⟨g, j, none⟩ = some u
theorem RdC.of_blk {w : World} {g : Nat} {t : TypeId} {cs : Array Value} (h : Blk w g t cs) : RdC w g cs.toList := ⟨h.lt, fun j u hj => by rw [h.cell j]; simpa using hj⟩
theorem RdC.keep {w w' : World} {g : Nat} {cs : List Value} (h : RdC w g cs) (hs : Stp w w') : RdC w' g cs := ⟨Nat.lt_of_lt_of_le h.1 hs.size, fun j u hj => (hs.cell (p := ⟨g, j, none⟩) h.1).trans (h.2 j u hj)⟩
theorem RdC.grown {w w' : World} {g : Nat} {row : Option Nat} {cs : List Value} (h : RdC w g cs) (hs : w.grownBy w' row) (hn : some g ≠ row) : RdC w' g cs := by
  refine ⟨Nat.lt_of_lt_of_le h.1 hs.size, fun j u hj => ?_⟩
  have := h.2 j u hj
  unfold World.cell? at this ⊢
  rwa [hs.block g h.1 hn]

/-- A row of a header's list: a place, a number, a pointer to a part of the header. -/
def rowC (hb : Nat) (r : Int × Int × Nat) : List Value := [.int .i64 r.1, .int .i64 r.2.1, .pointer (some ⟨hb, r.2.2, none⟩)]
def rowsC (hb : Nat) (l : List (Int × Int × Nat)) : List Value := l.flatMap (rowC hb)
def txM : List (Int × Int × Nat) := [(0, 100, 0), (157, 100, 2)]
def txN : List (Int × Int × Nat) := [(0, 100, 0), (157, 100, 2), (345, 155, 1)]
def nuN : List (Int × Int × Nat) := [(100, 8, 3), (108, 8, 4), (116, 8, 5), (124, 12, 6), (136, 12, 7)]
def nuM : List (Int × Int × Nat) := [(100, 8, 3), (108, 8, 4), (116, 8, 5), (124, 12, 6), (136, 12, 7), (369, 12, 9), (483, 12, 10)]

theorem RdC.new (w : World) (g : Nat) (hg : g = w.heap.size) (cs : Array Value) (t : TypeId) (fr : Nat × Nat) (l : List Value) (z : Array Value) (h : cs = l.toArray ++ z) : RdC (w.alloc (.cells cs t fr)) g l := by
  subst hg h
  refine ⟨by simp, fun j u hj => ?_⟩
  rw [World.cell?_alloc_mark]
  have hjl := (List.getElem?_eq_some_iff.1 hj).1
  rw [Array.getElem?_append_left (by simpa using hjl)]
  simpa using hj
theorem RdC.new2 (w : World) (g : Nat) (hg : g = w.heap.size) (A B z : Array Value) (t : TypeId) (fr : Nat × Nat) (l : List Value) (h : A.toList ++ B.toList = l) : RdC (w.alloc (.cells (A ++ (B ++ z)) t fr)) g l :=
  RdC.new w g hg _ t fr l z (by rw [← h]; apply Array.ext'; simp)
theorem RdC.drew {w : World} {g : Nat} {l : List Value} (h : RdC w g l) : RdC w.drew g l := h
theorem stp_drew {w w1 : World} (h : Stp w w1) : Stp w w1.drew := ⟨h.os, h.tape, h.output, h.size, h.block⟩
theorem stp_alloc {w w1 : World} (h : Stp w w1) (o : Obj) : Stp w (w1.alloc o) := Stp.alloc h o
theorem stp_grown {w w1 w2 : World} (h : Stp w w1) (hg : w1.grownBy w2 none) : Stp w w2 :=
  Stp.trans h ⟨hg.os, hg.tape, hg.output, hg.size, fun k hk => hg.block k hk (by simp)⟩

set_option maxHeartbeats 2000000 in
set_option maxRecDepth 100000 in
theorem texts_m (hb : Nat) (w : World) (h8 : w.cell? ⟨hb, 8, none⟩ = some (.int .u8 77)) :
    Calls Tryz.prog 88 #[.pointer (some ⟨hb, 0, none⟩)] w fun e w' => ∃ g cap, e = .returned (.slice (some ⟨g, 0, none⟩) 2 cap) ∧ w.heap.size ≤ g ∧ RdC w' g (rowsC hb txM) ∧ Stp w w' := by
  have hlt : hb < w.heap.size := World.block_lt_of_cell? w _ h8
  go_enter Tryz.func88, Tryz.ntmps88
  go_wp2_with fail
  go_region
  go_wp2_with fail
  go_ret
  exact ⟨_, _, rfl, Nat.le_refl _, RdC.of_blk (Blk.new w _ _), Stp.drewN (Stp.alloc (Stp.refl w) _) 1⟩

set_option maxHeartbeats 2000000 in
set_option maxRecDepth 100000 in
theorem texts_n (hb : Nat) (w : World) (c : UInt8) (hc : c ≠ 77) (h8 : w.cell? ⟨hb, 8, none⟩ = some (.int .u8 (c.toNat : Int))) :
    Calls Tryz.prog 88 #[.pointer (some ⟨hb, 0, none⟩)] w fun e w' => ∃ g cap, e = .returned (.slice (some ⟨g, 0, none⟩) 3 cap) ∧ w.heap.size ≤ g ∧ RdC w' g (rowsC hb txN) ∧ Stp w w' := by
  have hlt : hb < w.heap.size := World.block_lt_of_cell? w _ h8
  have hcc : ((c.toNat : Int) == 77) = false := by
    rw [beq_eq_false_iff_ne]
    intro h
    exact hc (UInt8.toNat_inj.1 (by show c.toNat = 77; omega))
  have Hc := Lib.hid hc
  clear hc
  have hnf : ¬ (281474976710656 < Builtin.nextslicecap 3 2 * Tryz.t134.bytes) := by decide +kernel
  go_enter Tryz.func88, Tryz.ntmps88
  go_wp2_with fail
  go_region
  go_wp2_with fail
  go_ret
  refine ⟨_, _, rfl, by omega, ?_, ?_⟩
  · repeat' refine RdC.drew ?_
    exact RdC.new2 _ _ (by simp) _ _ _ _ _ _ rfl
  · repeat' first | exact Stp.refl _ | refine stp_drew ?_ | refine stp_alloc ?_ _

set_option maxHeartbeats 2000000 in
set_option maxRecDepth 100000 in
theorem numbers_n (hb : Nat) (w : World) (c : UInt8) (hc : c ≠ 77) (h8 : w.cell? ⟨hb, 8, none⟩ = some (.int .u8 (c.toNat : Int))) :
    Calls Tryz.prog 90 #[.pointer (some ⟨hb, 0, none⟩)] w fun e w' => ∃ g cap, e = .returned (.slice (some ⟨g, 0, none⟩) 5 cap) ∧ w.heap.size ≤ g ∧ RdC w' g (rowsC hb nuN) ∧ Stp w w' := by
  have hlt : hb < w.heap.size := World.block_lt_of_cell? w _ h8
  have hcc : ((c.toNat : Int) == 77) = false := by
    rw [beq_eq_false_iff_ne]
    intro h
    exact hc (UInt8.toNat_inj.1 (by show c.toNat = 77; omega))
  have Hc := Lib.hid hc
  clear hc
  go_enter Tryz.func90, Tryz.ntmps90
  go_wp2_with fail
  go_region
  go_wp2_with fail
  go_ret
  exact ⟨_, _, rfl, Nat.le_refl _, RdC.of_blk (Blk.new w _ _), Stp.drewN (Stp.alloc (Stp.refl w) _) 1⟩

set_option maxHeartbeats 2000000 in
set_option maxRecDepth 100000 in
theorem numbers_m (hb : Nat) (w : World) (h8 : w.cell? ⟨hb, 8, none⟩ = some (.int .u8 77)) :
    Calls Tryz.prog 90 #[.pointer (some ⟨hb, 0, none⟩)] w fun e w' => ∃ g cap, e = .returned (.slice (some ⟨g, 0, none⟩) 7 cap) ∧ w.heap.size ≤ g ∧ RdC w' g (rowsC hb nuM) ∧ Stp w w' := by
  have hlt : hb < w.heap.size := World.block_lt_of_cell? w _ h8
  have hnf : ¬ (281474976710656 < Builtin.nextslicecap 7 5 * Tryz.t141.bytes) := by decide +kernel
  go_enter Tryz.func90, Tryz.ntmps90
  go_wp2_with fail
  go_region
  go_wp2_with fail
  go_region
  go_wp2_with fail
  go_ret
  refine ⟨_, _, rfl, by omega, ?_, ?_⟩
  · repeat' refine RdC.drew ?_
    exact RdC.new2 _ _ (by simp) _ _ _ _ _ _ rfl
  · repeat' first | exact Stp.refl _ | refine stp_drew ?_ | refine stp_alloc ?_ _
end Go.Proofs.YtllnnlmhbmladaaGreatDoor.Head

namespace Go.Proofs.YtllnnlmhbmladaaGreatDoor.Head
open Go.RowKit Go.Proofs.YtllnnlmhbmladaaGreatDoor.Base

section
variable {P : Program} (w : World)
theorem run_copy_rd (dT sT ty elem : TypeId) (g o n cap : Nat) (t : TypeId) (cur : Array Value) (B : Nat) (v : Value) (xs : List Value) (hu : P.underlying dT = some (.slice elem)) (hs : (P.info? elem).map (·.size) = some 1)
    (hb : Blk w g t cur) (hv : Rd w B v xs) (h1 : ∀ u ∈ xs, u.oneCell' = true) (hfit : o + xs.length ≤ cur.size) (hn : xs.length ≤ n) :
    ∃ w', (Builtin.copy_ #[dT, sT] ty #[.slice (some ⟨g, o, none⟩) n cap, v]).run P w = .ok (.int .i64 xs.length) w' ∧ Blk w' g t (cur.toList.take o ++ xs ++ cur.toList.drop (o + xs.length)).toArray ∧ w.grownBy w' (some g) := by
  obtain ⟨A, c, rfl, hc, hr⟩ := hv
  by_cases he : xs = []
  · subst he
    refine ⟨w, run_copy_none (P := P) w dT sT ty elem (some ⟨g, o, none⟩) A n cap 0 c hu hs (by simp), ?_, World.grownBy.refl w _⟩
    simpa using hb
  · obtain ⟨b, p, rfl, _, hcell⟩ := hr he
    have hrun := run_copy_row (P := P) w dT sT ty elem g o n cap ⟨b, p, none⟩ xs.length c cur t xs hu hs hb (by simp only [Nat.min_def]; split <;> omega) (fun j u hj => by rw [Addr.add_lit]; exact hcell j u hj) hfit h1
    exact ⟨_, hrun, setRow_heap w g cur _ t _ hb, ⟨rfl, rfl, rfl, by simp [World.setRow], fun k _ hk => setRow_other w g k _ (fun e => hk (by rw [e]))⟩⟩

end

theorem lay_cells (b x : List UInt8) (i : Nat) : ((bs b).toArray.toList.take i ++ bs x ++ (bs b).toArray.toList.drop (i + (bs x).length)).toArray = (bs (lay b i x)).toArray := by
  simp [lay, bs, List.map_take, List.map_drop]

theorem raw_len : Tryz.prog.arrayLen 145 = 512 := by kernel_rfl
theorem raw_arr : Tryz.prog.underlying 145 = some (.array (Tryz.prog.arrayLen 145) (Tryz.prog.elem 145)) := by kernel_rfl
theorem raw_size (w : World) : (sizeOf (Tryz.prog.elem 145)).run Tryz.prog w = .ok 1 w := by
  have h : Tryz.prog.elem 145 = 5 := by kernel_rfl
  have hi : (Tryz.prog.info? 5).map (·.size) = some 1 := by kernel_rfl
  rw [h]
  cases hq : Tryz.prog.info? 5 with
  | none => simp [hq] at hi
  | some i =>
    have : i.size = 1 := by simpa [hq] using hi
    simp [sizeOf, typeInfo, hq, this]
theorem slice_l (g k : Nat) (hk : k < 512) (w : World) : (Instr.sliceAt 145 (.pointer (some ⟨g, 0, none⟩)) (some (.int .i64 (k : Int))) none none).run Tryz.prog w = .ok (.slice (some ⟨g, k, none⟩) (512 - k) (512 - k)) w := by
  rw [run_sliceAt_array_l (P := Tryz.prog) w 145 _ raw_arr .i64 (k : Int) (by omega) (by rw [raw_len]; omega), raw_size, raw_len]
  simp only [Result.andThen_ok, slicedAt, Int.toNat_natCast, Nat.mul_one, Addr.add_lit, Nat.zero_add]
  rw [if_neg (by omega)]
theorem slice_all (g : Nat) (w : World) : (Instr.sliceAt 145 (.pointer (some ⟨g, 0, none⟩)) none none none).run Tryz.prog w = .ok (.slice (some ⟨g, 0, none⟩) 512 512) w := by
  rw [run_sliceAt_array_all (P := Tryz.prog) w 145 _ raw_arr, raw_size, raw_len]
  simp [Result.andThen_ok, slicedAt, Addr.add_lit]

set_option maxRecDepth 100000 in
/-- bytes from a place on. -/
theorem put_any (g k : Nat) (b x : List UInt8) (v : Value) (B : Nat) (w : World) (hb : Blk w g 147 (bs b).toArray) (hl : b.length = 512) (hk : k < 512) (hx : k + x.length ≤ 512) (hv : Rd w B v (bs x)) :
    Calls Tryz.prog 95 #[.pointer (some ⟨g, 0, none⟩), .int .i64 (k : Int), v] w fun e w' => e = .returned (.tuple #[]) ∧ Blk w' g 147 (bs (lay b k x)).toArray ∧ w.grownBy w' (some g) := by
  have hsl := slice_l g k hk
  obtain ⟨w', hrun, h1, h2⟩ := run_copy_rd (P := Tryz.prog) w 46 46 3 5 g k (512 - k) (512 - k) _ _ B v (bs x) Tryz.underlying46 (by kernel_rfl) hb hv (bs_one _) (by simp [bs_length]; omega) (by rw [bs_length]; omega)
  rw [lay_cells] at h1
  have H1 := Lib.hid h1
  have H2 := Lib.hid h2
  clear h1 h2 hb hv
  go_enter Tryz.func95, Tryz.ntmps95
  go_wp2_with fail
  go_end0
  exact ⟨rfl, H1.out, H2.out⟩
end Go.Proofs.YtllnnlmhbmladaaGreatDoor.Head

namespace Go.Proofs.YtllnnlmhbmladaaGreatDoor.Head
open Go.RowKit Go.Proofs.YtllnnlmhbmladaaGreatDoor.Base Go.Proofs.YtllnnlmhbmladaaGreatDoor.NumM Go.Proofs.YtllnnlmhbmladaaGreatDoor.Num

theorem rowsC_at (hb : Nat) : ∀ (l : List (Int × Int × Nat)) (k : Nat) (r : Int × Int × Nat), l[k]? = some r → (rowsC hb l)[k * 3]? = some (.int .i64 r.1) ∧ (rowsC hb l)[k * 3 + 1]? = some (.int .i64 r.2.1) ∧ (rowsC hb l)[k * 3 + 2]? = some (.pointer (some ⟨hb, r.2.2, none⟩))
  | [], k, r, h => by simp at h
  | x :: l, 0, r, h => by
    simp only [List.getElem?_cons_zero, Option.some.injEq] at h
    subst h
    simp [rowsC, rowC]
  | x :: l, k + 1, r, h => by
    simp only [List.getElem?_cons_succ] at h
    have ih := rowsC_at hb l k r h
    have e : rowsC hb (x :: l) = rowC hb x ++ rowsC hb l := by simp [rowsC]
    have hl : (rowC hb x).length = 3 := rfl
    rw [e, List.getElem?_append_right (by rw [hl]; omega), List.getElem?_append_right (by rw [hl]; omega), List.getElem?_append_right (by rw [hl]; omega), hl]
    rw [show (k + 1) * 3 - 3 = k * 3 by omega, show (k + 1) * 3 + 1 - 3 = k * 3 + 1 by omega, show (k + 1) * 3 + 2 - 3 = k * 3 + 2 by omega]
    exact ih

theorem layAll_take {b : L} {ps : List (Nat × L)} {k : Nat} {p : Nat × L} (h : ps[k]? = some p) : layAll b (ps.take (k + 1)) = lay (layAll b (ps.take k)) p.1 p.2 := by
  rw [List.take_add_one, h]
  simp [layAll, List.foldl_append]
theorem layAll_length {b : L} {ps : List (Nat × L)} (h : ∀ p ∈ ps, p.1 + p.2.length ≤ b.length) : (layAll b ps).length = b.length := by
  induction ps generalizing b with
  | nil => rfl
  | cons p ps ih =>
    have h1 := h p (by simp)
    have e : layAll b (p :: ps) = layAll (lay b p.1 p.2) ps := rfl
    rw [e, ih (fun q hq => by rw [lay_length h1]; exact h q (by simp [hq])), lay_length h1]

theorem cell_grown {w w1 : World} {a : Addr} {v : Value} (h : w.grownBy w1 none) (hc : w.cell? a = some v) : w1.cell? a = some v := by
  have hlt := World.block_lt_of_cell? w _ hc
  unfold World.cell? at hc ⊢
  rwa [h.block _ hlt (by simp)]
theorem run_bytes_rd {P : Program} (w : World) (src dst e : TypeId) (hs : P.underlying src = some .string) (hd : P.underlying dst = some (.slice e)) (he : P.underlying e = some (.int .u8)) (s : L) (hm : s.length ≤ maxLen) :
    ∃ v w', (convert src dst (.string ⟨s.toArray⟩)).run P w = .ok v w' ∧ Own w' w.heap.size e v (bs s) ∧ w.grownBy w' none :=
  ⟨_, _, run_bytes_of_string (P := P) w src dst e ⟨s.toArray⟩ hs hd he, own_bytesRow w e ⟨s.toArray⟩ (by show s.toArray.size ≤ _; rw [List.size_toArray]; exact hm), ⟨rfl, rfl, rfl, by simp, fun k hk _ => Below.heap_alloc w.drew _ k hk⟩⟩

/-- A row that leads to a text, and what is to be laid where. -/
structure EntT (w : World) (hb : Nat) (r : Int × Int × Nat) (p : Nat × L) : Prop where
  at_ : r.1 = (p.1 : Int)
  cell : w.cell? ⟨hb, r.2.2, none⟩ = some (.string ⟨p.2.toArray⟩)
  room : p.1 + p.2.length ≤ 512
  low : p.1 < 512

theorem grown_trans {w w1 w2 : World} {r : Option Nat} (h : w.grownBy w1 r) (k : w1.grownBy w2 r) : w.grownBy w2 r :=
  ⟨k.os.trans h.os, k.tape.trans h.tape, k.output.trans h.output, Nat.le_trans h.size k.size, fun j hj hn => (k.block j (Nat.lt_of_lt_of_le hj h.size) hn).trans (h.block j hj hn)⟩
theorem grown_drew {w w1 : World} {r : Option Nat} (h : w.drew.grownBy w1 r) : w.grownBy w1 r := ⟨h.os, h.tape, h.output, h.size, h.block⟩
theorem grown_none {w w1 : World} {r : Option Nat} (h : w.grownBy w1 none) : w.grownBy w1 r := ⟨h.os, h.tape, h.output, h.size, fun j hj _ => h.block j hj (by simp)⟩

set_option maxHeartbeats 3200000 in
set_option maxRecDepth 100000 in
theorem putTexts_any (hb gd g cap n : Nat) (rows : List (Int × Int × Nat)) (ps : List (Nat × L)) (b : L) (w : World) (hl : b.length = 512) (hn : ps.length = n) (hn9 : n ≤ 9)
    (hd : Blk w gd 147 (bs b).toArray) (hr : RdC w g (rowsC hb rows)) (hne : g ≠ gd) (hhb : hb < w.heap.size) (hhd : hb ≠ gd)
    (he : ∀ (k : Nat) (p : Nat × L), ps[k]? = some p → ∃ r, rows[k]? = some r ∧ EntT w hb r p) :
    Calls Tryz.prog 93 #[.pointer (some ⟨gd, 0, none⟩), .slice (some ⟨g, 0, none⟩) n cap] w fun e w' => e = .returned (.tuple #[]) ∧ Blk w' gd 147 (bs (layAll b ps)).toArray ∧ w.grownBy w' (some gd) := by
  have Hd := Lib.hid hd
  have Hr := Lib.hid hr
  have He := Lib.hid he
  clear hd hr he
  have Hlen := Lib.hid (show ∀ k, (layAll b (ps.take k)).length = 512 from fun k => by
    rw [layAll_length, hl]
    intro p hp
    obtain ⟨j, hj, rfl⟩ := List.getElem_of_mem (List.mem_of_mem_take hp)
    obtain ⟨r, _, e⟩ := He.out j _ (List.getElem?_eq_getElem hj)
    have := e.room
    omega)
  go_enter Tryz.func93, Tryz.ntmps93
  go_wp2_with fail
  go_loopw [8] (fun i wr => ∃ k : Nat, k ≤ n ∧ i = .int .i64 (k : Int) ∧ Hid (Blk wr gd 147 (bs (layAll b (ps.take k))).toArray) ∧ Hid (w.grownBy wr (some gd))) (fun i _ => n - (intOf i).toNat)
  case atStart => exact ⟨0, by omega, rfl, Hd, Lib.hid (World.grownBy.refl w _)⟩
  case round =>
    obtain ⟨k, hk, rfl, Ha, Hg⟩ := hrel
    by_cases hlt : k < n
    · obtain ⟨⟨q, s⟩, hp⟩ : ∃ p, ps[k]? = some p := ⟨_, List.getElem?_eq_getElem (by omega)⟩
      obtain ⟨⟨ra, rm, rf⟩, hrk, e1, e2, e3, e4⟩ := He.out k _ hp
      simp only at e1 e2 e3 e4
      obtain ⟨q1, q2, q3⟩ := rowsC_at hb rows k _ hrk
      have hrr : RdC wr g (rowsC hb rows) := Hr.out.grown Hg.out (by simpa using hne)
      have c1 := hrr.2 _ _ q1
      have c2 := hrr.2 _ _ q2
      have c3 := hrr.2 _ _ q3
      simp only at c1 c2 c3
      subst e1
      have hhs : hb < wr.heap.size := Nat.lt_of_lt_of_le hhb Hg.out.size
      have c4 : wr.cell? ⟨hb, rf, none⟩ = some (.string ⟨s.toArray⟩) := by
        have h2 := e2
        unfold World.cell? at h2 ⊢
        rwa [Hg.out.block hb hhb (by simpa using hhd)]
      have hlw := hrr.1
      clear q1 q2 q3 hrr
      have Hl := Lib.hid (layAll_take (b := b) hp)
      have E2 := Lib.hid e2
      have E3 := Lib.hid e3
      clear hp hrk e2 e3
      go_wp2_with fail
      generalize hwq : wr.alloc _ = wq
      have d0 : wq.cell? ⟨wr.heap.size, 0, none⟩ = some (.int .i64 (q : Int)) := by rw [← hwq, World.cell?_alloc_new]; rfl
      have d2 : wq.cell? ⟨wr.heap.size, 2, none⟩ = some (.pointer (some ⟨hb, rf, none⟩)) := by rw [← hwq, World.cell?_alloc_new]; rfl
      have d4 : wq.cell? ⟨hb, rf, none⟩ = some (.string ⟨s.toArray⟩) := by rw [← hwq, World.cell?_alloc_old]; exact c4; exact Nat.ne_of_lt hhs
      have Hb := Lib.hid (show Blk wq gd 147 (bs (layAll b (ps.take k))).toArray by rw [← hwq]; exact Ha.out.alloc _)
      have Hg2 := Lib.hid (show wr.grownBy wq none by rw [← hwq]; exact World.grownBy_alloc wr _ none)
      clear hwq c1 c2 c3 c4 Ha
      obtain ⟨v2, w2, hcv, hv2, hg2⟩ := run_bytes_rd (P := Tryz.prog) wq.drew 9 46 5 Tryz.underlying9 Tryz.underlying46 Tryz.underlying5 s (by have := E3.out; unfold maxLen; omega)
      have f0 : w2.cell? ⟨wr.heap.size, 0, none⟩ = some (.int .i64 (q : Int)) := cell_grown hg2 d0
      have f2 : w2.cell? ⟨wr.heap.size, 2, none⟩ = some (.pointer (some ⟨hb, rf, none⟩)) := cell_grown hg2 d2
      have Hv := Lib.hid hv2
      have Hb2 := Lib.hid (Hb.out.drew.grown hg2 (by simp))
      have Hg3 := Lib.hid (grown_trans Hg.out (grown_trans (grown_none Hg2.out) (grown_none (grown_drew hg2))))
      clear hv2 hg2 Hb Hg2
      go_region_with (go_at_call 95; refine (put_any gd q (layAll b (ps.take k)) s _ _ _ Hb2.out (Hlen.out k) (by omega) E3.out Hv.out.rd).mono ?_; rintro e w3 ⟨rfl, h3, h4⟩; rw [← Hl.out] at h3; have H3 := Lib.hid h3; have H4 := Lib.hid (grown_trans Hg3.out h4); clear h3 h4)
      all_goals go_wp2_with fail
      all_goals exact ⟨⟨k + 1, by omega, by go_num, H3, H4⟩, by simp [intOf]; omega⟩
    · have hkn : k = n := by omega
      go_wp2_with fail
      go_end0
      subst hkn
      have h := Ha.out
      rw [← hn, List.take_length] at h
      exact ⟨rfl, h, Hg.out⟩
/-- A row that leads to a number, and what is to be laid where. -/
structure EntN (w : World) (hb : Nat) (r : Int × Int × Nat) (p : Nat × L) (x : Int) (wd : Nat) : Prop where
  at_ : r.1 = (p.1 : Int)
  wide : r.2.1 = (wd : Int)
  cell : w.cell? ⟨hb, r.2.2, none⟩ = some (.int .i64 x)
  room : p.1 + p.2.length ≤ 512
  low : p.1 < 512
  is : p.2 = putV x wd
  small : x < 9223372036854775808

set_option maxHeartbeats 3200000 in
set_option maxRecDepth 100000 in
theorem putNumbers_any (hb gd g cap n : Nat) (rows : List (Int × Int × Nat)) (ps : List (Nat × L)) (b : L) (w : World) (hl : b.length = 512) (hn : ps.length = n) (hn9 : n ≤ 9)
    (hd : Blk w gd 147 (bs b).toArray) (hr : RdC w g (rowsC hb rows)) (hne : g ≠ gd) (hhb : hb < w.heap.size) (hhd : hb ≠ gd)
    (he : ∀ (k : Nat) (p : Nat × L), ps[k]? = some p → ∃ r, rows[k]? = some r ∧ ∃ (x : Int) (wd : Nat), EntN w hb r p x wd) :
    Calls Tryz.prog 94 #[.pointer (some ⟨gd, 0, none⟩), .slice (some ⟨g, 0, none⟩) n cap] w fun e w' => e = .returned (.tuple #[]) ∧ Blk w' gd 147 (bs (layAll b ps)).toArray ∧ w.grownBy w' (some gd) := by
  have Hd := Lib.hid hd
  have Hr := Lib.hid hr
  have He := Lib.hid he
  clear hd hr he
  have Hlen := Lib.hid (show ∀ k, (layAll b (ps.take k)).length = 512 from fun k => by
    rw [layAll_length, hl]
    intro p hp
    obtain ⟨j, hj, rfl⟩ := List.getElem_of_mem (List.mem_of_mem_take hp)
    obtain ⟨r, _, x, wd, e⟩ := He.out j _ (List.getElem?_eq_getElem hj)
    have := e.room
    omega)
  go_enter Tryz.func94, Tryz.ntmps94
  go_wp2_with fail
  go_loopw [10] (fun i wr => ∃ k : Nat, k ≤ n ∧ i = .int .i64 (k : Int) ∧ Hid (Blk wr gd 147 (bs (layAll b (ps.take k))).toArray) ∧ Hid (w.grownBy wr (some gd))) (fun i _ => n - (intOf i).toNat)
  case atStart => exact ⟨0, by omega, rfl, Hd, Lib.hid (World.grownBy.refl w _)⟩
  case round =>
    obtain ⟨k, hk, rfl, Ha, Hg⟩ := hrel
    by_cases hlt : k < n
    · obtain ⟨⟨q, s⟩, hp⟩ : ∃ p, ps[k]? = some p := ⟨_, List.getElem?_eq_getElem (by omega)⟩
      obtain ⟨⟨ra, rm, rf⟩, hrk, x, wd, e1, e0, e2, e3, e4, e5, e6⟩ := He.out k _ hp
      simp only at e1 e0 e2 e3 e4 e5 e6
      obtain ⟨q1, q2, q3⟩ := rowsC_at hb rows k _ hrk
      have hrr : RdC wr g (rowsC hb rows) := Hr.out.grown Hg.out (by simpa using hne)
      have c1 := hrr.2 _ _ q1
      have c2 := hrr.2 _ _ q2
      have c3 := hrr.2 _ _ q3
      simp only at c1 c2 c3
      subst e1 e0
      have hhs : hb < wr.heap.size := Nat.lt_of_lt_of_le hhb Hg.out.size
      have c4 : wr.cell? ⟨hb, rf, none⟩ = some (.int .i64 x) := by
        have h2 := e2
        unfold World.cell? at h2 ⊢
        rwa [Hg.out.block hb hhb (by simpa using hhd)]
      have hlw := hrr.1
      clear q1 q2 q3 hrr
      have Hl := Lib.hid (layAll_take (b := b) hp)
      have E2 := Lib.hid e2
      have E3 := Lib.hid e3
      have E5 := Lib.hid e5
      have E6 := Lib.hid e6
      clear hp hrk e2 e3 e5 e6
      go_wp2_with fail
      generalize hwq : wr.alloc _ = wq
      have d0 : wq.cell? ⟨wr.heap.size, 0, none⟩ = some (.int .i64 (q : Int)) := by rw [← hwq, World.cell?_alloc_new]; rfl
      have d1 : wq.cell? ⟨wr.heap.size, 1, none⟩ = some (.int .i64 (wd : Int)) := by rw [← hwq, World.cell?_alloc_new]; rfl
      have d2 : wq.cell? ⟨wr.heap.size, 2, none⟩ = some (.pointer (some ⟨hb, rf, none⟩)) := by rw [← hwq, World.cell?_alloc_new]; rfl
      have d4 : wq.cell? ⟨hb, rf, none⟩ = some (.int .i64 x) := by rw [← hwq, World.cell?_alloc_old]; exact c4; exact Nat.ne_of_lt hhs
      have Hb := Lib.hid (show Blk wq gd 147 (bs (layAll b (ps.take k))).toArray by rw [← hwq]; exact Ha.out.alloc _)
      have Hg2 := Lib.hid (show wr.grownBy wq none by rw [← hwq]; exact World.grownBy_alloc wr _ none)
      clear hwq c1 c2 c3 c4 Ha
      go_region_with (go_at_call 117; refine (put_all x (wd : Int) _ E6.out).mono ?_; rintro e w3 ⟨v, rfl, h3, h4⟩; have H3 := Lib.hid h3; have Hb3 := Lib.hid (Hb.out.drew.keep h4 Hb.out.lt); have Hg3 := Lib.hid (grown_trans Hg.out (grown_trans (grown_none Hg2.out) (grown_none (grown_drew ⟨h4.os, h4.tape, h4.output, h4.size, fun k hk _ => h4.block k hk⟩)))); have f0 := (h4.cell (p := ⟨wr.heap.size, 0, none⟩) (World.block_lt_of_cell? _ _ d0)).trans d0; clear h3 h4 d0 d1 d2 d4; generalize putOk x (wd : Int) = ok; obtain ⟨A, cap3, rfl⟩ : ∃ A cap, v = .slice A (bs (putV x wd)).length cap := by { obtain ⟨A, c, rfl, _⟩ := H3.out.rd; exact ⟨A, c, rfl⟩ })
      all_goals go_wp2_with fail
      all_goals (go_still_tail 6, (by kernel_rfl))
      all_goals change wpList _ _ _ _ _ w3.drew
      all_goals go_wp2_with (go_at_call 95; refine (put_any gd q (layAll b (ps.take k)) (putV x (wd : Int)) _ _ _ Hb3.out.drew (Hlen.out k) (by omega) (by rw [← E5.out]; exact E3.out) (show Rd w3.drew _ _ _ from H3.out.rd)).mono ?_; rintro e w4 ⟨rfl, h5, h6⟩; rw [← E5.out, ← Hl.out] at h5; have H5 := Lib.hid h5; have H6 := Lib.hid (grown_trans Hg3.out (grown_drew h6)); clear h5 h6)
      all_goals exact ⟨⟨k + 1, by omega, by go_num, H5, H6⟩, by simp [intOf]; omega⟩
    · have hkn : k = n := by omega
      go_wp2_with fail
      go_end0
      subst hkn
      have h := Ha.out
      rw [← hn, List.take_length] at h
      exact ⟨rfl, h, Hg.out⟩
end Go.Proofs.YtllnnlmhbmladaaGreatDoor.Head

