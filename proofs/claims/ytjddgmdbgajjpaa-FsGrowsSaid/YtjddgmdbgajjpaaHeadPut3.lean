/-
  Contracts: a block's sum, and how it is written, of package head and of the document's answers: no statement is proved here.
  The contract of package head's Put: no statement is proved here.
-/
import Derived.Test.YtjddgmdbgajjpaaHeadMay
import Derived.Lib.SlBytesConst
namespace Go.Proofs.Ytjddgmdbgajjpaa.Head
open Go.RowKit Go.Proofs.Ytjddgmdbgajjpaa.Base Go.Proofs.Ytjddgmdbgajjpaa.NumM Go.Proofs.Ytjddgmdbgajjpaa.Num

/-- The sum of the first k bytes. -/
def sumTo (b : L) (k : Nat) : Nat := 256 + tot ((b.take k).take 148) + tot ((b.take k).drop 156)
theorem sumTo_all (b : L) (h : b.length = 512) : sumTo b 512 = sumN b := by unfold sumTo sumN; rw [List.take_of_length_le (Nat.le_of_eq h)]
theorem sumTo_zero (b : L) : sumTo b 0 = 256 := by simp [sumTo, tot]
theorem sumTo_step {b : L} {k : Nat} {x : UInt8} (hx : b[k]? = some x) : sumTo b (k + 1) = sumTo b k + if k < 148 ∨ 156 ≤ k then x.toNat else 0 := by
  have hk := (List.getElem?_eq_some_iff.1 hx).1
  have hl : (b.take k).length = k := by rw [List.length_take]; omega
  have e : b.take (k + 1) = b.take k ++ [x] := by rw [List.take_add_one, hx]; rfl
  unfold sumTo
  rw [e]
  by_cases h1 : k < 148
  · have a1 : (b.take k ++ [x]).take 148 = b.take k ++ [x] := List.take_of_length_le (by rw [List.length_append, hl]; simp; omega)
    have a2 : (b.take k).take 148 = b.take k := List.take_of_length_le (by omega)
    have a3 : (b.take k ++ [x]).drop 156 = [] := List.drop_eq_nil_of_le (by rw [List.length_append, hl]; simp; omega)
    have a4 : (b.take k).drop 156 = [] := List.drop_eq_nil_of_le (by omega)
    rw [a1, a2, a3, a4, tot_append, if_pos (by omega)]
    simp [tot]
    omega
  · rw [List.take_append_of_le_length (by omega)]
    by_cases h2 : k < 156
    · have a3 : (b.take k ++ [x]).drop 156 = [] := List.drop_eq_nil_of_le (by rw [List.length_append, hl]; simp; omega)
      have a4 : (b.take k).drop 156 = [] := List.drop_eq_nil_of_le (by omega)
      rw [a3, a4, if_neg (by omega), Nat.add_zero]
    · rw [List.drop_append_of_le_length (by omega), tot_append, if_pos (by omega)]
      simp [tot]
      omega
theorem sumTo_le {b : L} {k : Nat} (h : k ≤ 512) : sumTo b k ≤ 262144 := by
  have h1 := tot_le ((b.take k).take 148)
  have h2 := tot_le ((b.take k).drop 156)
  simp only [List.length_take, List.length_drop] at h1 h2
  unfold sumTo
  omega
theorem sumI_no {b : L} (h : b.length ≠ 512) : sumI b = -1 := if_neg h
theorem sumI_yes {b : L} (h : b.length = 512) : sumI b = (sumN b : Int) := if_pos h

/-- How much of the sum's own places is summed up at k. -/
def own (k : Nat) : Nat := if k < 148 then 256 else if k < 156 then 32 * (156 - k) else 0
def SumRel (l : L) (w : World) (s i : Value) (wr : World) : Prop := ∃ (k z : Nat), k ≤ l.length ∧ i = .int .i64 (k : Int) ∧ s = .int .i64 (z : Int) ∧ z ≤ 262144 ∧ Stp w wr ∧ Hid (z = sumTo l k)
def RSumRel (l : L) (w : World) (s i : Value) (wr : World) : Prop := ∃ (k z : Nat), k ≤ 512 ∧ i = .int .i64 (k : Int) ∧ s = .int .i64 (z : Int) ∧ z ≤ 262144 ∧ Stp w wr ∧ Hid (z + own k = sumTo l k)

theorem octV_sum {b : L} (h : b.length = 512) : octV (sumI b) 6 = ⟨(octs 6 (sumN b)).toArray⟩ := by
  have hle := sumN_le h
  rw [sumI_yes h]
  unfold octV
  rw [if_pos (octOk_iff.2 ⟨by omega, by omega, by omega, by show (sumN b : Int).toNat < 8 ^ 6; omega⟩)]
  rfl

end Go.Proofs.Ytjddgmdbgajjpaa.Head

namespace Go.Proofs.Ytjddgmdbgajjpaa.Head
open Go.RowKit Go.Proofs.Ytjddgmdbgajjpaa.Base Go.Proofs.Ytjddgmdbgajjpaa.NumM Go.Proofs.Ytjddgmdbgajjpaa.Num

theorem may_parts {h : Hd} (hm : mayH h = true) : h.name ≠ [] ∧ typs.contains h.ty = true ∧ elseZ h = true ∧ ((txo h).all fun p => okT p.1 p.2) = true ∧ ((nuo h).all fun p => putOk p.1 p.2) = true := by
  unfold mayH at hm
  rw [txtsOk_is, numsOk_is] at hm
  simp only [Bool.and_eq_true] at hm
  obtain ⟨⟨⟨⟨h1, h2⟩, h3⟩, h4⟩, h5⟩ := hm
  exact ⟨by rintro e; rw [e] at h1; simp at h1, h2, h3, h4, h5⟩
theorem okT_le {s : L} {m : Nat} (h : okT s m = true) : s.length ≤ m := by unfold okT at h; simp at h; exact h.1
theorem stp_at {w w1 w2 : World} {g : Nat} (h : Stp w w1) (hg : w1.grownBy w2 (some g)) (hl : w.heap.size ≤ g) : Stp w w2 :=
  ⟨hg.os.trans h.os, hg.tape.trans h.tape, hg.output.trans h.output, Nat.le_trans h.size hg.size, fun k hk => (hg.block k (Nat.lt_of_lt_of_le hk h.size) (by simp; omega)).trans (h.block k hk)⟩
theorem layAll_append (b : L) (l m : List (Nat × L)) : layAll b (l ++ m) = layAll (layAll b l) m := by simp [layAll, List.foldl_append]
theorem ps_room {h : Hd} (hm : mayH h = true) : (∀ p ∈ txts h, p.1 + p.2.length ≤ 512) := by
  intro p hp
  obtain ⟨k, hk, rfl⟩ := List.getElem_of_mem hp
  have hk2 : k < (txR h).length := by rw [txts_length]; exact hk
  obtain ⟨q, mo, f, s, e1, e2, e3, e4, e5, e6⟩ := txR_at h k hk2
  rw [List.getElem?_eq_getElem hk] at e3
  injection e3 with e3
  rw [e3]
  have ho := (List.all_eq_true.1 (may_parts hm).2.2.2.1) _ (List.mem_of_getElem? e2)
  have := okT_le ho
  simp only at this ⊢
  omega
theorem nu_room {h : Hd} (hm : mayH h = true) (hs : SmallH h) : (∀ p ∈ numsL h, p.1 + p.2.length ≤ 512) := by
  intro p hp
  obtain ⟨k, hk, rfl⟩ := List.getElem_of_mem hp
  have hk2 : k < (nuR h).length := by rw [numsL_length]; exact hk
  obtain ⟨q, wd, f, x, e1, e2, e3, e4, e5, e6, e7⟩ := nuR_at h hs k hk2
  rw [List.getElem?_eq_getElem hk] at e3
  injection e3 with e3
  rw [e3]
  have ho := (List.all_eq_true.1 (may_parts hm).2.2.2.2) _ (List.mem_of_getElem? e2)
  have := putV_length ho
  simp only at this ⊢
  omega
theorem zeros_length (n : Nat) : (zeros n).length = n := by simp [zeros]
/-- What Put hands back. -/
def putB (h : Hd) : L := if mayH h = true then blk h else []

theorem rdA_blk {w : World} {g : Nat} {t : TypeId} {b : L} {n : Nat} (h : Blk w g t (bs b).toArray) (hl : b.length = n) : RdA w (some ⟨g, 0, none⟩) n (bs b) :=
  ⟨_, n, rfl, by rw [bs_length, hl]; exact Nat.le_refl _, fun _ => ⟨g, 0, rfl, h.lt, fun j u hj => by rw [Nat.zero_add, h.cell]; simpa using hj⟩⟩
theorem rd_blk {w : World} {g : Nat} {t : TypeId} {b : L} {n : Nat} (h : Blk w g t (bs b).toArray) (hl : b.length = n) : Rd w w.heap.size (.slice (some ⟨g, 0, none⟩) n n) (bs b) := by
  have := rdA_blk h hl
  unfold RdA at this
  rwa [bs_length, hl] at this

def magicC : Array Value := #[.int .u8 117, .int .u8 115, .int .u8 116, .int .u8 97, .int .u8 114, .int .u8 0, .int .u8 48, .int .u8 48]
theorem rd_magic (w : World) : Rd (w.alloc (.cells magicC 5 (8, 9))) (w.heap.size + 1) (.slice (some ⟨w.heap.size, 0, none⟩) 8 8) (bs magic) := by
  refine ⟨_, 8, rfl, by decide, fun _ => ⟨w.heap.size, 0, rfl, by omega, fun j u hj => ?_⟩⟩
  rw [Nat.zero_add, World.cell?_alloc_mark]
  rw [show magicC = (bs magic).toArray from rfl]
  simpa using hj

end Go.Proofs.Ytjddgmdbgajjpaa.Head

