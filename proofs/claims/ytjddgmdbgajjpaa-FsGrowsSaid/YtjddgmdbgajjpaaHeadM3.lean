/-
  A header's block by its parts, and what follows of it: no Go, and no statement, is proved here.
  What a header's block tells of it, and what a spoilt one tells: no Go, and no statement, is proved here.
-/
import Derived.Test.YtjddgmdbgajjpaaHeadGet
namespace Go.Proofs.Ytjddgmdbgajjpaa.Head
open Go.RowKit Go.Proofs.Ytjddgmdbgajjpaa.Base Go.Proofs.Ytjddgmdbgajjpaa.NumM Go.Proofs.Ytjddgmdbgajjpaa.Num

theorem lay_flat (l1 : List L) (l2 : List L) (n i : Nat) (x : L) (hi : l1.flatten.length = i) (hx : x.length ≤ n) : lay (l1 ++ zeros n :: l2).flatten i x = (l1 ++ pad n x :: l2).flatten := by
  have h := lay_seg l1.flatten (zeros n) l2.flatten x i hi (by rw [zeros_length]; exact hx)
  have e : x ++ (zeros n).drop x.length = pad n x := by
    unfold pad zeros
    rw [List.drop_replicate]
  rw [e] at h
  rw [List.flatten_append, List.flatten_cons, ← List.append_assoc, h, List.flatten_append, List.flatten_cons, ← List.append_assoc]
theorem sub_flat (l1 : List L) (B : L) (l2 : List L) (i n : Nat) (hi : l1.flatten.length = i) (hn : n ≤ B.length) : sub (l1 ++ B :: l2).flatten i n = B.take n := by
  subst hi
  unfold sub
  rw [List.flatten_append, List.drop_left, List.flatten_cons, List.take_append_of_le_length hn]
theorem pad_full {n : Nat} {x : L} (h : x.length = n) : pad n x = x := by
  unfold pad zeros
  rw [h, Nat.sub_self]
  simp
theorem pad_take {n : Nat} {x : L} : (pad n x).take x.length = x := by
  unfold pad
  rw [List.take_left]
theorem take_all {n : Nat} {x : L} (h : x.length = n) : x.take n = x := by rw [← h, List.take_length]

set_option linter.unusedSimpArgs false in
theorem flat_n (name link pre m u g s t : L) (ty : UInt8) (hn : name.length ≤ 100) (hk : link.length ≤ 100) (hm : m.length ≤ 8) (hu : u.length ≤ 8) (hg : g.length ≤ 8) (hs : s.length ≤ 12) (ht : t.length ≤ 12) (hp : pre.length ≤ 155) :
    layAll (zeros 512) [(0, name), (157, link), (345, pre), (100, m), (108, u), (116, g), (124, s), (136, t), (156, [ty]), (257, magic)] = [pad 100 name, pad 8 m, pad 8 u, pad 8 g, pad 12 s, pad 12 t, zeros 8, pad 1 [ty], pad 100 link, pad 8 magic, zeros 80, pad 155 pre, zeros 12].flatten := by
  have e0 : zeros 512 = [zeros 100, zeros 8, zeros 8, zeros 8, zeros 12, zeros 12, zeros 8, zeros 1, zeros 100, zeros 8, zeros 80, zeros 155, zeros 12].flatten := by decide +kernel
  rw [e0]
  clear e0
  have ht1 : ([ty] : L).length ≤ 1 := by simp
  have hmg : magic.length ≤ 8 := by decide
  have e1 := lay_flat [] [zeros 8, zeros 8, zeros 8, zeros 12, zeros 12, zeros 8, zeros 1, zeros 100, zeros 8, zeros 80, zeros 155, zeros 12] 100 0 name (by simp only [List.flatten_cons, List.flatten_nil, List.length_append, List.length_nil, zeros_length, pad_length, *]) (by first | assumption | decide | omega)
  have e2 := lay_flat [pad 100 name, zeros 8, zeros 8, zeros 8, zeros 12, zeros 12, zeros 8, zeros 1] [zeros 8, zeros 80, zeros 155, zeros 12] 100 157 link (by simp only [List.flatten_cons, List.flatten_nil, List.length_append, List.length_nil, zeros_length, pad_length, *]) (by first | assumption | decide | omega)
  have e3 := lay_flat [pad 100 name, zeros 8, zeros 8, zeros 8, zeros 12, zeros 12, zeros 8, zeros 1, pad 100 link, zeros 8, zeros 80] [zeros 12] 155 345 pre (by simp only [List.flatten_cons, List.flatten_nil, List.length_append, List.length_nil, zeros_length, pad_length, *]) (by first | assumption | decide | omega)
  have e4 := lay_flat [pad 100 name] [zeros 8, zeros 8, zeros 12, zeros 12, zeros 8, zeros 1, pad 100 link, zeros 8, zeros 80, pad 155 pre, zeros 12] 8 100 m (by simp only [List.flatten_cons, List.flatten_nil, List.length_append, List.length_nil, zeros_length, pad_length, *]) (by first | assumption | decide | omega)
  have e5 := lay_flat [pad 100 name, pad 8 m] [zeros 8, zeros 12, zeros 12, zeros 8, zeros 1, pad 100 link, zeros 8, zeros 80, pad 155 pre, zeros 12] 8 108 u (by simp only [List.flatten_cons, List.flatten_nil, List.length_append, List.length_nil, zeros_length, pad_length, *]) (by first | assumption | decide | omega)
  have e6 := lay_flat [pad 100 name, pad 8 m, pad 8 u] [zeros 12, zeros 12, zeros 8, zeros 1, pad 100 link, zeros 8, zeros 80, pad 155 pre, zeros 12] 8 116 g (by simp only [List.flatten_cons, List.flatten_nil, List.length_append, List.length_nil, zeros_length, pad_length, *]) (by first | assumption | decide | omega)
  have e7 := lay_flat [pad 100 name, pad 8 m, pad 8 u, pad 8 g] [zeros 12, zeros 8, zeros 1, pad 100 link, zeros 8, zeros 80, pad 155 pre, zeros 12] 12 124 s (by simp only [List.flatten_cons, List.flatten_nil, List.length_append, List.length_nil, zeros_length, pad_length, *]) (by first | assumption | decide | omega)
  have e8 := lay_flat [pad 100 name, pad 8 m, pad 8 u, pad 8 g, pad 12 s] [zeros 8, zeros 1, pad 100 link, zeros 8, zeros 80, pad 155 pre, zeros 12] 12 136 t (by simp only [List.flatten_cons, List.flatten_nil, List.length_append, List.length_nil, zeros_length, pad_length, *]) (by first | assumption | decide | omega)
  have e9 := lay_flat [pad 100 name, pad 8 m, pad 8 u, pad 8 g, pad 12 s, pad 12 t, zeros 8] [pad 100 link, zeros 8, zeros 80, pad 155 pre, zeros 12] 1 156 [ty] (by simp only [List.flatten_cons, List.flatten_nil, List.length_append, List.length_nil, zeros_length, pad_length, *]) (by first | assumption | decide | omega)
  have e10 := lay_flat [pad 100 name, pad 8 m, pad 8 u, pad 8 g, pad 12 s, pad 12 t, zeros 8, pad 1 [ty], pad 100 link] [zeros 80, pad 155 pre, zeros 12] 8 257 magic (by simp only [List.flatten_cons, List.flatten_nil, List.length_append, List.length_nil, zeros_length, pad_length, *]) (by first | assumption | decide | omega)
  simp only [List.cons_append, List.nil_append] at e1 e2 e3 e4 e5 e6 e7 e8 e9 e10
  simp only [layAll, List.foldl_cons, List.foldl_nil]
  rw [e1, e2, e3, e4, e5, e6, e7, e8, e9, e10]

set_option linter.unusedSimpArgs false in
theorem flat_m (name link off real m u g s t : L) (ty : UInt8) (hn : name.length ≤ 100) (hk : link.length ≤ 100) (hm : m.length ≤ 8) (hu : u.length ≤ 8) (hg : g.length ≤ 8) (hs : s.length ≤ 12) (ht : t.length ≤ 12) (ho : off.length ≤ 12) (hr : real.length ≤ 12) :
    layAll (zeros 512) [(0, name), (157, link), (100, m), (108, u), (116, g), (124, s), (136, t), (369, off), (483, real), (156, [ty]), (257, magic)] = [pad 100 name, pad 8 m, pad 8 u, pad 8 g, pad 12 s, pad 12 t, zeros 8, pad 1 [ty], pad 100 link, pad 8 magic, zeros 104, pad 12 off, zeros 102, pad 12 real, zeros 17].flatten := by
  have e0 : zeros 512 = [zeros 100, zeros 8, zeros 8, zeros 8, zeros 12, zeros 12, zeros 8, zeros 1, zeros 100, zeros 8, zeros 104, zeros 12, zeros 102, zeros 12, zeros 17].flatten := by decide +kernel
  rw [e0]
  clear e0
  have ht1 : ([ty] : L).length ≤ 1 := by simp
  have hmg : magic.length ≤ 8 := by decide
  have e1 := lay_flat [] [zeros 8, zeros 8, zeros 8, zeros 12, zeros 12, zeros 8, zeros 1, zeros 100, zeros 8, zeros 104, zeros 12, zeros 102, zeros 12, zeros 17] 100 0 name (by simp only [List.flatten_cons, List.flatten_nil, List.length_append, List.length_nil, zeros_length, pad_length, *]) (by first | assumption | decide | omega)
  have e2 := lay_flat [pad 100 name, zeros 8, zeros 8, zeros 8, zeros 12, zeros 12, zeros 8, zeros 1] [zeros 8, zeros 104, zeros 12, zeros 102, zeros 12, zeros 17] 100 157 link (by simp only [List.flatten_cons, List.flatten_nil, List.length_append, List.length_nil, zeros_length, pad_length, *]) (by first | assumption | decide | omega)
  have e3 := lay_flat [pad 100 name] [zeros 8, zeros 8, zeros 12, zeros 12, zeros 8, zeros 1, pad 100 link, zeros 8, zeros 104, zeros 12, zeros 102, zeros 12, zeros 17] 8 100 m (by simp only [List.flatten_cons, List.flatten_nil, List.length_append, List.length_nil, zeros_length, pad_length, *]) (by first | assumption | decide | omega)
  have e4 := lay_flat [pad 100 name, pad 8 m] [zeros 8, zeros 12, zeros 12, zeros 8, zeros 1, pad 100 link, zeros 8, zeros 104, zeros 12, zeros 102, zeros 12, zeros 17] 8 108 u (by simp only [List.flatten_cons, List.flatten_nil, List.length_append, List.length_nil, zeros_length, pad_length, *]) (by first | assumption | decide | omega)
  have e5 := lay_flat [pad 100 name, pad 8 m, pad 8 u] [zeros 12, zeros 12, zeros 8, zeros 1, pad 100 link, zeros 8, zeros 104, zeros 12, zeros 102, zeros 12, zeros 17] 8 116 g (by simp only [List.flatten_cons, List.flatten_nil, List.length_append, List.length_nil, zeros_length, pad_length, *]) (by first | assumption | decide | omega)
  have e6 := lay_flat [pad 100 name, pad 8 m, pad 8 u, pad 8 g] [zeros 12, zeros 8, zeros 1, pad 100 link, zeros 8, zeros 104, zeros 12, zeros 102, zeros 12, zeros 17] 12 124 s (by simp only [List.flatten_cons, List.flatten_nil, List.length_append, List.length_nil, zeros_length, pad_length, *]) (by first | assumption | decide | omega)
  have e7 := lay_flat [pad 100 name, pad 8 m, pad 8 u, pad 8 g, pad 12 s] [zeros 8, zeros 1, pad 100 link, zeros 8, zeros 104, zeros 12, zeros 102, zeros 12, zeros 17] 12 136 t (by simp only [List.flatten_cons, List.flatten_nil, List.length_append, List.length_nil, zeros_length, pad_length, *]) (by first | assumption | decide | omega)
  have e8 := lay_flat [pad 100 name, pad 8 m, pad 8 u, pad 8 g, pad 12 s, pad 12 t, zeros 8, zeros 1, pad 100 link, zeros 8, zeros 104] [zeros 102, zeros 12, zeros 17] 12 369 off (by simp only [List.flatten_cons, List.flatten_nil, List.length_append, List.length_nil, zeros_length, pad_length, *]) (by first | assumption | decide | omega)
  have e9 := lay_flat [pad 100 name, pad 8 m, pad 8 u, pad 8 g, pad 12 s, pad 12 t, zeros 8, zeros 1, pad 100 link, zeros 8, zeros 104, pad 12 off, zeros 102] [zeros 17] 12 483 real (by simp only [List.flatten_cons, List.flatten_nil, List.length_append, List.length_nil, zeros_length, pad_length, *]) (by first | assumption | decide | omega)
  have e10 := lay_flat [pad 100 name, pad 8 m, pad 8 u, pad 8 g, pad 12 s, pad 12 t, zeros 8] [pad 100 link, zeros 8, zeros 104, pad 12 off, zeros 102, pad 12 real, zeros 17] 1 156 [ty] (by simp only [List.flatten_cons, List.flatten_nil, List.length_append, List.length_nil, zeros_length, pad_length, *]) (by first | assumption | decide | omega)
  have e11 := lay_flat [pad 100 name, pad 8 m, pad 8 u, pad 8 g, pad 12 s, pad 12 t, zeros 8, pad 1 [ty], pad 100 link] [zeros 104, pad 12 off, zeros 102, pad 12 real, zeros 17] 8 257 magic (by simp only [List.flatten_cons, List.flatten_nil, List.length_append, List.length_nil, zeros_length, pad_length, *]) (by first | assumption | decide | omega)
  simp only [List.cons_append, List.nil_append] at e1 e2 e3 e4 e5 e6 e7 e8 e9 e10 e11
  simp only [layAll, List.foldl_cons, List.foldl_nil]
  rw [e1, e2, e3, e4, e5, e6, e7, e8, e9, e10, e11]

set_option linter.unusedSimpArgs false in
theorem rflat_n (name link pre m u g s t : L) (ty : UInt8) (hn : name.length ≤ 100) (hk : link.length ≤ 100) (hm : m.length ≤ 8) (hu : u.length ≤ 8) (hg : g.length ≤ 8) (hs : s.length ≤ 12) (ht : t.length ≤ 12) (hp : pre.length ≤ 155) :
    layAll (zeros 512) [(0, name), (100, m), (108, u), (116, g), (124, s), (136, t), (156, [ty]), (157, link), (257, magic), (345, pre)] = [pad 100 name, pad 8 m, pad 8 u, pad 8 g, pad 12 s, pad 12 t, zeros 8, pad 1 [ty], pad 100 link, pad 8 magic, zeros 80, pad 155 pre, zeros 12].flatten := by
  have e0 : zeros 512 = [zeros 100, zeros 8, zeros 8, zeros 8, zeros 12, zeros 12, zeros 8, zeros 1, zeros 100, zeros 8, zeros 80, zeros 155, zeros 12].flatten := by decide +kernel
  rw [e0]
  clear e0
  have ht1 : ([ty] : L).length ≤ 1 := by simp
  have hmg : magic.length ≤ 8 := by decide
  have e1 := lay_flat [] [zeros 8, zeros 8, zeros 8, zeros 12, zeros 12, zeros 8, zeros 1, zeros 100, zeros 8, zeros 80, zeros 155, zeros 12] 100 0 name (by simp only [List.flatten_cons, List.flatten_nil, List.length_append, List.length_nil, zeros_length, pad_length, *]) (by first | assumption | decide | omega)
  have e2 := lay_flat [pad 100 name] [zeros 8, zeros 8, zeros 12, zeros 12, zeros 8, zeros 1, zeros 100, zeros 8, zeros 80, zeros 155, zeros 12] 8 100 m (by simp only [List.flatten_cons, List.flatten_nil, List.length_append, List.length_nil, zeros_length, pad_length, *]) (by first | assumption | decide | omega)
  have e3 := lay_flat [pad 100 name, pad 8 m] [zeros 8, zeros 12, zeros 12, zeros 8, zeros 1, zeros 100, zeros 8, zeros 80, zeros 155, zeros 12] 8 108 u (by simp only [List.flatten_cons, List.flatten_nil, List.length_append, List.length_nil, zeros_length, pad_length, *]) (by first | assumption | decide | omega)
  have e4 := lay_flat [pad 100 name, pad 8 m, pad 8 u] [zeros 12, zeros 12, zeros 8, zeros 1, zeros 100, zeros 8, zeros 80, zeros 155, zeros 12] 8 116 g (by simp only [List.flatten_cons, List.flatten_nil, List.length_append, List.length_nil, zeros_length, pad_length, *]) (by first | assumption | decide | omega)
  have e5 := lay_flat [pad 100 name, pad 8 m, pad 8 u, pad 8 g] [zeros 12, zeros 8, zeros 1, zeros 100, zeros 8, zeros 80, zeros 155, zeros 12] 12 124 s (by simp only [List.flatten_cons, List.flatten_nil, List.length_append, List.length_nil, zeros_length, pad_length, *]) (by first | assumption | decide | omega)
  have e6 := lay_flat [pad 100 name, pad 8 m, pad 8 u, pad 8 g, pad 12 s] [zeros 8, zeros 1, zeros 100, zeros 8, zeros 80, zeros 155, zeros 12] 12 136 t (by simp only [List.flatten_cons, List.flatten_nil, List.length_append, List.length_nil, zeros_length, pad_length, *]) (by first | assumption | decide | omega)
  have e7 := lay_flat [pad 100 name, pad 8 m, pad 8 u, pad 8 g, pad 12 s, pad 12 t, zeros 8] [zeros 100, zeros 8, zeros 80, zeros 155, zeros 12] 1 156 [ty] (by simp only [List.flatten_cons, List.flatten_nil, List.length_append, List.length_nil, zeros_length, pad_length, *]) (by first | assumption | decide | omega)
  have e8 := lay_flat [pad 100 name, pad 8 m, pad 8 u, pad 8 g, pad 12 s, pad 12 t, zeros 8, pad 1 [ty]] [zeros 8, zeros 80, zeros 155, zeros 12] 100 157 link (by simp only [List.flatten_cons, List.flatten_nil, List.length_append, List.length_nil, zeros_length, pad_length, *]) (by first | assumption | decide | omega)
  have e9 := lay_flat [pad 100 name, pad 8 m, pad 8 u, pad 8 g, pad 12 s, pad 12 t, zeros 8, pad 1 [ty], pad 100 link] [zeros 80, zeros 155, zeros 12] 8 257 magic (by simp only [List.flatten_cons, List.flatten_nil, List.length_append, List.length_nil, zeros_length, pad_length, *]) (by first | assumption | decide | omega)
  have e10 := lay_flat [pad 100 name, pad 8 m, pad 8 u, pad 8 g, pad 12 s, pad 12 t, zeros 8, pad 1 [ty], pad 100 link, pad 8 magic, zeros 80] [zeros 12] 155 345 pre (by simp only [List.flatten_cons, List.flatten_nil, List.length_append, List.length_nil, zeros_length, pad_length, *]) (by first | assumption | decide | omega)
  simp only [List.cons_append, List.nil_append] at e1 e2 e3 e4 e5 e6 e7 e8 e9 e10
  simp only [layAll, List.foldl_cons, List.foldl_nil]
  rw [e1, e2, e3, e4, e5, e6, e7, e8, e9, e10]

set_option linter.unusedSimpArgs false in
theorem rflat_m (name link off real m u g s t : L) (ty : UInt8) (hn : name.length ≤ 100) (hk : link.length ≤ 100) (hm : m.length ≤ 8) (hu : u.length ≤ 8) (hg : g.length ≤ 8) (hs : s.length ≤ 12) (ht : t.length ≤ 12) (ho : off.length ≤ 12) (hr : real.length ≤ 12) :
    layAll (zeros 512) [(0, name), (100, m), (108, u), (116, g), (124, s), (136, t), (156, [ty]), (157, link), (257, magic), (369, off), (483, real)] = [pad 100 name, pad 8 m, pad 8 u, pad 8 g, pad 12 s, pad 12 t, zeros 8, pad 1 [ty], pad 100 link, pad 8 magic, zeros 104, pad 12 off, zeros 102, pad 12 real, zeros 17].flatten := by
  have e0 : zeros 512 = [zeros 100, zeros 8, zeros 8, zeros 8, zeros 12, zeros 12, zeros 8, zeros 1, zeros 100, zeros 8, zeros 104, zeros 12, zeros 102, zeros 12, zeros 17].flatten := by decide +kernel
  rw [e0]
  clear e0
  have ht1 : ([ty] : L).length ≤ 1 := by simp
  have hmg : magic.length ≤ 8 := by decide
  have e1 := lay_flat [] [zeros 8, zeros 8, zeros 8, zeros 12, zeros 12, zeros 8, zeros 1, zeros 100, zeros 8, zeros 104, zeros 12, zeros 102, zeros 12, zeros 17] 100 0 name (by simp only [List.flatten_cons, List.flatten_nil, List.length_append, List.length_nil, zeros_length, pad_length, *]) (by first | assumption | decide | omega)
  have e2 := lay_flat [pad 100 name] [zeros 8, zeros 8, zeros 12, zeros 12, zeros 8, zeros 1, zeros 100, zeros 8, zeros 104, zeros 12, zeros 102, zeros 12, zeros 17] 8 100 m (by simp only [List.flatten_cons, List.flatten_nil, List.length_append, List.length_nil, zeros_length, pad_length, *]) (by first | assumption | decide | omega)
  have e3 := lay_flat [pad 100 name, pad 8 m] [zeros 8, zeros 12, zeros 12, zeros 8, zeros 1, zeros 100, zeros 8, zeros 104, zeros 12, zeros 102, zeros 12, zeros 17] 8 108 u (by simp only [List.flatten_cons, List.flatten_nil, List.length_append, List.length_nil, zeros_length, pad_length, *]) (by first | assumption | decide | omega)
  have e4 := lay_flat [pad 100 name, pad 8 m, pad 8 u] [zeros 12, zeros 12, zeros 8, zeros 1, zeros 100, zeros 8, zeros 104, zeros 12, zeros 102, zeros 12, zeros 17] 8 116 g (by simp only [List.flatten_cons, List.flatten_nil, List.length_append, List.length_nil, zeros_length, pad_length, *]) (by first | assumption | decide | omega)
  have e5 := lay_flat [pad 100 name, pad 8 m, pad 8 u, pad 8 g] [zeros 12, zeros 8, zeros 1, zeros 100, zeros 8, zeros 104, zeros 12, zeros 102, zeros 12, zeros 17] 12 124 s (by simp only [List.flatten_cons, List.flatten_nil, List.length_append, List.length_nil, zeros_length, pad_length, *]) (by first | assumption | decide | omega)
  have e6 := lay_flat [pad 100 name, pad 8 m, pad 8 u, pad 8 g, pad 12 s] [zeros 8, zeros 1, zeros 100, zeros 8, zeros 104, zeros 12, zeros 102, zeros 12, zeros 17] 12 136 t (by simp only [List.flatten_cons, List.flatten_nil, List.length_append, List.length_nil, zeros_length, pad_length, *]) (by first | assumption | decide | omega)
  have e7 := lay_flat [pad 100 name, pad 8 m, pad 8 u, pad 8 g, pad 12 s, pad 12 t, zeros 8] [zeros 100, zeros 8, zeros 104, zeros 12, zeros 102, zeros 12, zeros 17] 1 156 [ty] (by simp only [List.flatten_cons, List.flatten_nil, List.length_append, List.length_nil, zeros_length, pad_length, *]) (by first | assumption | decide | omega)
  have e8 := lay_flat [pad 100 name, pad 8 m, pad 8 u, pad 8 g, pad 12 s, pad 12 t, zeros 8, pad 1 [ty]] [zeros 8, zeros 104, zeros 12, zeros 102, zeros 12, zeros 17] 100 157 link (by simp only [List.flatten_cons, List.flatten_nil, List.length_append, List.length_nil, zeros_length, pad_length, *]) (by first | assumption | decide | omega)
  have e9 := lay_flat [pad 100 name, pad 8 m, pad 8 u, pad 8 g, pad 12 s, pad 12 t, zeros 8, pad 1 [ty], pad 100 link] [zeros 104, zeros 12, zeros 102, zeros 12, zeros 17] 8 257 magic (by simp only [List.flatten_cons, List.flatten_nil, List.length_append, List.length_nil, zeros_length, pad_length, *]) (by first | assumption | decide | omega)
  have e10 := lay_flat [pad 100 name, pad 8 m, pad 8 u, pad 8 g, pad 12 s, pad 12 t, zeros 8, pad 1 [ty], pad 100 link, pad 8 magic, zeros 104] [zeros 102, zeros 12, zeros 17] 12 369 off (by simp only [List.flatten_cons, List.flatten_nil, List.length_append, List.length_nil, zeros_length, pad_length, *]) (by first | assumption | decide | omega)
  have e11 := lay_flat [pad 100 name, pad 8 m, pad 8 u, pad 8 g, pad 12 s, pad 12 t, zeros 8, pad 1 [ty], pad 100 link, pad 8 magic, zeros 104, pad 12 off, zeros 102] [zeros 17] 12 483 real (by simp only [List.flatten_cons, List.flatten_nil, List.length_append, List.length_nil, zeros_length, pad_length, *]) (by first | assumption | decide | omega)
  simp only [List.cons_append, List.nil_append] at e1 e2 e3 e4 e5 e6 e7 e8 e9 e10 e11
  simp only [layAll, List.foldl_cons, List.foldl_nil]
  rw [e1, e2, e3, e4, e5, e6, e7, e8, e9, e10, e11]

end Go.Proofs.Ytjddgmdbgajjpaa.Head

namespace Go.Proofs.Ytjddgmdbgajjpaa.Head
open Go.RowKit Go.Proofs.Ytjddgmdbgajjpaa.Base Go.Proofs.Ytjddgmdbgajjpaa.NumM Go.Proofs.Ytjddgmdbgajjpaa.Num

theorem okT_iff {s : L} {n : Nat} : okT s n = true ↔ s.length ≤ n ∧ (0 : UInt8) ∉ s := by
  unfold okT
  simp
/-- What is known of a header that may be. -/
structure MayF (h : Hd) : Prop where
  name : h.name.length ≤ 100
  name0 : (0 : UInt8) ∉ h.name
  nname : h.name ≠ []
  link : h.link.length ≤ 100
  link0 : (0 : UInt8) ∉ h.link
  pre : h.pre.length ≤ 155
  pre0 : (0 : UInt8) ∉ h.pre
  mode : putOk h.mode 8 = true
  uid : putOk h.uid 8 = true
  gid : putOk h.gid 8 = true
  size : putOk h.size 12 = true
  time : putOk h.time 12 = true
  more : h.ty = 77 → h.pre = [] ∧ putOk h.off 12 = true ∧ putOk h.real 12 = true
  less : h.ty ≠ 77 → h.off = 0 ∧ h.real = 0
theorem mayF {h : Hd} (hm : mayH h = true) : MayF h := by
  unfold mayH elseZ txtsOk numsOk at hm
  simp only [Bool.and_eq_true, Bool.or_eq_true, okT_iff, decide_eq_true_eq, Bool.not_eq_true'] at hm
  obtain ⟨⟨⟨⟨h1, h2⟩, h3⟩, ⟨⟨h4, h4'⟩, ⟨h5, h5'⟩⟩, h6⟩, ⟨⟨⟨⟨h7, h8⟩, h9⟩, h10⟩, h11⟩, h12⟩ := hm
  have hn : h.name ≠ [] := by rintro e; rw [e] at h1; simp at h1
  by_cases ht : h.ty = 77
  · rw [if_pos ht] at h3
    have hp : h.pre = [] := by cases hq : h.pre <;> simp_all
    have h12' : putOk h.off 12 = true ∧ putOk h.real 12 = true := by simpa [ht] using h12
    exact ⟨h4, h4', hn, h5, h5', by rw [hp]; simp, by rw [hp]; simp, h7, h8, h9, h10, h11, fun _ => ⟨hp, h12'⟩, fun e => absurd ht e⟩
  · rw [if_neg ht] at h3
    have h6' : h.pre.length ≤ 155 ∧ (0 : UInt8) ∉ h.pre := by simpa [ht] using h6
    simp only [Bool.and_eq_true, decide_eq_true_eq] at h3
    exact ⟨h4, h4', hn, h5, h5', h6'.1, h6'.2, h7, h8, h9, h10, h11, fun e => absurd e ht, fun _ => h3⟩

def tailS (h : Hd) : List L := if h.ty = 77 then [zeros 104, pad 12 (putV h.off 12), zeros 102, pad 12 (putV h.real 12), zeros 17] else [zeros 80, pad 155 h.pre, zeros 12]
/-- A block's parts, with what stands as the sum. -/
def sg (h : Hd) (s : L) : List L :=
  [pad 100 h.name, pad 8 (putV h.mode 8), pad 8 (putV h.uid 8), pad 8 (putV h.gid 8), pad 12 (putV h.size 12), pad 12 (putV h.time 12), s, pad 1 [h.ty], pad 100 h.link, pad 8 magic] ++ tailS h

theorem raw_sg {h : Hd} (hm : mayH h = true) : rawH h = (sg h (zeros 8)).flatten := by
  have f := mayF hm
  have l1 := putV_length f.mode
  have l2 := putV_length f.uid
  have l3 := putV_length f.gid
  have l4 := putV_length f.size
  have l5 := putV_length f.time
  unfold rawH txts numsL sg tailS
  by_cases ht : h.ty = 77
  · obtain ⟨_, h6, h7⟩ := f.more ht
    have l6 := putV_length h6
    have l7 := putV_length h7
    simp only [ht, if_true, List.cons_append, List.nil_append]
    exact flat_m _ _ _ _ _ _ _ _ _ 77 f.name f.link (Nat.le_of_eq l1) (Nat.le_of_eq l2) (Nat.le_of_eq l3) (Nat.le_of_eq l4) (Nat.le_of_eq l5) (Nat.le_of_eq l6) (Nat.le_of_eq l7)
  · simp only [ht, if_false, List.cons_append, List.nil_append, List.append_nil]
    exact flat_n _ _ _ _ _ _ _ _ h.ty f.name f.link (Nat.le_of_eq l1) (Nat.le_of_eq l2) (Nat.le_of_eq l3) (Nat.le_of_eq l4) (Nat.le_of_eq l5) f.pre
set_option linter.unusedSimpArgs false in
theorem blk_sg {h : Hd} (hm : mayH h = true) : blk h = (sg h (sumT (rawH h))).flatten := by
  have f := mayF hm
  have l0 := pad_length (n := 100) f.name
  have l1 : (pad 8 (putV h.mode 8)).length = 8 := pad_length (Nat.le_of_eq (putV_length f.mode))
  have l2 : (pad 8 (putV h.uid 8)).length = 8 := pad_length (Nat.le_of_eq (putV_length f.uid))
  have l3 : (pad 8 (putV h.gid 8)).length = 8 := pad_length (Nat.le_of_eq (putV_length f.gid))
  have l4 : (pad 12 (putV h.size 12)).length = 12 := pad_length (Nat.le_of_eq (putV_length f.size))
  have l5 : (pad 12 (putV h.time 12)).length = 12 := pad_length (Nat.le_of_eq (putV_length f.time))
  have l7 : (pad 1 [h.ty]).length = 1 := pad_length (by simp)
  have l8 := pad_length (n := 100) f.link
  have l9 : (pad 8 magic).length = 8 := pad_length (by decide)
  have e := lay_flat [pad 100 h.name, pad 8 (putV h.mode 8), pad 8 (putV h.uid 8), pad 8 (putV h.gid 8), pad 12 (putV h.size 12), pad 12 (putV h.time 12)] ([pad 1 [h.ty], pad 100 h.link, pad 8 magic] ++ tailS h) 8 148 (sumT (rawH h)) (by simp only [List.flatten_cons, List.flatten_nil, List.length_append, List.length_nil, zeros_length, *]) (by rw [sumT_length]; exact Nat.le_refl _)
  rw [pad_full (sumT_length _)] at e
  unfold blk
  rw [show lay (rawH h) 148 (sumT (rawH h)) = lay (sg h (zeros 8)).flatten 148 (sumT (rawH h)) by rw [← raw_sg hm]]
  exact e
set_option linter.unusedSimpArgs false in
set_option linter.unusedVariables false in
theorem sub_name {h : Hd} (hm : mayH h = true) (s : L) (hs : s.length = 8) (k : Nat) (hk : k ≤ 100) : sub (sg h s).flatten 0 k = (pad 100 h.name).take k := by
  have f := mayF hm
  have l0 := pad_length (n := 100) f.name
  have l1 : (pad 8 (putV h.mode 8)).length = 8 := pad_length (Nat.le_of_eq (putV_length f.mode))
  have l2 : (pad 8 (putV h.uid 8)).length = 8 := pad_length (Nat.le_of_eq (putV_length f.uid))
  have l3 : (pad 8 (putV h.gid 8)).length = 8 := pad_length (Nat.le_of_eq (putV_length f.gid))
  have l4 : (pad 12 (putV h.size 12)).length = 12 := pad_length (Nat.le_of_eq (putV_length f.size))
  have l5 : (pad 12 (putV h.time 12)).length = 12 := pad_length (Nat.le_of_eq (putV_length f.time))
  have l7 : (pad 1 [h.ty]).length = 1 := pad_length (by simp)
  have l8 := pad_length (n := 100) f.link
  have l9 : (pad 8 magic).length = 8 := pad_length (by decide)
  exact sub_flat [] (pad 100 h.name) ([pad 8 (putV h.mode 8), pad 8 (putV h.uid 8), pad 8 (putV h.gid 8), pad 12 (putV h.size 12), pad 12 (putV h.time 12), s, pad 1 [h.ty], pad 100 h.link, pad 8 magic] ++ tailS h) 0 k (by simp only [List.flatten_cons, List.flatten_nil, List.length_append, List.length_nil, zeros_length, *]) (by omega)
set_option linter.unusedSimpArgs false in
set_option linter.unusedVariables false in
theorem sub_mode {h : Hd} (hm : mayH h = true) (s : L) (hs : s.length = 8) (k : Nat) (hk : k ≤ 8) : sub (sg h s).flatten 100 k = (pad 8 (putV h.mode 8)).take k := by
  have f := mayF hm
  have l0 := pad_length (n := 100) f.name
  have l1 : (pad 8 (putV h.mode 8)).length = 8 := pad_length (Nat.le_of_eq (putV_length f.mode))
  have l2 : (pad 8 (putV h.uid 8)).length = 8 := pad_length (Nat.le_of_eq (putV_length f.uid))
  have l3 : (pad 8 (putV h.gid 8)).length = 8 := pad_length (Nat.le_of_eq (putV_length f.gid))
  have l4 : (pad 12 (putV h.size 12)).length = 12 := pad_length (Nat.le_of_eq (putV_length f.size))
  have l5 : (pad 12 (putV h.time 12)).length = 12 := pad_length (Nat.le_of_eq (putV_length f.time))
  have l7 : (pad 1 [h.ty]).length = 1 := pad_length (by simp)
  have l8 := pad_length (n := 100) f.link
  have l9 : (pad 8 magic).length = 8 := pad_length (by decide)
  exact sub_flat [pad 100 h.name] (pad 8 (putV h.mode 8)) ([pad 8 (putV h.uid 8), pad 8 (putV h.gid 8), pad 12 (putV h.size 12), pad 12 (putV h.time 12), s, pad 1 [h.ty], pad 100 h.link, pad 8 magic] ++ tailS h) 100 k (by simp only [List.flatten_cons, List.flatten_nil, List.length_append, List.length_nil, zeros_length, *]) (by omega)
set_option linter.unusedSimpArgs false in
set_option linter.unusedVariables false in
theorem sub_uid {h : Hd} (hm : mayH h = true) (s : L) (hs : s.length = 8) (k : Nat) (hk : k ≤ 8) : sub (sg h s).flatten 108 k = (pad 8 (putV h.uid 8)).take k := by
  have f := mayF hm
  have l0 := pad_length (n := 100) f.name
  have l1 : (pad 8 (putV h.mode 8)).length = 8 := pad_length (Nat.le_of_eq (putV_length f.mode))
  have l2 : (pad 8 (putV h.uid 8)).length = 8 := pad_length (Nat.le_of_eq (putV_length f.uid))
  have l3 : (pad 8 (putV h.gid 8)).length = 8 := pad_length (Nat.le_of_eq (putV_length f.gid))
  have l4 : (pad 12 (putV h.size 12)).length = 12 := pad_length (Nat.le_of_eq (putV_length f.size))
  have l5 : (pad 12 (putV h.time 12)).length = 12 := pad_length (Nat.le_of_eq (putV_length f.time))
  have l7 : (pad 1 [h.ty]).length = 1 := pad_length (by simp)
  have l8 := pad_length (n := 100) f.link
  have l9 : (pad 8 magic).length = 8 := pad_length (by decide)
  exact sub_flat [pad 100 h.name, pad 8 (putV h.mode 8)] (pad 8 (putV h.uid 8)) ([pad 8 (putV h.gid 8), pad 12 (putV h.size 12), pad 12 (putV h.time 12), s, pad 1 [h.ty], pad 100 h.link, pad 8 magic] ++ tailS h) 108 k (by simp only [List.flatten_cons, List.flatten_nil, List.length_append, List.length_nil, zeros_length, *]) (by omega)
set_option linter.unusedSimpArgs false in
set_option linter.unusedVariables false in
theorem sub_gid {h : Hd} (hm : mayH h = true) (s : L) (hs : s.length = 8) (k : Nat) (hk : k ≤ 8) : sub (sg h s).flatten 116 k = (pad 8 (putV h.gid 8)).take k := by
  have f := mayF hm
  have l0 := pad_length (n := 100) f.name
  have l1 : (pad 8 (putV h.mode 8)).length = 8 := pad_length (Nat.le_of_eq (putV_length f.mode))
  have l2 : (pad 8 (putV h.uid 8)).length = 8 := pad_length (Nat.le_of_eq (putV_length f.uid))
  have l3 : (pad 8 (putV h.gid 8)).length = 8 := pad_length (Nat.le_of_eq (putV_length f.gid))
  have l4 : (pad 12 (putV h.size 12)).length = 12 := pad_length (Nat.le_of_eq (putV_length f.size))
  have l5 : (pad 12 (putV h.time 12)).length = 12 := pad_length (Nat.le_of_eq (putV_length f.time))
  have l7 : (pad 1 [h.ty]).length = 1 := pad_length (by simp)
  have l8 := pad_length (n := 100) f.link
  have l9 : (pad 8 magic).length = 8 := pad_length (by decide)
  exact sub_flat [pad 100 h.name, pad 8 (putV h.mode 8), pad 8 (putV h.uid 8)] (pad 8 (putV h.gid 8)) ([pad 12 (putV h.size 12), pad 12 (putV h.time 12), s, pad 1 [h.ty], pad 100 h.link, pad 8 magic] ++ tailS h) 116 k (by simp only [List.flatten_cons, List.flatten_nil, List.length_append, List.length_nil, zeros_length, *]) (by omega)
set_option linter.unusedSimpArgs false in
set_option linter.unusedVariables false in
theorem sub_size {h : Hd} (hm : mayH h = true) (s : L) (hs : s.length = 8) (k : Nat) (hk : k ≤ 12) : sub (sg h s).flatten 124 k = (pad 12 (putV h.size 12)).take k := by
  have f := mayF hm
  have l0 := pad_length (n := 100) f.name
  have l1 : (pad 8 (putV h.mode 8)).length = 8 := pad_length (Nat.le_of_eq (putV_length f.mode))
  have l2 : (pad 8 (putV h.uid 8)).length = 8 := pad_length (Nat.le_of_eq (putV_length f.uid))
  have l3 : (pad 8 (putV h.gid 8)).length = 8 := pad_length (Nat.le_of_eq (putV_length f.gid))
  have l4 : (pad 12 (putV h.size 12)).length = 12 := pad_length (Nat.le_of_eq (putV_length f.size))
  have l5 : (pad 12 (putV h.time 12)).length = 12 := pad_length (Nat.le_of_eq (putV_length f.time))
  have l7 : (pad 1 [h.ty]).length = 1 := pad_length (by simp)
  have l8 := pad_length (n := 100) f.link
  have l9 : (pad 8 magic).length = 8 := pad_length (by decide)
  exact sub_flat [pad 100 h.name, pad 8 (putV h.mode 8), pad 8 (putV h.uid 8), pad 8 (putV h.gid 8)] (pad 12 (putV h.size 12)) ([pad 12 (putV h.time 12), s, pad 1 [h.ty], pad 100 h.link, pad 8 magic] ++ tailS h) 124 k (by simp only [List.flatten_cons, List.flatten_nil, List.length_append, List.length_nil, zeros_length, *]) (by omega)
set_option linter.unusedSimpArgs false in
set_option linter.unusedVariables false in
theorem sub_time {h : Hd} (hm : mayH h = true) (s : L) (hs : s.length = 8) (k : Nat) (hk : k ≤ 12) : sub (sg h s).flatten 136 k = (pad 12 (putV h.time 12)).take k := by
  have f := mayF hm
  have l0 := pad_length (n := 100) f.name
  have l1 : (pad 8 (putV h.mode 8)).length = 8 := pad_length (Nat.le_of_eq (putV_length f.mode))
  have l2 : (pad 8 (putV h.uid 8)).length = 8 := pad_length (Nat.le_of_eq (putV_length f.uid))
  have l3 : (pad 8 (putV h.gid 8)).length = 8 := pad_length (Nat.le_of_eq (putV_length f.gid))
  have l4 : (pad 12 (putV h.size 12)).length = 12 := pad_length (Nat.le_of_eq (putV_length f.size))
  have l5 : (pad 12 (putV h.time 12)).length = 12 := pad_length (Nat.le_of_eq (putV_length f.time))
  have l7 : (pad 1 [h.ty]).length = 1 := pad_length (by simp)
  have l8 := pad_length (n := 100) f.link
  have l9 : (pad 8 magic).length = 8 := pad_length (by decide)
  exact sub_flat [pad 100 h.name, pad 8 (putV h.mode 8), pad 8 (putV h.uid 8), pad 8 (putV h.gid 8), pad 12 (putV h.size 12)] (pad 12 (putV h.time 12)) ([s, pad 1 [h.ty], pad 100 h.link, pad 8 magic] ++ tailS h) 136 k (by simp only [List.flatten_cons, List.flatten_nil, List.length_append, List.length_nil, zeros_length, *]) (by omega)
set_option linter.unusedSimpArgs false in
set_option linter.unusedVariables false in
theorem sub_sum {h : Hd} (hm : mayH h = true) (s : L) (hs : s.length = 8) (k : Nat) (hk : k ≤ 8) : sub (sg h s).flatten 148 k = (s).take k := by
  have f := mayF hm
  have l0 := pad_length (n := 100) f.name
  have l1 : (pad 8 (putV h.mode 8)).length = 8 := pad_length (Nat.le_of_eq (putV_length f.mode))
  have l2 : (pad 8 (putV h.uid 8)).length = 8 := pad_length (Nat.le_of_eq (putV_length f.uid))
  have l3 : (pad 8 (putV h.gid 8)).length = 8 := pad_length (Nat.le_of_eq (putV_length f.gid))
  have l4 : (pad 12 (putV h.size 12)).length = 12 := pad_length (Nat.le_of_eq (putV_length f.size))
  have l5 : (pad 12 (putV h.time 12)).length = 12 := pad_length (Nat.le_of_eq (putV_length f.time))
  have l7 : (pad 1 [h.ty]).length = 1 := pad_length (by simp)
  have l8 := pad_length (n := 100) f.link
  have l9 : (pad 8 magic).length = 8 := pad_length (by decide)
  exact sub_flat [pad 100 h.name, pad 8 (putV h.mode 8), pad 8 (putV h.uid 8), pad 8 (putV h.gid 8), pad 12 (putV h.size 12), pad 12 (putV h.time 12)] (s) ([pad 1 [h.ty], pad 100 h.link, pad 8 magic] ++ tailS h) 148 k (by simp only [List.flatten_cons, List.flatten_nil, List.length_append, List.length_nil, zeros_length, *]) (by omega)
set_option linter.unusedSimpArgs false in
set_option linter.unusedVariables false in
theorem sub_ty {h : Hd} (hm : mayH h = true) (s : L) (hs : s.length = 8) (k : Nat) (hk : k ≤ 1) : sub (sg h s).flatten 156 k = (pad 1 [h.ty]).take k := by
  have f := mayF hm
  have l0 := pad_length (n := 100) f.name
  have l1 : (pad 8 (putV h.mode 8)).length = 8 := pad_length (Nat.le_of_eq (putV_length f.mode))
  have l2 : (pad 8 (putV h.uid 8)).length = 8 := pad_length (Nat.le_of_eq (putV_length f.uid))
  have l3 : (pad 8 (putV h.gid 8)).length = 8 := pad_length (Nat.le_of_eq (putV_length f.gid))
  have l4 : (pad 12 (putV h.size 12)).length = 12 := pad_length (Nat.le_of_eq (putV_length f.size))
  have l5 : (pad 12 (putV h.time 12)).length = 12 := pad_length (Nat.le_of_eq (putV_length f.time))
  have l7 : (pad 1 [h.ty]).length = 1 := pad_length (by simp)
  have l8 := pad_length (n := 100) f.link
  have l9 : (pad 8 magic).length = 8 := pad_length (by decide)
  exact sub_flat [pad 100 h.name, pad 8 (putV h.mode 8), pad 8 (putV h.uid 8), pad 8 (putV h.gid 8), pad 12 (putV h.size 12), pad 12 (putV h.time 12), s] (pad 1 [h.ty]) ([pad 100 h.link, pad 8 magic] ++ tailS h) 156 k (by simp only [List.flatten_cons, List.flatten_nil, List.length_append, List.length_nil, zeros_length, *]) (by omega)
set_option linter.unusedSimpArgs false in
set_option linter.unusedVariables false in
theorem sub_link {h : Hd} (hm : mayH h = true) (s : L) (hs : s.length = 8) (k : Nat) (hk : k ≤ 100) : sub (sg h s).flatten 157 k = (pad 100 h.link).take k := by
  have f := mayF hm
  have l0 := pad_length (n := 100) f.name
  have l1 : (pad 8 (putV h.mode 8)).length = 8 := pad_length (Nat.le_of_eq (putV_length f.mode))
  have l2 : (pad 8 (putV h.uid 8)).length = 8 := pad_length (Nat.le_of_eq (putV_length f.uid))
  have l3 : (pad 8 (putV h.gid 8)).length = 8 := pad_length (Nat.le_of_eq (putV_length f.gid))
  have l4 : (pad 12 (putV h.size 12)).length = 12 := pad_length (Nat.le_of_eq (putV_length f.size))
  have l5 : (pad 12 (putV h.time 12)).length = 12 := pad_length (Nat.le_of_eq (putV_length f.time))
  have l7 : (pad 1 [h.ty]).length = 1 := pad_length (by simp)
  have l8 := pad_length (n := 100) f.link
  have l9 : (pad 8 magic).length = 8 := pad_length (by decide)
  exact sub_flat [pad 100 h.name, pad 8 (putV h.mode 8), pad 8 (putV h.uid 8), pad 8 (putV h.gid 8), pad 12 (putV h.size 12), pad 12 (putV h.time 12), s, pad 1 [h.ty]] (pad 100 h.link) ([pad 8 magic] ++ tailS h) 157 k (by simp only [List.flatten_cons, List.flatten_nil, List.length_append, List.length_nil, zeros_length, *]) (by omega)
set_option linter.unusedSimpArgs false in
set_option linter.unusedVariables false in
theorem sub_magic {h : Hd} (hm : mayH h = true) (s : L) (hs : s.length = 8) (k : Nat) (hk : k ≤ 8) : sub (sg h s).flatten 257 k = (pad 8 magic).take k := by
  have f := mayF hm
  have l0 := pad_length (n := 100) f.name
  have l1 : (pad 8 (putV h.mode 8)).length = 8 := pad_length (Nat.le_of_eq (putV_length f.mode))
  have l2 : (pad 8 (putV h.uid 8)).length = 8 := pad_length (Nat.le_of_eq (putV_length f.uid))
  have l3 : (pad 8 (putV h.gid 8)).length = 8 := pad_length (Nat.le_of_eq (putV_length f.gid))
  have l4 : (pad 12 (putV h.size 12)).length = 12 := pad_length (Nat.le_of_eq (putV_length f.size))
  have l5 : (pad 12 (putV h.time 12)).length = 12 := pad_length (Nat.le_of_eq (putV_length f.time))
  have l7 : (pad 1 [h.ty]).length = 1 := pad_length (by simp)
  have l8 := pad_length (n := 100) f.link
  have l9 : (pad 8 magic).length = 8 := pad_length (by decide)
  exact sub_flat [pad 100 h.name, pad 8 (putV h.mode 8), pad 8 (putV h.uid 8), pad 8 (putV h.gid 8), pad 12 (putV h.size 12), pad 12 (putV h.time 12), s, pad 1 [h.ty], pad 100 h.link] (pad 8 magic) (tailS h) 257 k (by simp only [List.flatten_cons, List.flatten_nil, List.length_append, List.length_nil, zeros_length, *]) (by omega)
set_option linter.unusedSimpArgs false in
set_option linter.unusedVariables false in
theorem sub_pre {h : Hd} (hm : mayH h = true) (ht : h.ty ≠ 77) (s : L) (hs : s.length = 8) (k : Nat) (hk : k ≤ 155) : sub (sg h s).flatten 345 k = (pad 155 h.pre).take k := by
  have f := mayF hm
  have l0 := pad_length (n := 100) f.name
  have l1 : (pad 8 (putV h.mode 8)).length = 8 := pad_length (Nat.le_of_eq (putV_length f.mode))
  have l2 : (pad 8 (putV h.uid 8)).length = 8 := pad_length (Nat.le_of_eq (putV_length f.uid))
  have l3 : (pad 8 (putV h.gid 8)).length = 8 := pad_length (Nat.le_of_eq (putV_length f.gid))
  have l4 : (pad 12 (putV h.size 12)).length = 12 := pad_length (Nat.le_of_eq (putV_length f.size))
  have l5 : (pad 12 (putV h.time 12)).length = 12 := pad_length (Nat.le_of_eq (putV_length f.time))
  have l7 : (pad 1 [h.ty]).length = 1 := pad_length (by simp)
  have l8 := pad_length (n := 100) f.link
  have l9 : (pad 8 magic).length = 8 := pad_length (by decide)
  have lp := pad_length (n := 155) f.pre
  unfold sg tailS
  rw [if_neg ht]
  exact sub_flat [pad 100 h.name, pad 8 (putV h.mode 8), pad 8 (putV h.uid 8), pad 8 (putV h.gid 8), pad 12 (putV h.size 12), pad 12 (putV h.time 12), s, pad 1 [h.ty], pad 100 h.link, pad 8 magic, zeros 80] (pad 155 h.pre) [zeros 12] 345 k (by simp only [List.flatten_cons, List.flatten_nil, List.length_append, List.length_nil, zeros_length, *]) (by omega)
set_option linter.unusedSimpArgs false in
set_option linter.unusedVariables false in
theorem sub_off {h : Hd} (hm : mayH h = true) (ht : h.ty = 77) (s : L) (hs : s.length = 8) (k : Nat) (hk : k ≤ 12) : sub (sg h s).flatten 369 k = (pad 12 (putV h.off 12)).take k := by
  have f := mayF hm
  have l0 := pad_length (n := 100) f.name
  have l1 : (pad 8 (putV h.mode 8)).length = 8 := pad_length (Nat.le_of_eq (putV_length f.mode))
  have l2 : (pad 8 (putV h.uid 8)).length = 8 := pad_length (Nat.le_of_eq (putV_length f.uid))
  have l3 : (pad 8 (putV h.gid 8)).length = 8 := pad_length (Nat.le_of_eq (putV_length f.gid))
  have l4 : (pad 12 (putV h.size 12)).length = 12 := pad_length (Nat.le_of_eq (putV_length f.size))
  have l5 : (pad 12 (putV h.time 12)).length = 12 := pad_length (Nat.le_of_eq (putV_length f.time))
  have l7 : (pad 1 [h.ty]).length = 1 := pad_length (by simp)
  have l8 := pad_length (n := 100) f.link
  have l9 : (pad 8 magic).length = 8 := pad_length (by decide)
  have lp : (pad 12 (putV h.off 12)).length = 12 := pad_length (Nat.le_of_eq (putV_length (f.more ht).2.1))
  unfold sg tailS
  rw [if_pos ht]
  clear ht
  exact sub_flat [pad 100 h.name, pad 8 (putV h.mode 8), pad 8 (putV h.uid 8), pad 8 (putV h.gid 8), pad 12 (putV h.size 12), pad 12 (putV h.time 12), s, pad 1 [h.ty], pad 100 h.link, pad 8 magic, zeros 104] (pad 12 (putV h.off 12)) [zeros 102, pad 12 (putV h.real 12), zeros 17] 369 k (by simp only [List.flatten_cons, List.flatten_nil, List.length_append, List.length_nil, zeros_length, *]) (by omega)
set_option linter.unusedSimpArgs false in
set_option linter.unusedVariables false in
theorem sub_real {h : Hd} (hm : mayH h = true) (ht : h.ty = 77) (s : L) (hs : s.length = 8) (k : Nat) (hk : k ≤ 12) : sub (sg h s).flatten 483 k = (pad 12 (putV h.real 12)).take k := by
  have f := mayF hm
  have l0 := pad_length (n := 100) f.name
  have l1 : (pad 8 (putV h.mode 8)).length = 8 := pad_length (Nat.le_of_eq (putV_length f.mode))
  have l2 : (pad 8 (putV h.uid 8)).length = 8 := pad_length (Nat.le_of_eq (putV_length f.uid))
  have l3 : (pad 8 (putV h.gid 8)).length = 8 := pad_length (Nat.le_of_eq (putV_length f.gid))
  have l4 : (pad 12 (putV h.size 12)).length = 12 := pad_length (Nat.le_of_eq (putV_length f.size))
  have l5 : (pad 12 (putV h.time 12)).length = 12 := pad_length (Nat.le_of_eq (putV_length f.time))
  have l7 : (pad 1 [h.ty]).length = 1 := pad_length (by simp)
  have l8 := pad_length (n := 100) f.link
  have l9 : (pad 8 magic).length = 8 := pad_length (by decide)
  have lo : (pad 12 (putV h.off 12)).length = 12 := pad_length (Nat.le_of_eq (putV_length (f.more ht).2.1))
  have lp : (pad 12 (putV h.real 12)).length = 12 := pad_length (Nat.le_of_eq (putV_length (f.more ht).2.2))
  unfold sg tailS
  rw [if_pos ht]
  clear ht
  exact sub_flat [pad 100 h.name, pad 8 (putV h.mode 8), pad 8 (putV h.uid 8), pad 8 (putV h.gid 8), pad 12 (putV h.size 12), pad 12 (putV h.time 12), s, pad 1 [h.ty], pad 100 h.link, pad 8 magic, zeros 104, pad 12 (putV h.off 12), zeros 102] (pad 12 (putV h.real 12)) [zeros 17] 483 k (by simp only [List.flatten_cons, List.flatten_nil, List.length_append, List.length_nil, zeros_length, *]) (by omega)

theorem num_back {n wi : Int} (w : Nat) (hw : wi = (w : Int)) (hp : putOk n wi = true) (hs : n < 9223372036854775808) : getV ((pad w (putV n wi)).take w) = n := by
  subst hw
  rw [pad_full (putV_length hp), take_all (putV_length hp)]
  exact getV_putV hp hs
theorem txt_back {s : L} {n : Nat} (hl : s.length ≤ n) (h0 : (0 : UInt8) ∉ s) : upto ((pad n s).take n) = s := by
  rw [take_all (pad_length hl)]
  exact upto_pad h0 n
/-- A header's block tells it. -/
theorem guess_sg {h : Hd} (hm : mayH h = true) (hs : SmallH h) (s : L) (hl : s.length = 8) : guessH (sg h s).flatten = h := by
  have f := mayF hm
  have ety : (sub (sg h s).flatten 156 1).headD 0 = h.ty := by
    rw [sub_ty hm s hl 1 (Nat.le_refl _)]
    rfl
  unfold guessH
  rw [ety, sub_name hm s hl 100 (Nat.le_refl _), sub_link hm s hl 100 (Nat.le_refl _), sub_mode hm s hl 8 (Nat.le_refl _), sub_uid hm s hl 8 (Nat.le_refl _), sub_gid hm s hl 8 (Nat.le_refl _), sub_size hm s hl 12 (Nat.le_refl _), sub_time hm s hl 12 (Nat.le_refl _)]
  rw [txt_back f.name f.name0, txt_back f.link f.link0, num_back (wi := 8) 8 rfl f.mode hs.mode, num_back (wi := 8) 8 rfl f.uid hs.uid, num_back (wi := 8) 8 rfl f.gid hs.gid, num_back (wi := 12) 12 rfl f.size hs.size, num_back (wi := 12) 12 rfl f.time hs.time]
  dsimp only
  by_cases ht : h.ty = 77
  · obtain ⟨hp, h6, h7⟩ := f.more ht
    rw [if_pos ht, if_pos ht, if_pos ht, sub_off hm ht s hl 12 (Nat.le_refl _), sub_real hm ht s hl 12 (Nat.le_refl _), num_back (wi := 12) 12 rfl h6 hs.off, num_back (wi := 12) 12 rfl h7 hs.real, ← hp]
  · obtain ⟨ho, hr⟩ := f.less ht
    rw [if_neg ht, if_neg ht, if_neg ht, sub_pre hm ht s hl 155 (Nat.le_refl _), txt_back f.pre f.pre0, ← ho]
    cases h
    simp only at ho hr ⊢
    rw [ho, hr]
theorem guess_blk {h : Hd} (hm : mayH h = true) (hs : SmallH h) : guessH (blk h) = h := by
  rw [blk_sg hm]
  exact guess_sg hm hs _ (sumT_length _)

theorem raw_length {h : Hd} (hm : mayH h = true) (hs : SmallH h) : (rawH h).length = 512 := by
  have h1 : (layAll (zeros 512) (txts h)).length = 512 := by rw [layAll_length (by rw [zeros_length]; exact ps_room hm), zeros_length]
  have h2 : (layAll (layAll (zeros 512) (txts h)) (numsL h)).length = 512 := by rw [layAll_length (by rw [h1]; exact nu_room hm hs), h1]
  unfold rawH
  rw [layAll_append, layAll_append]
  show (lay (lay _ 156 [h.ty]) 257 magic).length = 512
  rw [lay_length (by rw [lay_length (by rw [h2]; simp), h2]; decide), lay_length (by rw [h2]; simp), h2]
theorem sumN_lay {b x : L} (hb : b.length = 512) (hx : x.length = 8) : sumN (lay b 148 x) = sumN b := by
  have e1 : (lay b 148 x).take 148 = b.take 148 := by
    unfold lay
    rw [List.append_assoc, List.take_append_of_le_length (by rw [List.length_take]; omega), List.take_take]
    simp
  have e2 : (lay b 148 x).drop 156 = b.drop 156 := by
    have hl : (b.take 148 ++ x).length = 156 := by rw [List.length_append, List.length_take, hx]; omega
    unfold lay
    rw [hx, show (156 : Nat) = (b.take 148 ++ x).length by rw [hl], List.drop_left, hl]
  unfold sumN
  rw [e1, e2]
theorem sumT_blk {h : Hd} (hm : mayH h = true) (hs : SmallH h) : sumT (blk h) = sumT (rawH h) := by
  unfold sumT blk
  rw [sumN_lay (raw_length hm hs) (sumT_length _)]
theorem sub_blk_sum {h : Hd} (hm : mayH h = true) (hs : SmallH h) : sub (blk h) 148 8 = sumT (blk h) := by
  rw [sumT_blk hm hs]
  have e := sub_sum hm (sumT (rawH h)) (sumT_length _) 8 (Nat.le_refl _)
  rw [take_all (sumT_length _)] at e
  rw [blk_sg hm]
  exact e
theorem sub_get {b : L} {i n j : Nat} (hj : j < n) : (sub b i n)[j]? = b[i + j]? := by
  unfold sub
  rw [List.getElem?_take, if_pos hj, List.getElem?_drop]
theorem blk_magic {h : Hd} (hm : mayH h = true) (j : Nat) (hj : j < 8) : (blk h)[257 + j]? = magic[j]? := by
  rw [blk_sg hm, ← sub_get (n := 8) hj, sub_magic hm _ (sumT_length _) 8 (Nat.le_refl _), pad_full (by rfl), take_all (by rfl)]
theorem zeros_get {n j : Nat} (h : j < n) : (zeros n)[j]? = some 0 := by simp [zeros, h]
theorem code_blk {h : Hd} (hm : mayH h = true) (hs : SmallH h) : codeB (blk h) = 0 := by
  have h1 := guess_blk hm hs
  unfold codeB
  rw [if_pos (blk_length hm hs), if_neg, if_pos (sub_blk_sum hm hs), h1, if_pos ⟨hm, rfl⟩]
  intro e
  have := blk_magic hm 0 (by omega)
  rw [e, zeros_get (by omega)] at this
  exact absurd this (by decide)
theorem get_blk {h : Hd} (hm : mayH h = true) (hs : SmallH h) : getH (blk h) = h := by
  unfold getH
  rw [if_pos (code_blk hm hs), guess_blk hm hs]
theorem blk_inj {h k : Hd} (hm : mayH h = true) (km : mayH k = true) (hs : SmallH h) (ks : SmallH k) (e : blk h = blk k) : h = k := by
  rw [← guess_blk hm hs, ← guess_blk km ks, e]

/-! ### one byte is another one -/
theorem tot_set {l : L} {i : Nat} {x c : UInt8} (h : l[i]? = some x) : tot (l.set i c) + x.toNat = tot l + c.toNat := by
  induction l generalizing i with
  | nil => simp at h
  | cons y l ih =>
    cases i with
    | zero =>
      simp only [List.getElem?_cons_zero, Option.some.injEq] at h
      subst h
      simp only [List.set_cons_zero, tot]
      omega
    | succ i =>
      simp only [List.getElem?_cons_succ] at h
      have := ih h
      simp only [List.set_cons_succ, tot]
      omega
theorem sumN_set {b : L} {i : Nat} {x c : UInt8} (hb : b.length = 512) (h : b[i]? = some x) : (148 ≤ i ∧ i < 156 → sumN (b.set i c) = sumN b) ∧ (¬ (148 ≤ i ∧ i < 156) → sumN (b.set i c) + x.toNat = sumN b + c.toNat) := by
  have hi := (List.getElem?_eq_some_iff.1 h).1
  unfold sumN
  rw [List.take_set, List.drop_set]
  by_cases h1 : i < 148
  · refine ⟨fun hh => by omega, fun _ => ?_⟩
    have e := tot_set (l := b.take 148) (i := i) (x := x) (c := c) (by rw [List.getElem?_take, if_pos h1]; exact h)
    rw [if_pos (by omega)]
    omega
  · rw [List.set_eq_of_length_le (by rw [List.length_take]; omega)]
    by_cases h2 : i < 156
    · refine ⟨fun _ => ?_, fun hh => absurd ⟨by omega, h2⟩ hh⟩
      rw [if_pos h2]
    · refine ⟨fun hh => by omega, fun _ => ?_⟩
      rw [if_neg h2]
      have e := tot_set (l := b.drop 156) (i := i - 156) (x := x) (c := c) (by rw [List.getElem?_drop, show 156 + (i - 156) = i by omega]; exact h)
      omega
theorem code_spoilt {h : Hd} (hm : mayH h = true) (hs : SmallH h) {i : Nat} {x c : UInt8} (hx : (blk h)[i]? = some x) (hc : x ≠ c) : codeB ((blk h).set i c) = 3 := by
  have hl := blk_length hm hs
  have hl2 : ((blk h).set i c).length = 512 := by rw [List.length_set]; exact hl
  have hi := (List.getElem?_eq_some_iff.1 hx).1
  have hxc : x.toNat ≠ c.toNat := fun e => hc (UInt8.toNat_inj.1 e)
  have hsum := sumN_set (c := c) hl hx
  have hcl := c.toNat_lt
  have hxl := x.toNat_lt
  unfold codeB
  rw [if_pos hl2, if_neg, if_neg]
  · intro e
    have e0 := sub_blk_sum hm hs
    by_cases hin : 148 ≤ i ∧ i < 156
    · have hT : sumT ((blk h).set i c) = sumT (blk h) := by
        unfold sumT
        rw [hsum.1 hin]
      rw [hT, ← e0] at e
      have e2 := congrArg (fun l : L => l[i - 148]?) e
      rw [sub_get (by omega), sub_get (by omega), show 148 + (i - 148) = i by omega, hx, List.getElem?_set_self hi] at e2
      injection e2 with e2
      exact hc e2.symm
    · have hS : sub ((blk h).set i c) 148 8 = sub (blk h) 148 8 := by
        apply List.ext_getElem?
        intro j
        by_cases hj : j < 8
        · rw [sub_get hj, sub_get hj, List.getElem?_set_ne (by omega)]
        · rw [List.getElem?_eq_none (by rw [sub_length (by omega)]; omega), List.getElem?_eq_none (by rw [sub_length (by omega)]; omega)]
      rw [hS, e0] at e
      unfold sumT at e
      have e2 := List.append_cancel_right e
      have b1 := sumN_le hl
      have b2 := sumN_le hl2
      have e3 := octs_inj (d := 6) (by omega) (by omega) e2
      have := hsum.2 hin
      omega
  · intro e
    have hj : ∀ j, j < 8 → magic[j]? ≠ some 0 → i = 257 + j := by
      intro j hj hn
      rcases Nat.lt_trichotomy i (257 + j) with q | q | q
      · exfalso
        have := blk_magic hm j hj
        rw [← List.getElem?_set_ne (i := i) (j := 257 + j) (a := c) (by omega), e, zeros_get (by omega)] at this
        exact hn this.symm
      · exact q
      · exfalso
        have := blk_magic hm j hj
        rw [← List.getElem?_set_ne (i := i) (j := 257 + j) (a := c) (by omega), e, zeros_get (by omega)] at this
        exact hn this.symm
    have a := hj 0 (by omega) (by decide)
    have b := hj 1 (by omega) (by decide)
    omega
end Go.Proofs.Ytjddgmdbgajjpaa.Head

