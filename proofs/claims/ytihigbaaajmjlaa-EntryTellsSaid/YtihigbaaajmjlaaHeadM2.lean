/-
  A header's block by its parts, and what follows of it: no Go, and no statement, is proved here.
-/
import Derived.Test.YtihigbaaajmjlaaHeadGet
namespace Go.Proofs.Ytihigbaaajmjlaa.Head
open Go.RowKit Go.Proofs.Ytihigbaaajmjlaa.Base Go.Proofs.Ytihigbaaajmjlaa.NumM Go.Proofs.Ytihigbaaajmjlaa.Num

theorem lay_flat (l1 : List L) (l2 : List L) (n i : Nat) (x : L) (hi : l1.flatten.length = i) (hx : x.length ≤ n) : lay (l1 ++ zeros n :: l2).flatten i x = (l1 ++ pad n x :: l2).flatten := by
  have h := lay_seg l1.flatten (zeros n) l2.flatten x i hi (by rw [zeros_length]; exact hx)
  have e : x ++ (zeros n).drop x.length = pad n x := by
    unfold pad zeros
    rw [List.drop_replicate]
  rw [e] at h
  rw [List.flatten_append, List.flatten_cons, ← List.append_assoc, h, List.flatten_append, List.flatten_cons, ← List.append_assoc]
theorem sub_flat (l1 : List L) (B : L) (l2 : List L) (i n : Nat) (hi : l1.flatten.length = i) (hn : n ≤ B.length) : sub (l1 ++ B :: l2).flatten i n = B.take n := by
  subst hi
  unfold sub
  rw [List.flatten_append, List.drop_left, List.flatten_cons, List.take_append_of_le_length hn]
theorem pad_full {n : Nat} {x : L} (h : x.length = n) : pad n x = x := by
  unfold pad zeros
  rw [h, Nat.sub_self]
  simp
theorem pad_take {n : Nat} {x : L} : (pad n x).take x.length = x := by
  unfold pad
  rw [List.take_left]
theorem take_all {n : Nat} {x : L} (h : x.length = n) : x.take n = x := by rw [← h, List.take_length]

set_option linter.unusedSimpArgs false in
theorem flat_n (name link pre m u g s t : L) (ty : UInt8) (hn : name.length ≤ 100) (hk : link.length ≤ 100) (hm : m.length ≤ 8) (hu : u.length ≤ 8) (hg : g.length ≤ 8) (hs : s.length ≤ 12) (ht : t.length ≤ 12) (hp : pre.length ≤ 155) :
    layAll (zeros 512) [(0, name), (157, link), (345, pre), (100, m), (108, u), (116, g), (124, s), (136, t), (156, [ty]), (257, magic)] = [pad 100 name, pad 8 m, pad 8 u, pad 8 g, pad 12 s, pad 12 t, zeros 8, pad 1 [ty], pad 100 link, pad 8 magic, zeros 80, pad 155 pre, zeros 12].flatten := by
  have e0 : zeros 512 = [zeros 100, zeros 8, zeros 8, zeros 8, zeros 12, zeros 12, zeros 8, zeros 1, zeros 100, zeros 8, zeros 80, zeros 155, zeros 12].flatten := by decide +kernel
  rw [e0]
  clear e0
  have ht1 : ([ty] : L).length ≤ 1 := by simp
  have hmg : magic.length ≤ 8 := by decide
  have e1 := lay_flat [] [zeros 8, zeros 8, zeros 8, zeros 12, zeros 12, zeros 8, zeros 1, zeros 100, zeros 8, zeros 80, zeros 155, zeros 12] 100 0 name (by simp only [List.flatten_cons, List.flatten_nil, List.length_append, List.length_nil, zeros_length, pad_length, *]) (by first | assumption | decide | omega)
  have e2 := lay_flat [pad 100 name, zeros 8, zeros 8, zeros 8, zeros 12, zeros 12, zeros 8, zeros 1] [zeros 8, zeros 80, zeros 155, zeros 12] 100 157 link (by simp only [List.flatten_cons, List.flatten_nil, List.length_append, List.length_nil, zeros_length, pad_length, *]) (by first | assumption | decide | omega)
  have e3 := lay_flat [pad 100 name, zeros 8, zeros 8, zeros 8, zeros 12, zeros 12, zeros 8, zeros 1, pad 100 link, zeros 8, zeros 80] [zeros 12] 155 345 pre (by simp only [List.flatten_cons, List.flatten_nil, List.length_append, List.length_nil, zeros_length, pad_length, *]) (by first | assumption | decide | omega)
  have e4 := lay_flat [pad 100 name] [zeros 8, zeros 8, zeros 12, zeros 12, zeros 8, zeros 1, pad 100 link, zeros 8, zeros 80, pad 155 pre, zeros 12] 8 100 m (by simp only [List.flatten_cons, List.flatten_nil, List.length_append, List.length_nil, zeros_length, pad_length, *]) (by first | assumption | decide | omega)
  have e5 := lay_flat [pad 100 name, pad 8 m] [zeros 8, zeros 12, zeros 12, zeros 8, zeros 1, pad 100 link, zeros 8, zeros 80, pad 155 pre, zeros 12] 8 108 u (by simp only [List.flatten_cons, List.flatten_nil, List.length_append, List.length_nil, zeros_length, pad_length, *]) (by first | assumption | decide | omega)
  have e6 := lay_flat [pad 100 name, pad 8 m, pad 8 u] [zeros 12, zeros 12, zeros 8, zeros 1, pad 100 link, zeros 8, zeros 80, pad 155 pre, zeros 12] 8 116 g (by simp only [List.flatten_cons, List.flatten_nil, List.length_append, List.length_nil, zeros_length, pad_length, *]) (by first | assumption | decide | omega)
  have e7 := lay_flat [pad 100 name, pad 8 m, pad 8 u, pad 8 g] [zeros 12, zeros 8, zeros 1, pad 100 link, zeros 8, zeros 80, pad 155 pre, zeros 12] 12 124 s (by simp only [List.flatten_cons, List.flatten_nil, List.length_append, List.length_nil, zeros_length, pad_length, *]) (by first | assumption | decide | omega)
  have e8 := lay_flat [pad 100 name, pad 8 m, pad 8 u, pad 8 g, pad 12 s] [zeros 8, zeros 1, pad 100 link, zeros 8, zeros 80, pad 155 pre, zeros 12] 12 136 t (by simp only [List.flatten_cons, List.flatten_nil, List.length_append, List.length_nil, zeros_length, pad_length, *]) (by first | assumption | decide | omega)
  have e9 := lay_flat [pad 100 name, pad 8 m, pad 8 u, pad 8 g, pad 12 s, pad 12 t, zeros 8] [pad 100 link, zeros 8, zeros 80, pad 155 pre, zeros 12] 1 156 [ty] (by simp only [List.flatten_cons, List.flatten_nil, List.length_append, List.length_nil, zeros_length, pad_length, *]) (by first | assumption | decide | omega)
  have e10 := lay_flat [pad 100 name, pad 8 m, pad 8 u, pad 8 g, pad 12 s, pad 12 t, zeros 8, pad 1 [ty], pad 100 link] [zeros 80, pad 155 pre, zeros 12] 8 257 magic (by simp only [List.flatten_cons, List.flatten_nil, List.length_append, List.length_nil, zeros_length, pad_length, *]) (by first | assumption | decide | omega)
  simp only [List.cons_append, List.nil_append] at e1 e2 e3 e4 e5 e6 e7 e8 e9 e10
  simp only [layAll, List.foldl_cons, List.foldl_nil]
  rw [e1, e2, e3, e4, e5, e6, e7, e8, e9, e10]

set_option linter.unusedSimpArgs false in
theorem flat_m (name link off real m u g s t : L) (ty : UInt8) (hn : name.length ≤ 100) (hk : link.length ≤ 100) (hm : m.length ≤ 8) (hu : u.length ≤ 8) (hg : g.length ≤ 8) (hs : s.length ≤ 12) (ht : t.length ≤ 12) (ho : off.length ≤ 12) (hr : real.length ≤ 12) :
    layAll (zeros 512) [(0, name), (157, link), (100, m), (108, u), (116, g), (124, s), (136, t), (369, off), (483, real), (156, [ty]), (257, magic)] = [pad 100 name, pad 8 m, pad 8 u, pad 8 g, pad 12 s, pad 12 t, zeros 8, pad 1 [ty], pad 100 link, pad 8 magic, zeros 104, pad 12 off, zeros 102, pad 12 real, zeros 17].flatten := by
  have e0 : zeros 512 = [zeros 100, zeros 8, zeros 8, zeros 8, zeros 12, zeros 12, zeros 8, zeros 1, zeros 100, zeros 8, zeros 104, zeros 12, zeros 102, zeros 12, zeros 17].flatten := by decide +kernel
  rw [e0]
  clear e0
  have ht1 : ([ty] : L).length ≤ 1 := by simp
  have hmg : magic.length ≤ 8 := by decide
  have e1 := lay_flat [] [zeros 8, zeros 8, zeros 8, zeros 12, zeros 12, zeros 8, zeros 1, zeros 100, zeros 8, zeros 104, zeros 12, zeros 102, zeros 12, zeros 17] 100 0 name (by simp only [List.flatten_cons, List.flatten_nil, List.length_append, List.length_nil, zeros_length, pad_length, *]) (by first | assumption | decide | omega)
  have e2 := lay_flat [pad 100 name, zeros 8, zeros 8, zeros 8, zeros 12, zeros 12, zeros 8, zeros 1] [zeros 8, zeros 104, zeros 12, zeros 102, zeros 12, zeros 17] 100 157 link (by simp only [List.flatten_cons, List.flatten_nil, List.length_append, List.length_nil, zeros_length, pad_length, *]) (by first | assumption | decide | omega)
  have e3 := lay_flat [pad 100 name] [zeros 8, zeros 8, zeros 12, zeros 12, zeros 8, zeros 1, pad 100 link, zeros 8, zeros 104, zeros 12, zeros 102, zeros 12, zeros 17] 8 100 m (by simp only [List.flatten_cons, List.flatten_nil, List.length_append, List.length_nil, zeros_length, pad_length, *]) (by first | assumption | decide | omega)
  have e4 := lay_flat [pad 100 name, pad 8 m] [zeros 8, zeros 12, zeros 12, zeros 8, zeros 1, pad 100 link, zeros 8, zeros 104, zeros 12, zeros 102, zeros 12, zeros 17] 8 108 u (by simp only [List.flatten_cons, List.flatten_nil, List.length_append, List.length_nil, zeros_length, pad_length, *]) (by first | assumption | decide | omega)
  have e5 := lay_flat [pad 100 name, pad 8 m, pad 8 u] [zeros 12, zeros 12, zeros 8, zeros 1, pad 100 link, zeros 8, zeros 104, zeros 12, zeros 102, zeros 12, zeros 17] 8 116 g (by simp only [List.flatten_cons, List.flatten_nil, List.length_append, List.length_nil, zeros_length, pad_length, *]) (by first | assumption | decide | omega)
  have e6 := lay_flat [pad 100 name, pad 8 m, pad 8 u, pad 8 g] [zeros 12, zeros 8, zeros 1, pad 100 link, zeros 8, zeros 104, zeros 12, zeros 102, zeros 12, zeros 17] 12 124 s (by simp only [List.flatten_cons, List.flatten_nil, List.length_append, List.length_nil, zeros_length, pad_length, *]) (by first | assumption | decide | omega)
  have e7 := lay_flat [pad 100 name, pad 8 m, pad 8 u, pad 8 g, pad 12 s] [zeros 8, zeros 1, pad 100 link, zeros 8, zeros 104, zeros 12, zeros 102, zeros 12, zeros 17] 12 136 t (by simp only [List.flatten_cons, List.flatten_nil, List.length_append, List.length_nil, zeros_length, pad_length, *]) (by first | assumption | decide | omega)
  have e8 := lay_flat [pad 100 name, pad 8 m, pad 8 u, pad 8 g, pad 12 s, pad 12 t, zeros 8, zeros 1, pad 100 link, zeros 8, zeros 104] [zeros 102, zeros 12, zeros 17] 12 369 off (by simp only [List.flatten_cons, List.flatten_nil, List.length_append, List.length_nil, zeros_length, pad_length, *]) (by first | assumption | decide | omega)
  have e9 := lay_flat [pad 100 name, pad 8 m, pad 8 u, pad 8 g, pad 12 s, pad 12 t, zeros 8, zeros 1, pad 100 link, zeros 8, zeros 104, pad 12 off, zeros 102] [zeros 17] 12 483 real (by simp only [List.flatten_cons, List.flatten_nil, List.length_append, List.length_nil, zeros_length, pad_length, *]) (by first | assumption | decide | omega)
  have e10 := lay_flat [pad 100 name, pad 8 m, pad 8 u, pad 8 g, pad 12 s, pad 12 t, zeros 8] [pad 100 link, zeros 8, zeros 104, pad 12 off, zeros 102, pad 12 real, zeros 17] 1 156 [ty] (by simp only [List.flatten_cons, List.flatten_nil, List.length_append, List.length_nil, zeros_length, pad_length, *]) (by first | assumption | decide | omega)
  have e11 := lay_flat [pad 100 name, pad 8 m, pad 8 u, pad 8 g, pad 12 s, pad 12 t, zeros 8, pad 1 [ty], pad 100 link] [zeros 104, pad 12 off, zeros 102, pad 12 real, zeros 17] 8 257 magic (by simp only [List.flatten_cons, List.flatten_nil, List.length_append, List.length_nil, zeros_length, pad_length, *]) (by first | assumption | decide | omega)
  simp only [List.cons_append, List.nil_append] at e1 e2 e3 e4 e5 e6 e7 e8 e9 e10 e11
  simp only [layAll, List.foldl_cons, List.foldl_nil]
  rw [e1, e2, e3, e4, e5, e6, e7, e8, e9, e10, e11]

set_option linter.unusedSimpArgs false in
theorem rflat_n (name link pre m u g s t : L) (ty : UInt8) (hn : name.length ≤ 100) (hk : link.length ≤ 100) (hm : m.length ≤ 8) (hu : u.length ≤ 8) (hg : g.length ≤ 8) (hs : s.length ≤ 12) (ht : t.length ≤ 12) (hp : pre.length ≤ 155) :
    layAll (zeros 512) [(0, name), (100, m), (108, u), (116, g), (124, s), (136, t), (156, [ty]), (157, link), (257, magic), (345, pre)] = [pad 100 name, pad 8 m, pad 8 u, pad 8 g, pad 12 s, pad 12 t, zeros 8, pad 1 [ty], pad 100 link, pad 8 magic, zeros 80, pad 155 pre, zeros 12].flatten := by
  have e0 : zeros 512 = [zeros 100, zeros 8, zeros 8, zeros 8, zeros 12, zeros 12, zeros 8, zeros 1, zeros 100, zeros 8, zeros 80, zeros 155, zeros 12].flatten := by decide +kernel
  rw [e0]
  clear e0
  have ht1 : ([ty] : L).length ≤ 1 := by simp
  have hmg : magic.length ≤ 8 := by decide
  have e1 := lay_flat [] [zeros 8, zeros 8, zeros 8, zeros 12, zeros 12, zeros 8, zeros 1, zeros 100, zeros 8, zeros 80, zeros 155, zeros 12] 100 0 name (by simp only [List.flatten_cons, List.flatten_nil, List.length_append, List.length_nil, zeros_length, pad_length, *]) (by first | assumption | decide | omega)
  have e2 := lay_flat [pad 100 name] [zeros 8, zeros 8, zeros 12, zeros 12, zeros 8, zeros 1, zeros 100, zeros 8, zeros 80, zeros 155, zeros 12] 8 100 m (by simp only [List.flatten_cons, List.flatten_nil, List.length_append, List.length_nil, zeros_length, pad_length, *]) (by first | assumption | decide | omega)
  have e3 := lay_flat [pad 100 name, pad 8 m] [zeros 8, zeros 12, zeros 12, zeros 8, zeros 1, zeros 100, zeros 8, zeros 80, zeros 155, zeros 12] 8 108 u (by simp only [List.flatten_cons, List.flatten_nil, List.length_append, List.length_nil, zeros_length, pad_length, *]) (by first | assumption | decide | omega)
  have e4 := lay_flat [pad 100 name, pad 8 m, pad 8 u] [zeros 12, zeros 12, zeros 8, zeros 1, zeros 100, zeros 8, zeros 80, zeros 155, zeros 12] 8 116 g (by simp only [List.flatten_cons, List.flatten_nil, List.length_append, List.length_nil, zeros_length, pad_length, *]) (by first | assumption | decide | omega)
  have e5 := lay_flat [pad 100 name, pad 8 m, pad 8 u, pad 8 g] [zeros 12, zeros 8, zeros 1, zeros 100, zeros 8, zeros 80, zeros 155, zeros 12] 12 124 s (by simp only [List.flatten_cons, List.flatten_nil, List.length_append, List.length_nil, zeros_length, pad_length, *]) (by first | assumption | decide | omega)
  have e6 := lay_flat [pad 100 name, pad 8 m, pad 8 u, pad 8 g, pad 12 s] [zeros 8, zeros 1, zeros 100, zeros 8, zeros 80, zeros 155, zeros 12] 12 136 t (by simp only [List.flatten_cons, List.flatten_nil, List.length_append, List.length_nil, zeros_length, pad_length, *]) (by first | assumption | decide | omega)
  have e7 := lay_flat [pad 100 name, pad 8 m, pad 8 u, pad 8 g, pad 12 s, pad 12 t, zeros 8] [zeros 100, zeros 8, zeros 80, zeros 155, zeros 12] 1 156 [ty] (by simp only [List.flatten_cons, List.flatten_nil, List.length_append, List.length_nil, zeros_length, pad_length, *]) (by first | assumption | decide | omega)
  have e8 := lay_flat [pad 100 name, pad 8 m, pad 8 u, pad 8 g, pad 12 s, pad 12 t, zeros 8, pad 1 [ty]] [zeros 8, zeros 80, zeros 155, zeros 12] 100 157 link (by simp only [List.flatten_cons, List.flatten_nil, List.length_append, List.length_nil, zeros_length, pad_length, *]) (by first | assumption | decide | omega)
  have e9 := lay_flat [pad 100 name, pad 8 m, pad 8 u, pad 8 g, pad 12 s, pad 12 t, zeros 8, pad 1 [ty], pad 100 link] [zeros 80, zeros 155, zeros 12] 8 257 magic (by simp only [List.flatten_cons, List.flatten_nil, List.length_append, List.length_nil, zeros_length, pad_length, *]) (by first | assumption | decide | omega)
  have e10 := lay_flat [pad 100 name, pad 8 m, pad 8 u, pad 8 g, pad 12 s, pad 12 t, zeros 8, pad 1 [ty], pad 100 link, pad 8 magic, zeros 80] [zeros 12] 155 345 pre (by simp only [List.flatten_cons, List.flatten_nil, List.length_append, List.length_nil, zeros_length, pad_length, *]) (by first | assumption | decide | omega)
  simp only [List.cons_append, List.nil_append] at e1 e2 e3 e4 e5 e6 e7 e8 e9 e10
  simp only [layAll, List.foldl_cons, List.foldl_nil]
  rw [e1, e2, e3, e4, e5, e6, e7, e8, e9, e10]

set_option linter.unusedSimpArgs false in
theorem rflat_m (name link off real m u g s t : L) (ty : UInt8) (hn : name.length ≤ 100) (hk : link.length ≤ 100) (hm : m.length ≤ 8) (hu : u.length ≤ 8) (hg : g.length ≤ 8) (hs : s.length ≤ 12) (ht : t.length ≤ 12) (ho : off.length ≤ 12) (hr : real.length ≤ 12) :
    layAll (zeros 512) [(0, name), (100, m), (108, u), (116, g), (124, s), (136, t), (156, [ty]), (157, link), (257, magic), (369, off), (483, real)] = [pad 100 name, pad 8 m, pad 8 u, pad 8 g, pad 12 s, pad 12 t, zeros 8, pad 1 [ty], pad 100 link, pad 8 magic, zeros 104, pad 12 off, zeros 102, pad 12 real, zeros 17].flatten := by
  have e0 : zeros 512 = [zeros 100, zeros 8, zeros 8, zeros 8, zeros 12, zeros 12, zeros 8, zeros 1, zeros 100, zeros 8, zeros 104, zeros 12, zeros 102, zeros 12, zeros 17].flatten := by decide +kernel
  rw [e0]
  clear e0
  have ht1 : ([ty] : L).length ≤ 1 := by simp
  have hmg : magic.length ≤ 8 := by decide
  have e1 := lay_flat [] [zeros 8, zeros 8, zeros 8, zeros 12, zeros 12, zeros 8, zeros 1, zeros 100, zeros 8, zeros 104, zeros 12, zeros 102, zeros 12, zeros 17] 100 0 name (by simp only [List.flatten_cons, List.flatten_nil, List.length_append, List.length_nil, zeros_length, pad_length, *]) (by first | assumption | decide | omega)
  have e2 := lay_flat [pad 100 name] [zeros 8, zeros 8, zeros 12, zeros 12, zeros 8, zeros 1, zeros 100, zeros 8, zeros 104, zeros 12, zeros 102, zeros 12, zeros 17] 8 100 m (by simp only [List.flatten_cons, List.flatten_nil, List.length_append, List.length_nil, zeros_length, pad_length, *]) (by first | assumption | decide | omega)
  have e3 := lay_flat [pad 100 name, pad 8 m] [zeros 8, zeros 12, zeros 12, zeros 8, zeros 1, zeros 100, zeros 8, zeros 104, zeros 12, zeros 102, zeros 12, zeros 17] 8 108 u (by simp only [List.flatten_cons, List.flatten_nil, List.length_append, List.length_nil, zeros_length, pad_length, *]) (by first | assumption | decide | omega)
  have e4 := lay_flat [pad 100 name, pad 8 m, pad 8 u] [zeros 12, zeros 12, zeros 8, zeros 1, zeros 100, zeros 8, zeros 104, zeros 12, zeros 102, zeros 12, zeros 17] 8 116 g (by simp only [List.flatten_cons, List.flatten_nil, List.length_append, List.length_nil, zeros_length, pad_length, *]) (by first | assumption | decide | omega)
  have e5 := lay_flat [pad 100 name, pad 8 m, pad 8 u, pad 8 g] [zeros 12, zeros 8, zeros 1, zeros 100, zeros 8, zeros 104, zeros 12, zeros 102, zeros 12, zeros 17] 12 124 s (by simp only [List.flatten_cons, List.flatten_nil, List.length_append, List.length_nil, zeros_length, pad_length, *]) (by first | assumption | decide | omega)
  have e6 := lay_flat [pad 100 name, pad 8 m, pad 8 u, pad 8 g, pad 12 s] [zeros 8, zeros 1, zeros 100, zeros 8, zeros 104, zeros 12, zeros 102, zeros 12, zeros 17] 12 136 t (by simp only [List.flatten_cons, List.flatten_nil, List.length_append, List.length_nil, zeros_length, pad_length, *]) (by first | assumption | decide | omega)
  have e7 := lay_flat [pad 100 name, pad 8 m, pad 8 u, pad 8 g, pad 12 s, pad 12 t, zeros 8] [zeros 100, zeros 8, zeros 104, zeros 12, zeros 102, zeros 12, zeros 17] 1 156 [ty] (by simp only [List.flatten_cons, List.flatten_nil, List.length_append, List.length_nil, zeros_length, pad_length, *]) (by first | assumption | decide | omega)
  have e8 := lay_flat [pad 100 name, pad 8 m, pad 8 u, pad 8 g, pad 12 s, pad 12 t, zeros 8, pad 1 [ty]] [zeros 8, zeros 104, zeros 12, zeros 102, zeros 12, zeros 17] 100 157 link (by simp only [List.flatten_cons, List.flatten_nil, List.length_append, List.length_nil, zeros_length, pad_length, *]) (by first | assumption | decide | omega)
  have e9 := lay_flat [pad 100 name, pad 8 m, pad 8 u, pad 8 g, pad 12 s, pad 12 t, zeros 8, pad 1 [ty], pad 100 link] [zeros 104, zeros 12, zeros 102, zeros 12, zeros 17] 8 257 magic (by simp only [List.flatten_cons, List.flatten_nil, List.length_append, List.length_nil, zeros_length, pad_length, *]) (by first | assumption | decide | omega)
  have e10 := lay_flat [pad 100 name, pad 8 m, pad 8 u, pad 8 g, pad 12 s, pad 12 t, zeros 8, pad 1 [ty], pad 100 link, pad 8 magic, zeros 104] [zeros 102, zeros 12, zeros 17] 12 369 off (by simp only [List.flatten_cons, List.flatten_nil, List.length_append, List.length_nil, zeros_length, pad_length, *]) (by first | assumption | decide | omega)
  have e11 := lay_flat [pad 100 name, pad 8 m, pad 8 u, pad 8 g, pad 12 s, pad 12 t, zeros 8, pad 1 [ty], pad 100 link, pad 8 magic, zeros 104, pad 12 off, zeros 102] [zeros 17] 12 483 real (by simp only [List.flatten_cons, List.flatten_nil, List.length_append, List.length_nil, zeros_length, pad_length, *]) (by first | assumption | decide | omega)
  simp only [List.cons_append, List.nil_append] at e1 e2 e3 e4 e5 e6 e7 e8 e9 e10 e11
  simp only [layAll, List.foldl_cons, List.foldl_nil]
  rw [e1, e2, e3, e4, e5, e6, e7, e8, e9, e10, e11]

end Go.Proofs.Ytihigbaaajmjlaa.Head
