/-
  The document's own answers for package head: word, fits, lay, number, sign, upto; no statement is proved here.
  The document's own answers for package head: number, sign, May; no statement is proved here.
  The document's own answers for package head: what the block is, in the document's order; no statement is proved here.
-/
import Derived.Test.YtagkdodjffhlmaaHeadHlp
import Derived.Test.YtagkdodjffhlmaaHeadM3
namespace Go.Proofs.Ytagkdodjffhlmaa.Head
open Go.RowKit Go.Proofs.Ytagkdodjffhlmaa.Base Go.Proofs.Ytagkdodjffhlmaa.NumM Go.Proofs.Ytagkdodjffhlmaa.Num

theorem lay_take {b x : L} {k j : Nat} {c : UInt8} (hl : b.length = 512) (hx : k + x.length ≤ 512) (hc : x[j]? = some c) : lay b k (x.take (j + 1)) = (lay b k (x.take j)).set (k + j) c := by
  obtain ⟨hj, hcx⟩ := List.getElem?_eq_some_iff.1 hc
  unfold lay
  rw [List.length_take, List.length_take, Nat.min_eq_left (by omega), Nat.min_eq_left (by omega), List.take_add_one, hc]
  have hA : (b.take k ++ x.take j).length = k + j := by rw [List.length_append, List.length_take, List.length_take]; omega
  have hd : b.drop (k + j) = b[k + j]'(by omega) :: b.drop (k + j + 1) := List.drop_eq_getElem_cons (by omega)
  rw [List.set_append_right _ _ (by omega), hA, Nat.sub_self, hd, List.set_cons_zero]
  simp [List.append_assoc, Nat.add_assoc]
theorem lay_full (b x : L) (k : Nat) : lay b k (x.take x.length) = lay b k x := by rw [List.take_length]
theorem lay_zero (b : L) (k : Nat) : lay b k [] = b := by simp [lay]
theorem cell_grownR {w w1 : World} {a : Addr} {v : Value} {r : Option Nat} (h : w.grownBy w1 r) (hr : some a.block ≠ r) (hc : w.cell? a = some v) : w1.cell? a = some v := by
  have hlt := World.block_lt_of_cell? w _ hc
  unfold World.cell? at hc ⊢
  rwa [h.block _ hlt hr]
theorem grown_set {w w1 : World} {g : Nat} (h : w.grownBy w1 (some g)) (i : Nat) (u : Value) : w.grownBy (w1.setCell ⟨g, i, none⟩ u) (some g) :=
  ⟨h.os, h.tape, h.output, by simpa [World.setCell] using h.size, fun j hj hn => (Below.heap_setCell w1 ⟨g, i, none⟩ u j (fun e => hn (by rw [e]))).trans (h.block j hj hn)⟩
theorem bs_set (l : L) (i : Nat) (c : UInt8) : (bs l).toArray.setIfInBounds i (.int .u8 (c.toNat : Int)) = (bs (l.set i c)).toArray := by
  unfold bs
  simp [List.map_set]

end Go.Proofs.Ytagkdodjffhlmaa.Head

namespace Go.Proofs.Ytagkdodjffhlmaa.Head
open Go.RowKit Go.Proofs.Ytagkdodjffhlmaa.Base Go.Proofs.Ytagkdodjffhlmaa.NumM Go.Proofs.Ytagkdodjffhlmaa.Num

theorem own_lay {w : World} {lo : Nat} {t : TypeId} {v : Value} {x : L} (h : Base.Own w lo t v (bs x)) : ∃ A c, v = .slice A x.length c ∧ RdA w A c (bs x) ∧ ∀ a, A = some a → lo ≤ a.block := by
  obtain ⟨A, c, hv, ha⟩ := RdA.of h.rd
  refine ⟨A, c, by rw [hv, bs_length], ha, ?_⟩
  rintro a rfl
  subst hv
  exact (h.lt a.block rfl).1
theorem rd_lit2 (w : World) (e : TypeId) (u v : Value) : Rd (w.alloc (.cells #[u, v] e)) (w.heap.size + 1) (.slice (some ⟨w.heap.size, 0, none⟩) 2 2) [u, v] := by
  have h := (Own.of_blk (lo := w.heap.size) (cur := #[u, v]) (n := 2) (Blk.new w e #[u, v]) (Nat.le_refl _) rfl (by unfold maxLen; omega)).rd
  rwa [World.size_alloc] at h

/-- The same, in the document's order. -/
theorem may_of {h : Hd} (hn : h.name ≠ []) (h1 : okT h.name 100 = true) (h2 : okT h.link 100 = true) (h3 : okT h.pre 155 = true) (h4 : putOk h.mode 8 = true) (h5 : putOk h.uid 8 = true) (h6 : putOk h.gid 8 = true) (h7 : putOk h.size 12 = true) (h8 : putOk h.time 12 = true) :
    mayH h = (typs.contains h.ty && if h.ty = 77 then h.pre.isEmpty && (putOk h.off 12 && putOk h.real 12) else decide (h.off = 0) && decide (h.real = 0)) := by
  have hne : h.name.isEmpty = false := by cases hq : h.name <;> simp_all
  unfold mayH txtsOk numsOk elseZ
  rw [hne, h1, h2, h3, h4, h5, h6, h7, h8]
  by_cases ht : h.ty = 77
  · simp [ht, Bool.and_assoc]
  · simp [ht]
theorem may_no {h : Hd} (hx : h.name = [] ∨ okT h.name 100 = false ∨ okT h.link 100 = false ∨ okT h.pre 155 = false ∨ putOk h.mode 8 = false ∨ putOk h.uid 8 = false ∨ putOk h.gid 8 = false ∨ putOk h.size 12 = false ∨ putOk h.time 12 = false) : mayH h = false := by
  rw [Bool.eq_false_iff]
  intro hm
  have f := mayF hm
  rcases hx with e | e | e | e | e | e | e | e | e
  · exact f.nname e
  · rw [okT_iff.2 ⟨f.name, f.name0⟩] at e; cases e
  · rw [okT_iff.2 ⟨f.link, f.link0⟩] at e; cases e
  · rw [okT_iff.2 ⟨f.pre, f.pre0⟩] at e; cases e
  · rw [f.mode] at e; cases e
  · rw [f.uid] at e; cases e
  · rw [f.gid] at e; cases e
  · rw [f.size] at e; cases e
  · rw [f.time] at e; cases e
end Go.Proofs.Ytagkdodjffhlmaa.Head

namespace Go.Proofs.Ytagkdodjffhlmaa.Head
open Go.RowKit Go.Proofs.Ytagkdodjffhlmaa.Base Go.Proofs.Ytagkdodjffhlmaa.NumM Go.Proofs.Ytagkdodjffhlmaa.Num

section
variable {P : Program} (w : World)
theorem opwp_make {o : Oper} {a : Act} {Q : Exit → Act → World → Prop} {K : Act → World → Prop} (l c : Operand) (t : TypeId) (ho : o.op = .makeSlice t l c)
    (e : TypeId) (z : Value) (bytes : Nat) (ht : P.underlying t = some (.slice e)) (hi : (P.info? e).map (fun i => (i.zero, i.size, i.bytes)) = some (some z, 1, bytes)) (hzc : z.cells = #[z])
    (kl kc : IntKind) (C : Int) (n : Nat) (hl : a.eval l = .int kl C) (hc : a.eval c = .int kc C) (hC : C = (n : Int)) (b2 : bytes * n ≤ 281474976710656) (b3 : n ≤ maxLen)
    (h : ∀ w', Blk w' w.heap.size e (Array.replicate n z) → w'.heap.size = w.heap.size + 1 → w.grownBy w' none → K (a.put o.dst (.slice (some ⟨w.heap.size, 0, none⟩) n n)) w') : Oper.wp P o a w K Q := by
  obtain ⟨i, hi', hz, hsz, hby⟩ := info_parts hi
  subst hC
  have h63 : (n : Int) ≤ 9223372036854775807 := by simp only [maxLen] at b3; omega
  have hb : (i.bytes : Int) * (n : Int) ≤ 281474976710656 := by
    have h : ((i.bytes * n : Nat) : Int) ≤ 281474976710656 := by rw [hby]; omega
    rwa [Int.natCast_mul] at h
  have hr := run_make (P := P) w t e i z ht hi' hz kl kc n n (by omega) (Int.le_refl _) hb h63
  rw [Int.toNat_natCast, hsz, Nat.mul_one, hzc] at hr
  have hrow : madeCells #[z] n = Array.replicate n z := by
    apply Array.ext'
    rw [toList_madeCells_one, Array.toList_replicate]
  rw [hrow] at hr
  unfold Oper.wp execOp
  simp only [ho, hl, hc, Sem.run_bind, Sem.run_pure, hr, Result.andThen_ok]
  exact h _ (heap_alloc_new w.drew _) (by simp) ⟨rfl, rfl, rfl, by simp, fun k hk _ => Below.heap_alloc w.drew _ k hk⟩
theorem opwp_bytes {o : Oper} {a : Act} {Q : Exit → Act → World → Prop} {K : Act → World → Prop} (src dst : TypeId) (x : Operand) (ho : o.op = .convert src dst x)
    (e : TypeId) (hs : P.underlying src = some .string) (hd : P.underlying dst = some (.slice e)) (he : P.underlying e = some (.int .u8)) (s : ByteArray) (hx : a.eval x = .string s) (hm : s.size ≤ maxLen)
    (h : ∀ v' w', Base.Own w' w.heap.size e v' (bs s.data.toList) → w.grownBy w' none → K (a.put o.dst v') w') : Oper.wp P o a w K Q := by
  have hr := run_bytes_of_string (P := P) w src dst e s hs hd he
  unfold Oper.wp execOp
  simp only [ho, hx, Sem.run_bind, Sem.run_pure, hr, Result.andThen_ok]
  exact h _ _ (own_bytesRow w e s hm) ⟨rfl, rfl, rfl, by simp, fun k hk _ => Below.heap_alloc w.drew _ k hk⟩
end

theorem own_lay2 {w : World} {lo : Nat} {t : TypeId} {v : Value} {x : L} (h : Base.Own w lo t v (bs x)) : ∃ A c, v = .slice A x.length c ∧ RdA w A c (bs x) ∧ ∀ a, A = some a → lo ≤ a.block ∧ a.block < w.heap.size := by
  obtain ⟨A, c, hv, ha⟩ := RdA.of h.rd
  refine ⟨A, c, by rw [hv, bs_length], ha, ?_⟩
  rintro a rfl
  subst hv
  exact h.lt a.block rfl
theorem bs_zeros (n : Nat) : (bs (zeros n)).toArray = Array.replicate n (.int .u8 0) := by
  unfold bs zeros
  simp
theorem lay_one {b : L} {k : Nat} (c : UInt8) (h : k < b.length) : lay b k [c] = b.set k c := by
  unfold lay
  rw [List.set_eq_take_append_cons_drop, if_pos h]
  simp
theorem rd_magic2 (w : World) : RdA (w.alloc (.cells #[.int .u8 117, .int .u8 115, .int .u8 116, .int .u8 97, .int .u8 114, .int .u8 0, .int .u8 48, .int .u8 48] 5)) (some ⟨w.heap.size, 0, none⟩) 8 (bs magic) := by
  have h := (Own.of_blk (lo := w.heap.size) (cur := #[.int .u8 117, .int .u8 115, .int .u8 116, .int .u8 97, .int .u8 114, .int .u8 0, .int .u8 48, .int .u8 48]) (n := 8) (Blk.new w 5 _) (Nat.le_refl _) rfl (by unfold maxLen; omega)).rd
  exact h
theorem rraw_n {h : Hd} (hm : mayH h = true) (ht : h.ty ≠ 77) :
    lay (lay (lay (lay (lay (lay (lay (lay (lay (lay (zeros 512) 0 h.name) 100 (putV h.mode 8)) 108 (putV h.uid 8)) 116 (putV h.gid 8)) 124 (putV h.size 12)) 136 (putV h.time 12)) 156 [h.ty]) 157 h.link) 257 magic) 345 h.pre = rawH h := by
  have f := mayF hm
  rw [raw_sg hm]
  unfold sg tailS
  simp only [ht, if_false, List.cons_append, List.nil_append]
  exact rflat_n _ _ _ _ _ _ _ _ h.ty f.name f.link (Nat.le_of_eq (putV_length f.mode)) (Nat.le_of_eq (putV_length f.uid)) (Nat.le_of_eq (putV_length f.gid)) (Nat.le_of_eq (putV_length f.size)) (Nat.le_of_eq (putV_length f.time)) f.pre
theorem rraw_m {h : Hd} (hm : mayH h = true) (ht : h.ty = 77) :
    lay (lay (lay (lay (lay (lay (lay (lay (lay (lay (lay (zeros 512) 0 h.name) 100 (putV h.mode 8)) 108 (putV h.uid 8)) 116 (putV h.gid 8)) 124 (putV h.size 12)) 136 (putV h.time 12)) 156 [h.ty]) 157 h.link) 257 magic) 369 (putV h.off 12)) 483 (putV h.real 12) = rawH h := by
  have f := mayF hm
  obtain ⟨_, h6, h7⟩ := f.more ht
  rw [raw_sg hm]
  unfold sg tailS
  simp only [ht, if_true, List.cons_append, List.nil_append]
  exact rflat_m _ _ _ _ _ _ _ _ _ 77 f.name f.link (Nat.le_of_eq (putV_length f.mode)) (Nat.le_of_eq (putV_length f.uid)) (Nat.le_of_eq (putV_length f.gid)) (Nat.le_of_eq (putV_length f.size)) (Nat.le_of_eq (putV_length f.time)) (Nat.le_of_eq (putV_length h6)) (Nat.le_of_eq (putV_length h7))
theorem magic_len : magic.length = 8 := rfl
theorem magic_room : 257 + magic.length ≤ 512 := by decide
theorem stp_none {w w1 : World} (h : w.grownBy w1 none) : Stp w w1 := ⟨h.os, h.tape, h.output, h.size, fun j hj => h.block j hj (by simp)⟩
end Go.Proofs.Ytagkdodjffhlmaa.Head

