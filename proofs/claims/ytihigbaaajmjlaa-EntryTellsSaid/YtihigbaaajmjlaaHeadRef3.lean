/-
  The document's own answers for package head: what the block is, in the document's order; no statement is proved here.
-/
import Derived.Test.YtihigbaaajmjlaaHeadRef2
import Derived.Test.YtihigbaaajmjlaaHeadM3
namespace Go.Proofs.Ytihigbaaajmjlaa.Head
open Go.RowKit Go.Proofs.Ytihigbaaajmjlaa.Base Go.Proofs.Ytihigbaaajmjlaa.NumM Go.Proofs.Ytihigbaaajmjlaa.Num

section
variable {P : Program} (w : World)
theorem opwp_make {o : Oper} {a : Act} {Q : Exit → Act → World → Prop} {K : Act → World → Prop} (l c : Operand) (t : TypeId) (ho : o.op = .makeSlice t l c)
    (e : TypeId) (z : Value) (bytes : Nat) (ht : P.underlying t = some (.slice e)) (hi : (P.info? e).map (fun i => (i.zero, i.size, i.bytes)) = some (some z, 1, bytes)) (hzc : z.cells = #[z])
    (kl kc : IntKind) (C : Int) (n : Nat) (hl : a.eval l = .int kl C) (hc : a.eval c = .int kc C) (hC : C = (n : Int)) (b2 : bytes * n ≤ 281474976710656) (b3 : n ≤ maxLen)
    (h : ∀ w', Blk w' w.heap.size e (Array.replicate n z) → w'.heap.size = w.heap.size + 1 → w.grownBy w' none → K (a.put o.dst (.slice (some ⟨w.heap.size, 0, none⟩) n n)) w') : Oper.wp P o a w K Q := by
  obtain ⟨i, hi', hz, hsz, hby⟩ := info_parts hi
  subst hC
  have h63 : (n : Int) ≤ 9223372036854775807 := by simp only [maxLen] at b3; omega
  have hb : (i.bytes : Int) * (n : Int) ≤ 281474976710656 := by
    have h : ((i.bytes * n : Nat) : Int) ≤ 281474976710656 := by rw [hby]; omega
    rwa [Int.natCast_mul] at h
  have hr := run_make (P := P) w t e i z ht hi' hz kl kc n n (by omega) (Int.le_refl _) hb h63
  rw [Int.toNat_natCast, hsz, Nat.mul_one, hzc] at hr
  have hrow : madeCells #[z] n = Array.replicate n z := by
    apply Array.ext'
    rw [toList_madeCells_one, Array.toList_replicate]
  rw [hrow] at hr
  unfold Oper.wp execOp
  simp only [ho, hl, hc, Sem.run_bind, Sem.run_pure, hr, Result.andThen_ok]
  exact h _ (heap_alloc_new w.drew _) (by simp) ⟨rfl, rfl, rfl, by simp, fun k hk _ => Below.heap_alloc w.drew _ k hk⟩
theorem opwp_bytes {o : Oper} {a : Act} {Q : Exit → Act → World → Prop} {K : Act → World → Prop} (src dst : TypeId) (x : Operand) (ho : o.op = .convert src dst x)
    (e : TypeId) (hs : P.underlying src = some .string) (hd : P.underlying dst = some (.slice e)) (he : P.underlying e = some (.int .u8)) (s : ByteArray) (hx : a.eval x = .string s) (hm : s.size ≤ maxLen)
    (h : ∀ v' w', Base.Own w' w.heap.size e v' (bs s.data.toList) → w.grownBy w' none → K (a.put o.dst v') w') : Oper.wp P o a w K Q := by
  have hr := run_bytes_of_string (P := P) w src dst e s hs hd he
  unfold Oper.wp execOp
  simp only [ho, hx, Sem.run_bind, Sem.run_pure, hr, Result.andThen_ok]
  exact h _ _ (own_bytesRow w e s hm) ⟨rfl, rfl, rfl, by simp, fun k hk _ => Below.heap_alloc w.drew _ k hk⟩
end

theorem own_lay2 {w : World} {lo : Nat} {t : TypeId} {v : Value} {x : L} (h : Base.Own w lo t v (bs x)) : ∃ A c, v = .slice A x.length c ∧ RdA w A c (bs x) ∧ ∀ a, A = some a → lo ≤ a.block ∧ a.block < w.heap.size := by
  obtain ⟨A, c, hv, ha⟩ := RdA.of h.rd
  refine ⟨A, c, by rw [hv, bs_length], ha, ?_⟩
  rintro a rfl
  subst hv
  exact h.lt a.block rfl
theorem bs_zeros (n : Nat) : (bs (zeros n)).toArray = Array.replicate n (.int .u8 0) := by
  unfold bs zeros
  simp
theorem lay_one {b : L} {k : Nat} (c : UInt8) (h : k < b.length) : lay b k [c] = b.set k c := by
  unfold lay
  rw [List.set_eq_take_append_cons_drop, if_pos h]
  simp
theorem rd_magic2 (w : World) : RdA (w.alloc (.cells #[.int .u8 117, .int .u8 115, .int .u8 116, .int .u8 97, .int .u8 114, .int .u8 0, .int .u8 48, .int .u8 48] 5)) (some ⟨w.heap.size, 0, none⟩) 8 (bs magic) := by
  have h := (Own.of_blk (lo := w.heap.size) (cur := #[.int .u8 117, .int .u8 115, .int .u8 116, .int .u8 97, .int .u8 114, .int .u8 0, .int .u8 48, .int .u8 48]) (n := 8) (Blk.new w 5 _) (Nat.le_refl _) rfl (by unfold maxLen; omega)).rd
  exact h
theorem rsum_i (l : L) (n : Nat) (hl : l.length = n) (A : Option Addr) (c : Nat) (w : World) (ha : RdA w A c (bs l)) :
    Calls Try.prog 70 #[.slice A n c] w fun e w' => e = .returned (.int .i64 (sumI l)) ∧ Stp w w' := by
  subst hl
  exact rsum_s l A c w ha

theorem rraw_n {h : Hd} (hm : mayH h = true) (ht : h.ty ≠ 77) :
    lay (lay (lay (lay (lay (lay (lay (lay (lay (lay (zeros 512) 0 h.name) 100 (putV h.mode 8)) 108 (putV h.uid 8)) 116 (putV h.gid 8)) 124 (putV h.size 12)) 136 (putV h.time 12)) 156 [h.ty]) 157 h.link) 257 magic) 345 h.pre = rawH h := by
  have f := mayF hm
  rw [raw_sg hm]
  unfold sg tailS
  simp only [ht, if_false, List.cons_append, List.nil_append]
  exact rflat_n _ _ _ _ _ _ _ _ h.ty f.name f.link (Nat.le_of_eq (putV_length f.mode)) (Nat.le_of_eq (putV_length f.uid)) (Nat.le_of_eq (putV_length f.gid)) (Nat.le_of_eq (putV_length f.size)) (Nat.le_of_eq (putV_length f.time)) f.pre
theorem rraw_m {h : Hd} (hm : mayH h = true) (ht : h.ty = 77) :
    lay (lay (lay (lay (lay (lay (lay (lay (lay (lay (lay (zeros 512) 0 h.name) 100 (putV h.mode 8)) 108 (putV h.uid 8)) 116 (putV h.gid 8)) 124 (putV h.size 12)) 136 (putV h.time 12)) 156 [h.ty]) 157 h.link) 257 magic) 369 (putV h.off 12)) 483 (putV h.real 12) = rawH h := by
  have f := mayF hm
  obtain ⟨_, h6, h7⟩ := f.more ht
  rw [raw_sg hm]
  unfold sg tailS
  simp only [ht, if_true, List.cons_append, List.nil_append]
  exact rflat_m _ _ _ _ _ _ _ _ _ 77 f.name f.link (Nat.le_of_eq (putV_length f.mode)) (Nat.le_of_eq (putV_length f.uid)) (Nat.le_of_eq (putV_length f.gid)) (Nat.le_of_eq (putV_length f.size)) (Nat.le_of_eq (putV_length f.time)) (Nat.le_of_eq (putV_length h6)) (Nat.le_of_eq (putV_length h7))
end Go.Proofs.Ytihigbaaajmjlaa.Head
