/-
  Strings over lists of bytes at this program's numbers: pieces, sums, bytes; make and copy over any program: no statement is proved here.
-/
import Derived.Test.YtihigbaaajmjlaaProg
import Derived.Test.YtihigbaaajmjlaaLists
import Derived.OwnWalkIn
import Derived.WalkKit
namespace Go.Proofs.Ytihigbaaajmjlaa.Str
open Go.RowKit Go.Proofs.Ytihigbaaajmjlaa.Base

theorem ba_eq {s : ByteArray} {l : List UInt8} (h : s.data.toList = l) : s = ⟨l.toArray⟩ := by
  obtain ⟨⟨d⟩⟩ := s
  simp only at h
  subst h
  rfl
theorem ba_size (s : ByteArray) : s.data.toList.length = s.size := by rw [Array.length_toList]; rfl
theorem str_form (s : ByteArray) (h : s.size ≤ maxLen) : ∃ l : List UInt8, s = ⟨l.toArray⟩ ∧ l.length ≤ 9223372036854775807 :=
  ⟨s.data.toList, ba_eq rfl, by rw [ba_size]; unfold maxLen at h; exact h⟩
theorem extract_take (s : ByteArray) (k : Nat) : (s.extract 0 k).data.toList = s.data.toList.take k := by
  simp [ByteArray.data_extract]
theorem extract_drop (s : ByteArray) (k : Nat) : (s.extract k s.size).data.toList = s.data.toList.drop k := by
  rw [ByteArray.data_extract, Array.toList_extract, List.extract_eq_take_drop, List.take_of_length_le]
  rw [List.length_drop, ba_size]
  exact Nat.le_refl _
theorem cut_h (p : List UInt8) (k : Nat) (h : k ≤ p.length) (w : World) : (Instr.slice 9 (.string ⟨p.toArray⟩) none (some (.int .i64 (k : Int))) none).run Try.prog w = .ok (.string ⟨(p.take k).toArray⟩) w := by
  rw [run_slice_string_h (P := Try.prog) w 9 _ Try.underlying9 .i64 k (by omega) (by show (k : Int) ≤ (p.toArray.size : Int); simp; omega)]
  have e := ba_eq (extract_take ⟨p.toArray⟩ k)
  rw [Int.toNat_natCast, e]
theorem cut_l (p : List UInt8) (k : Nat) (h : k ≤ p.length) (w : World) : (Instr.slice 9 (.string ⟨p.toArray⟩) (some (.int .i64 (k : Int))) none none).run Try.prog w = .ok (.string ⟨(p.drop k).toArray⟩) w := by
  rw [run_slice_string_l (P := Try.prog) w 9 _ Try.underlying9 .i64 k (by omega) (by show (k : Int) ≤ (p.toArray.size : Int); simp; omega)]
  have e := ba_eq (extract_drop ⟨p.toArray⟩ k)
  rw [Int.toNat_natCast, e]
theorem add_ll (a b : List UInt8) (h : a.length + b.length ≤ 9223372036854775807) (w : World) : (Op.stringOp .add ⟨a.toArray⟩ ⟨b.toArray⟩).run Try.prog w = .ok (.string ⟨(a ++ b).toArray⟩) w := by
  rw [run_string_add_sum (P := Try.prog) w _ _ (by show a.toArray.size + b.toArray.size ≤ _; simpa using h)]
  have e : (⟨a.toArray⟩ ++ ⟨b.toArray⟩ : ByteArray) = ⟨(a ++ b).toArray⟩ := ba_eq (by rw [ByteArray.data_append]; simp)
  rw [e]
theorem idx_l (p : List UInt8) (i : Int) (c : UInt8) (h0 : 0 ≤ i) (h : p[i.toNat]? = some c) (w : World) : (Instr.index 9 (.string ⟨p.toArray⟩) (.int .i64 i)).run Try.prog w = .ok (.int .u8 (c.toNat : Int)) w := by
  obtain ⟨hl, hc⟩ := List.getElem?_eq_some_iff.1 h
  rw [run_index_string (P := Try.prog) w 9 _ .i64 i Try.underlying9, dif_pos ⟨h0, by show i < (p.toArray.size : Int); simp; omega⟩]
  rw [← hc]
  rfl

/-! ### make and copy, inside a fence -/
section
variable {P : Program} (w : World)
theorem run_make_blk (t e : TypeId) (z : Value) (bytes : Nat) (ht : P.underlying t = some (.slice e)) (hi : (P.info? e).map (fun i => (i.zero, i.size, i.bytes)) = some (some z, 1, bytes)) (hzc : z.cells = #[z])
    (kl kc : IntKind) (n : Nat) (b2 : bytes * n ≤ 281474976710656) (b3 : n ≤ maxLen) :
    (Instr.makeSlice t (.int kl (n : Int)) (.int kc (n : Int))).run P w = .ok (.slice (some ⟨w.heap.size, 0, none⟩) n n) (w.alloc (.cells (Array.replicate n z) e)) := by
  obtain ⟨i, hi', hz, hsz, hby⟩ := info_parts hi
  have h63 : (n : Int) ≤ 9223372036854775807 := by simp only [maxLen] at b3; omega
  have hb : (i.bytes : Int) * (n : Int) ≤ 281474976710656 := by
    have h : ((i.bytes * n : Nat) : Int) ≤ 281474976710656 := by rw [hby]; omega
    rwa [Int.natCast_mul] at h
  have hr := run_make (P := P) w t e i z ht hi' hz kl kc n n (by omega) (Int.le_refl _) hb h63
  rw [Int.toNat_natCast, hsz, Nat.mul_one, hzc] at hr
  rw [hr]
  have hrow : madeCells #[z] n = Array.replicate n z := by
    apply Array.ext'
    rw [toList_madeCells_one, Array.toList_replicate]
  rw [hrow]

/-- copy(dst, s): as many bytes as go in. -/
theorem run_copy_str (dT sT ty elem : TypeId) (g n cap : Nat) (t : TypeId) (cur : Array Value) (s : List UInt8) (hu : P.underlying dT = some (.slice elem)) (hs : (P.info? elem).map (·.size) = some 1)
    (hb : Blk w g t cur) (hn : n ≤ cur.size) :
    ∃ w', (Builtin.copy_ #[dT, sT] ty #[.slice (some ⟨g, 0, none⟩) n cap, .string ⟨s.toArray⟩]).run P w = .ok (.int .i64 (min s.length n : Nat)) w' ∧ Blk w' g t (bs (s.take n) ++ cur.toList.drop (min s.length n)).toArray ∧ w.grownBy w' (some g) := by
  have hlen : (bs (s.take n)).length = min s.length n := by rw [bs_length, List.length_take, Nat.min_comm]
  have hst := run_storeCells_free P g 0 t (0, 0) (bs (s.take n)) 0 cur w hb (.inl rfl) (by rw [hlen]; omega) (bs_one _)
  simp only [Nat.zero_add, List.take_zero, List.nil_append, hlen] at hst
  refine ⟨_, ?_, setRow_heap w g cur _ t _ hb, ⟨rfl, rfl, rfl, by simp [World.setRow], fun k _ hk => setRow_other w g k _ (fun e => hk (by rw [e]))⟩⟩
  have hsz : (ByteArray.mk s.toArray).size = s.length := by simp [ByteArray.size]
  have htk : List.take (min s.length n) (List.map (fun b : UInt8 => Value.int IntKind.u8 (b.toNat : Int)) s) = bs (s.take n) := by
    rw [← List.map_take]
    unfold bs
    congr 1
    rw [List.take_eq_take_iff]
    omega
  cases hq : P.info? elem with
  | none => simp [hq] at hs
  | some i =>
    simp [Builtin.copy_, run_underlying hu, Builtin.lenOf, Builtin.firstCells, sizeOf, typeInfo, hq, hsz]
    rw [show s.length.min n = min s.length n from rfl, htk, hst]
    rfl
end

section
variable {F : Fence} {n : Nat} {P : Program} (w : World) {ops : Array Oper} {rest : List Oper} {o : Oper} {a : Act} {Q : Exit → Act → World → Prop}
theorem wpListIn_make_blk (hg : o.guard = none) (l c : Operand) (t : TypeId) (hop : o.op = Op.makeSlice t l c)
    (e : TypeId) (z : Value) (bytes : Nat) (ht : P.underlying t = some (.slice e)) (hi : (P.info? e).map (fun i => (i.zero, i.size, i.bytes)) = some (some z, 1, bytes)) (hzc : z.cells = #[z])
    (kl kc : IntKind) (C : Int) (m : Nat) (hl : a.eval l = .int kl C) (hc : a.eval c = .int kc C) (hC : C = (m : Int)) (b2 : bytes * m ≤ 281474976710656) (b3 : m ≤ maxLen)
    (hK : wpListIn F n P ops Q rest (a.put o.dst (.slice (some ⟨w.heap.size, 0, none⟩) m m)) (w.alloc (.cells (Array.replicate m z) e))) : wpListIn F n P ops Q (o :: rest) a w := by
  refine wpListIn_plain hg fun K hK' => ?_
  subst hC
  have hrun := run_make_blk (P := P) w t e z bytes ht hi hzc kl kc m b2 b3
  unfold Oper.wpIn
  refine ⟨?_, ?_⟩
  · simp [Oper.about, hop]
  · rw [Oper.semAt_plain F _ _ (by rw [hop]; intro c hc'; cases hc')]
    simp only [execOp, hop, hl, hc, hrun, Sem.run_bind, Sem.run_pure, Result.andThen_ok]
    exact hK' _ _ hK

theorem wpListIn_copy_str (hg : o.guard = none) (d x : Operand) (dT sT : TypeId) (hop : o.op = .call { callee := .builtin .copy, args := #[d, x], argTypes := #[dT, sT] })
    (elem : TypeId) (hu : P.underlying dT = some (.slice elem)) (hs : (P.info? elem).map (·.size) = some 1) (g m cap : Nat) (t : TypeId) (cur : Array Value) (s : List UInt8)
    (hd : a.eval d = .slice (some ⟨g, 0, none⟩) m cap) (hx : a.eval x = .string ⟨s.toArray⟩) (hb : Blk w g t cur) (hn : m ≤ cur.size)
    (hK : ∀ w', Blk w' g t (bs (s.take m) ++ cur.toList.drop (min s.length m)).toArray → w.grownBy w' (some g) → wpListIn F n P ops Q rest (a.put o.dst (.int .i64 (min s.length m : Nat))) w') : wpListIn F n P ops Q (o :: rest) a w := by
  refine wpListIn_plain hg fun K hK' => ?_
  obtain ⟨w', hrun, r1, r2⟩ := run_copy_str (P := P) w dT sT o.type elem g m cap t cur s hu hs hb hn
  unfold Oper.wpIn
  refine ⟨?_, ?_⟩
  · simp [Oper.about, hop, resolve, Target.leads, Sem.run_pure]
  · rw [Oper.semAt_plain F _ _ (by rw [hop]; intro c hc'; cases hc')]
    simp [execOp, hop, resolve, invoke, builtin, hd, hx, hrun, Result.andThen]
    exact hK' _ _ (hK w' r1 r2)
end
end Go.Proofs.Ytihigbaaajmjlaa.Str
