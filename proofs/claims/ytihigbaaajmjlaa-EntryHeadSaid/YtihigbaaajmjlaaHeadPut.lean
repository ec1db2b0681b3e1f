/-
  Contracts of package head: bytes written into a block: no statement is proved here.
-/
import Derived.Test.YtihigbaaajmjlaaHeadT
import Derived.Test.YtihigbaaajmjlaaHeadM
import Derived.Laws.CopyRow
import Derived.Laws.IdiomCopy
namespace Go.Proofs.Ytihigbaaajmjlaa.Head
open Go.RowKit Go.Proofs.Ytihigbaaajmjlaa.Base

section
variable {P : Program} (w : World)
theorem run_copy_rd (dT sT ty elem : TypeId) (g o n cap : Nat) (t : TypeId) (cur : Array Value) (B : Nat) (v : Value) (xs : List Value) (hu : P.underlying dT = some (.slice elem)) (hs : (P.info? elem).map (·.size) = some 1)
    (hb : Blk w g t cur) (hv : Rd w B v xs) (h1 : ∀ u ∈ xs, u.oneCell' = true) (hfit : o + xs.length ≤ cur.size) (hn : xs.length ≤ n) :
    ∃ w', (Builtin.copy_ #[dT, sT] ty #[.slice (some ⟨g, o, none⟩) n cap, v]).run P w = .ok (.int .i64 xs.length) w' ∧ Blk w' g t (cur.toList.take o ++ xs ++ cur.toList.drop (o + xs.length)).toArray ∧ w.grownBy w' (some g) := by
  obtain ⟨A, c, rfl, hc, hr⟩ := hv
  by_cases he : xs = []
  · subst he
    refine ⟨w, run_copy_none (P := P) w dT sT ty elem (some ⟨g, o, none⟩) A n cap 0 c hu hs (by simp), ?_, World.grownBy.refl w _⟩
    simpa using hb
  · obtain ⟨b, p, rfl, _, hcell⟩ := hr he
    have hrun := run_copy_row (P := P) w dT sT ty elem g o n cap ⟨b, p, none⟩ xs.length c cur t xs hu hs hb (by simp only [Nat.min_def]; split <;> omega) (fun j u hj => by rw [Addr.add_lit]; exact hcell j u hj) hfit h1
    exact ⟨_, hrun, setRow_heap w g cur _ t _ hb, ⟨rfl, rfl, rfl, by simp [World.setRow], fun k _ hk => setRow_other w g k _ (fun e => hk (by rw [e]))⟩⟩

theorem wpList_copy_rd {ops : Array Oper} {rest : List Oper} {o : Oper} {a : Act} {Q : Exit → Act → World → Prop} (hgd : o.guard = none) (d x : Operand) (dT sT : TypeId) (ho : o.op = .call { callee := .builtin .copy, args := #[d, x], argTypes := #[dT, sT] })
    (elem : TypeId) (hu : P.underlying dT = some (.slice elem)) (hs : (P.info? elem).map (·.size) = some 1) (g p n cap : Nat) (t : TypeId) (cur : Array Value) (B : Nat) (v : Value) (xs : List Value)
    (hd : a.eval d = .slice (some ⟨g, p, none⟩) n cap) (hx : a.eval x = v) (hb : Blk w g t cur) (hv : Rd w B v xs) (h1 : ∀ u ∈ xs, u.oneCell' = true) (hfit : p + xs.length ≤ cur.size) (hn : xs.length ≤ n)
    (h : ∀ w', Blk w' g t (cur.toList.take p ++ xs ++ cur.toList.drop (p + xs.length)).toArray → w.grownBy w' (some g) → wpList P ops Q rest (a.put o.dst (.int .i64 xs.length)) w') : wpList P ops Q (o :: rest) a w := by
  refine wpList_plain hgd fun K hK => ?_
  obtain ⟨w', hr, h3, h4⟩ := run_copy_rd (P := P) w dT sT o.type elem g p n cap t cur B v xs hu hs hb hv h1 hfit hn
  unfold Oper.wp execOp
  simp only [ho, resolve, invoke, builtin, Sem.run_bind, Sem.run_pure, Result.andThen_ok, List.map_toArray, List.map_cons, List.map_nil, hd, hx, hr]
  exact hK _ _ (h w' h3 h4)
end

theorem lay_cells (b x : List UInt8) (i : Nat) : ((bs b).toArray.toList.take i ++ bs x ++ (bs b).toArray.toList.drop (i + (bs x).length)).toArray = (bs (lay b i x)).toArray := by
  simp [lay, bs, List.map_take, List.map_drop]

theorem raw_len : Try.prog.arrayLen 88 = 512 := by kernel_rfl
theorem raw_arr : Try.prog.underlying 88 = some (.array (Try.prog.arrayLen 88) (Try.prog.elem 88)) := by kernel_rfl
theorem raw_size (w : World) : (sizeOf (Try.prog.elem 88)).run Try.prog w = .ok 1 w := by
  have h : Try.prog.elem 88 = 5 := by kernel_rfl
  have hi : (Try.prog.info? 5).map (·.size) = some 1 := by kernel_rfl
  rw [h]
  cases hq : Try.prog.info? 5 with
  | none => simp [hq] at hi
  | some i =>
    have : i.size = 1 := by simpa [hq] using hi
    simp [sizeOf, typeInfo, hq, this]
theorem slice_l (g k : Nat) (hk : k < 512) (w : World) : (Instr.sliceAt 88 (.pointer (some ⟨g, 0, none⟩)) (some (.int .i64 (k : Int))) none none).run Try.prog w = .ok (.slice (some ⟨g, k, none⟩) (512 - k) (512 - k)) w := by
  rw [run_sliceAt_array_l (P := Try.prog) w 88 _ raw_arr .i64 (k : Int) (by omega) (by rw [raw_len]; omega), raw_size, raw_len]
  simp only [Result.andThen_ok, slicedAt, Int.toNat_natCast, Nat.mul_one, Addr.add_lit, Nat.zero_add]
  rw [if_neg (by omega)]
theorem slice_all (g : Nat) (w : World) : (Instr.sliceAt 88 (.pointer (some ⟨g, 0, none⟩)) none none none).run Try.prog w = .ok (.slice (some ⟨g, 0, none⟩) 512 512) w := by
  rw [run_sliceAt_array_all (P := Try.prog) w 88 _ raw_arr, raw_size, raw_len]
  simp [Result.andThen_ok, slicedAt, Addr.add_lit]

set_option maxRecDepth 100000 in
/-- bytes from a place on. -/
theorem put_any (g k : Nat) (b x : List UInt8) (v : Value) (B : Nat) (w : World) (hb : Blk w g 90 (bs b).toArray) (hl : b.length = 512) (hk : k < 512) (hx : k + x.length ≤ 512) (hv : Rd w B v (bs x)) :
    Calls Try.prog 60 #[.pointer (some ⟨g, 0, none⟩), .int .i64 (k : Int), v] w fun e w' => e = .returned (.tuple #[]) ∧ Blk w' g 90 (bs (lay b k x)).toArray ∧ w.grownBy w' (some g) := by
  have hsl := slice_l g k hk
  obtain ⟨w', hrun, h1, h2⟩ := run_copy_rd (P := Try.prog) w 39 39 3 5 g k (512 - k) (512 - k) _ _ B v (bs x) Try.underlying39 (by kernel_rfl) hb hv (bs_one _) (by simp [bs_length]; omega) (by rw [bs_length]; omega)
  rw [lay_cells] at h1
  have H1 := Lib.hid h1
  have H2 := Lib.hid h2
  clear h1 h2 hb hv
  go_enter Try.func60, Try.ntmps60
  go_wp2_with fail
  go_end0
  exact ⟨rfl, H1.out, H2.out⟩
end Go.Proofs.Ytihigbaaajmjlaa.Head
