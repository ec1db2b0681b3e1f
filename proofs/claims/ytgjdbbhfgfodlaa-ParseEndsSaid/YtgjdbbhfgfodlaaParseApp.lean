/-
  append of rows of what is told, as an operation and as a step of a region that draws its order: no statement is proved here.
-/
import Derived.Test.YtgjdbbhfgfodlaaEvs
import Derived.Test.YtgjdbbhfgfodlaaProg
import Derived.Deep.RegionWith
import Derived.Deep.AppendLies
import Derived.Deep.RegionLaw
namespace Go.Proofs.Ytgjdbbhfgfodlaa.Parse
open Go.RowKit Go.Proofs.Ytgjdbbhfgfodlaa.Base Go.Proofs.Ytgjdbbhfgfodlaa.Node

/-- A row of what is told, the call's own. -/
def RowE (w : World) (lo : Nat) (v : Value) (xs : List Evt) : Prop := w.ownsRow lo 80 10 v xs.length (etc xs)
theorem RowE.nil (w : World) (lo : Nat) : RowE w lo (.slice none 0 0) [] := World.ownsRow_nil _ _ _ _
theorem RowE.keep {w w' : World} {lo : Nat} {v : Value} {xs : List Evt} (h : RowE w lo v xs) (hs : Stp w w') : RowE w' lo v xs := row_keep h hs
theorem RowE.stp {w0 w w' : World} {lo : Nat} {v : Value} {xs : List Evt} (h : RowE w lo v xs) (h0 : Stp w0 w) (hlo : w0.heap.size ≤ lo) (hg : w.grownBy w' v.ownBlock) : Stp w0 w' := row_stp h h0 hlo hg
theorem RowE.rd {w : World} {lo : Nat} {v : Value} {xs : List Evt} (h : RowE w lo v xs) : ∃ A cap, v = .slice A xs.length cap ∧ RdE w A cap xs := RdE.of_row h

theorem ev_info : (Try.prog.info? 80).map (fun i => (i.zero, i.size, i.bytes)) = some (some (evv ⟨0, zeroN, []⟩), 10, 112) := by kernel_rfl
theorem run_app_evs (xs ys : List Evt) (v : Value) (A : Option Addr) (c m : Nat) (hm : ys.length = m) (ty : TypeId) (base : Nat) (w : World) (h : RowE w base v xs) (ha : RdE w A c ys) (hl : xs.length + ys.length ≤ 1000000) (hbase : base ≤ w.heap.size) :
    ∃ v' w', (Builtin.append_ #[33, 33] ty #[v, .slice A m c]).run Try.prog w = .ok v' w' ∧ RowE w' base v' (xs ++ ys) ∧ w.grownBy w' v.ownBlock := by
  subst hm
  obtain ⟨i, hi, hz, hsz, hby⟩ := info_parts ev_info
  have step : ∀ (ad : Addr) (n : Nat), n = ys.length → (∀ (j : Nat) (u : Value), (etc ys)[j]? = some u → w.cell? (ad.add j) = some u) →
      ∃ v' w', (Builtin.append_ #[33, 33] ty #[v, .slice (some ad) n c]).run Try.prog w = .ok v' w' ∧ RowE w' base v' (xs ++ ys) ∧ w.grownBy w' v.ownBlock := by
    rintro ad n rfl hc
    obtain ⟨v', w', hr, h2, h3, -, -⟩ := run_append_own_at (P := Try.prog) w base 33 ty 80 i _ 10 112 Try.underlying33 hi hz hsz hby rfl (by decide) v xs.length (etc xs) h
      ad ys.length c (etc ys) (etc_length ys) hc (etc_one ys) (by unfold maxLen; omega) (by omega) hbase
    refine ⟨v', w', hr, ?_, h3⟩
    unfold RowE
    rw [etc_append, List.length_append]
    exact h2
  by_cases hne : ys = []
  · cases A with
    | some ad => exact step ad _ rfl (fun j u hj => by rw [hne] at hj; simp [etc] at hj)
    | none =>
      subst hne
      refine ⟨v, w, ?_, by rw [List.append_nil]; exact h, World.grownBy.refl w _⟩
      obtain ⟨B, k, rfl, hb, -⟩ := h.rd
      cases B <;> simp [Builtin.append_, run_underlying Try.underlying33, sizeOf, typeInfo, hi, Builtin.lenOf, Builtin.firstCells, hb, storeCells]
  · obtain ⟨b, o, rfl, -, hcell⟩ := ha.2 hne
    exact step ⟨b, o, none⟩ _ rfl (fun j u hj => by rw [Addr.add_lit]; exact hcell j u hj)

section
variable {ops : Array Oper} {o : Oper} {a : Act} {K : Act → World → Prop} {Q : Exit → Act → World → Prop} {E : Prop}
theorem step_app_evs (w : World) (hgd : o.guard = none) (s x : Operand) (ho : o.op = .call { callee := .builtin .append, args := #[s, x], argTypes := #[33, 33] }) (base : Nat) (v : Value) (xs : List Evt) (hs : a.eval s = v) (h : RowE w base v xs)
    (ys : List Evt) (A : Option Addr) (n c : Nat) (hx : a.eval x = .slice A n c) (ha : RdE w A c ys) (hn : ys.length = n) (hl : xs.length + ys.length ≤ 1000000) (hbase : base ≤ w.heap.size)
    (hK : ∀ v' w', RowE w' base v' (xs ++ ys) → w.grownBy w' v.ownBlock → K (a.put o.dst v') w') :
    if Region.wanted o (yielded ops a.tmps) = true then Oper.wp Try.prog o a w K Q else E := by
  obtain ⟨v', w', hr, h2, h3⟩ := run_app_evs xs ys v A c n hn o.type base w h ha hl hbase
  rw [if_pos (by simp [Region.wanted, hgd])]
  unfold Oper.wp execOp
  simp only [ho, resolve, invoke, builtin, Sem.run_bind, Sem.run_pure, Result.andThen_ok, List.map_toArray, List.map_cons, List.map_nil, hs, hx, hr]
  exact hK v' w' h2 h3
theorem wpList_app_evs {rest : List Oper} (w : World) (hw : Region.wanted o (yielded ops a.tmps) = true) (s x : Operand) (ho : o.op = .call { callee := .builtin .append, args := #[s, x], argTypes := #[33, 33] }) (base : Nat) (v : Value) (xs : List Evt) (hs : a.eval s = v) (h : RowE w base v xs)
    (ys : List Evt) (A : Option Addr) (n c : Nat) (hx : a.eval x = .slice A n c) (ha : RdE w A c ys) (hn : ys.length = n) (hl : xs.length + n ≤ 1000000) (hbase : base ≤ w.heap.size)
    (hK : ∀ v' w', RowE w' base v' (xs ++ ys) → w.grownBy w' v.ownBlock → wpList Try.prog ops Q rest (a.put o.dst v') w') : wpList Try.prog ops Q (o :: rest) a w := by
  refine wpList_step fun K hK2 => ?_
  obtain ⟨v', w', hr, h2, h3⟩ := run_app_evs xs ys v A c n hn o.type base w h ha (by rw [hn]; exact hl) hbase
  rw [if_pos hw]
  unfold Oper.wp execOp
  simp only [ho, resolve, invoke, builtin, Sem.run_bind, Sem.run_pure, Result.andThen_ok, List.map_toArray, List.map_cons, List.map_nil, hs, hx, hr]
  exact hK2 _ _ (hK v' w' h2 h3)
end
end Go.Proofs.Ytgjdbbhfgfodlaa.Parse
