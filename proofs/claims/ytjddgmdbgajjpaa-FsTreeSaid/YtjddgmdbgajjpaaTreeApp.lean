/-
  append of nodes, as steps of a region that draws its order: no statement is proved here.
-/
import Derived.Test.YtjddgmdbgajjpaaTreeOne
import Derived.Deep.RegionWith
import Derived.Deep.AppendLies
import Derived.Deep.RegionLaw
import Derived.Deep.Cut
namespace Go.Proofs.Ytjddgmdbgajjpaa.Tree
open Go.RowKit Go.Proofs.Ytjddgmdbgajjpaa.Base Go.Proofs.Ytjddgmdbgajjpaa.Node Go.Proofs.Ytjddgmdbgajjpaa.Long

/-- append of a slice of nodes onto nil. -/
theorem run_app_first (t : List Nd) (A : Option Addr) (c : Nat) (ty : TypeId) (base : Nat) (w : World) (ha : RdN w A c t) (hl : t.length ≤ 1000) (hbase : base ≤ w.heap.size) :
    ∃ v' w', (Builtin.append_ #[22, 22] ty #[.slice none 0 0, .slice A t.length c]).run Try.prog w = .ok v' w' ∧ w'.ownsRow base 26 8 v' t.length (ntc t) ∧ w.grownBy w' none := by
  obtain ⟨i, hi, hz, hsz, hby⟩ := info_parts node_info
  by_cases hne : t = []
  · subst hne
    refine ⟨.slice none 0 0, w, ?_, World.ownsRow_nil _ _ _ _, World.grownBy.refl w _⟩
    cases A <;> simp [Builtin.append_, run_underlying Try.underlying22, sizeOf, typeInfo, hi, Builtin.lenOf, Builtin.firstCells, loadCells, loadCellsFrom]
  · obtain ⟨b, o, rfl, -, hcell⟩ := ha.2 hne
    have hpos : 0 < t.length := List.length_pos_iff.2 hne
    obtain ⟨g, cap, w', hr, h2, h3, -, -⟩ := run_append_lies (P := Try.prog) w 22 ty base 26 i _ 8 88 Try.underlying22 hi hz hsz hby rfl (by decide) (.slice none 0 0) 0 [] (World.ownsRow_nil _ _ _ _)
      ⟨b, o, none⟩ t.length c (ntc t) (ntc_length t) (fun j u hj => by rw [Addr.add_lit]; exact hcell j u hj) (ntc_one t) hpos (by unfold maxLen; omega) (by omega) hbase _ rfl
    rw [Nat.zero_add] at h2 hr
    rw [List.nil_append] at h2
    exact ⟨_, w', hr, h2, h3⟩
/-- append of one node onto a row of the call's own. -/
theorem run_app_next (t : List Nd) (n : Nd) (v : Value) (ad : Addr) (ty : TypeId) (base : Nat) (w : World) (hown : w.ownsRow base 26 8 v t.length (ntc t)) (hc : ∀ (j : Nat) (u : Value), (ncells n).toList[j]? = some u → w.cell? (ad.add j) = some u) (hl : t.length ≤ 1000) (hbase : base ≤ w.heap.size) :
    ∃ A' c' w', (Builtin.append_ #[22, 22] ty #[v, .slice (some ad) 1 1]).run Try.prog w = .ok (.slice A' (t.length + 1) c') w' ∧ RdN w' A' c' (t ++ [n]) ∧ w.grownBy w' v.ownBlock := by
  obtain ⟨i, hi, hz, hsz, hby⟩ := info_parts node_info
  obtain ⟨g, cap, w', hr, h2, h3, -, -⟩ := run_append_lies (P := Try.prog) w 22 ty base 26 i _ 8 88 Try.underlying22 hi hz hsz hby rfl (by decide) v t.length (ntc t) hown
      ad 1 1 (ncells n).toList rfl hc (lit_one n) (by decide) (by unfold maxLen; omega) (by omega) hbase _ rfl
  have h4 : w'.ownsRow base 26 8 (.slice (some ⟨g, 0, none⟩) (t.length + 1) cap) (t ++ [n]).length (ntc (t ++ [n])) := by
    rw [ntc_append, List.length_append]
    exact h2
  obtain ⟨A', c', he, hR⟩ := RdN.of_row h4
  rw [List.length_append] at he
  cases he
  exact ⟨_, _, w', hr, hR, h3⟩

section
variable {ops : Array Oper} {o : Oper} {a : Act} {K : Act → World → Prop} {Q : Exit → Act → World → Prop} {E : Prop}
theorem step_app_first (w : World) (hgd : o.guard = none) (s x : Operand) (ho : o.op = .call { callee := .builtin .append, args := #[s, x], argTypes := #[22, 22] }) (base : Nat) (hs : a.eval s = .slice none 0 0)
    (t : List Nd) (A : Option Addr) (c : Nat) (hx : a.eval x = .slice A t.length c) (ha : RdN w A c t) (hl : t.length ≤ 1000) (hbase : base ≤ w.heap.size)
    (h : ∀ v' w', w'.ownsRow base 26 8 v' t.length (ntc t) → w.grownBy w' none → K (a.put o.dst v') w') :
    if Region.wanted o (yielded ops a.tmps) = true then Oper.wp Try.prog o a w K Q else E := by
  obtain ⟨v', w', hr, h2, h3⟩ := run_app_first t A c o.type base w ha hl hbase
  rw [if_pos (by simp [Region.wanted, hgd])]
  unfold Oper.wp execOp
  simp only [ho, resolve, invoke, builtin, Sem.run_bind, Sem.run_pure, Result.andThen_ok, List.map_toArray, List.map_cons, List.map_nil, hs, hx, hr]
  exact h v' w' h2 h3
theorem step_app_next (w : World) (hgd : o.guard = none) (s x : Operand) (ho : o.op = .call { callee := .builtin .append, args := #[s, x], argTypes := #[22, 22] }) (base : Nat) (v : Value) (hs : a.eval s = v)
    (t : List Nd) (n : Nd) (hown : w.ownsRow base 26 8 v t.length (ntc t)) (ad : Addr) (hx : a.eval x = .slice (some ad) 1 1) (hc : ∀ (j : Nat) (u : Value), (ncells n).toList[j]? = some u → w.cell? (ad.add j) = some u) (hl : t.length ≤ 1000) (hbase : base ≤ w.heap.size)
    (h : ∀ A' c' w', RdN w' A' c' (t ++ [n]) → w.grownBy w' v.ownBlock → K (a.put o.dst (.slice A' (t.length + 1) c')) w') :
    if Region.wanted o (yielded ops a.tmps) = true then Oper.wp Try.prog o a w K Q else E := by
  obtain ⟨A', c', w', hr, h2, h3⟩ := run_app_next t n v ad o.type base w hown hc hl hbase
  rw [if_pos (by simp [Region.wanted, hgd])]
  unfold Oper.wp execOp
  simp only [ho, resolve, invoke, builtin, Sem.run_bind, Sem.run_pure, Result.andThen_ok, List.map_toArray, List.map_cons, List.map_nil, hs, hx, hr]
  exact h A' c' w' h2 h3
theorem le_new (w : World) (x : Obj) : w.heap.size ≤ (w.alloc x).drew.heap.size := by
  show w.heap.size ≤ (w.alloc x).heap.size
  rw [World.size_alloc]
  omega
theorem lt_new (w : World) (x : Obj) : w.heap.size < (w.alloc x).drew.heap.size := by
  show w.heap.size < (w.alloc x).heap.size
  rw [World.size_alloc]
  omega
theorem le_later {w w1 : World} (h : Stp w w1) (x : Obj) : w.heap.size ≤ (w1.alloc x).heap.size := by
  rw [World.size_alloc]
  exact Nat.le_succ_of_le h.size
end
end Go.Proofs.Ytjddgmdbgajjpaa.Tree
