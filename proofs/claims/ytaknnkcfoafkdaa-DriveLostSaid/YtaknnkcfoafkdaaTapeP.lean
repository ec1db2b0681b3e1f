/-
  append of rows as a step of a drawn region; what Fill leaves is small: no statement is proved here.
-/
import Derived.Test.YtaknnkcfoafkdaaTapeB
import Derived.Deep.RegionLaw
import Derived.Deep.Cut
namespace Go.Proofs.Ytaknnkcfoafkdaa.Tape
open Go.RowKit Go.Proofs.Ytaknnkcfoafkdaa.Str Go.Proofs.Ytaknnkcfoafkdaa.Base Go.Proofs.Ytaknnkcfoafkdaa.BlockM Go.Proofs.Ytaknnkcfoafkdaa.RecM Go.Proofs.Ytaknnkcfoafkdaa.TapeM
set_option linter.unusedVariables false

section
variable {w : World} {lo : Nat} {v : Value} {ls ms : List L}
theorem step_app_rows {ops : Array Oper} {o : Oper} {a : Act} {K : Act → World → Prop} {Q : Exit → Act → World → Prop} {E : Prop} (hgd : o.guard = none) (s x : Operand)
    (ho : o.op = .call { callee := .builtin .append, args := #[s, x], argTypes := #[39, 39] })
    (hs : a.eval s = v) (h : Base.Rows w lo 25 v ls) {A : Option Addr} {n c : Nat} (hx : a.eval x = .slice A n c) (hm : RdL w A c ms) (hn : ms.length = n) (hl : ls.length + ms.length ≤ 1000000000) (hlo : lo ≤ w.heap.size)
    (hK : ∀ v' w', Base.Rows w' lo 25 v' (ls ++ ms) → w.grownBy w' v.ownBlock → K (a.put o.dst v') w') :
    if Region.wanted o (yielded ops a.tmps) = true then Oper.wp Try.prog o a w K Q else E := by
  obtain ⟨v', w', hr', h2, h3⟩ := h.more (P := Try.prog) 39 o.type Try.underlying39 (by kernel_rfl) hm hn hl hlo
  rw [if_pos (by simp [Region.wanted, hgd])]
  unfold Oper.wp execOp
  simp only [ho, resolve, invoke, builtin, Sem.run_bind, Sem.run_pure, Result.andThen_ok, List.map_toArray, List.map_cons, List.map_nil, hs, hx, hr']
  exact hK v' w' h2 h3
end
theorem rows_n {w : World} {lo n : Nat} {v : Value} {ls : List L} (h : Base.Rows w lo 25 v ls) (hn : ls.length = n) : ∃ A k, v = .slice A n k ∧ RdL w A k ls := by
  subst hn
  exact h.rdL
theorem fillG_few (rs : List L) : ∀ t : Tp, (fillG t rs).1.cap = t.cap ∧ (fillG t rs).1.rows.length ≤ t.rows.length + rs.length ∧ ∀ x ∈ (fillG t rs).1.rows, x ∈ t.rows ∨ x ∈ rs := by
  induction rs with
  | nil => intro t; exact ⟨rfl, by simp [fillG], fun x h => .inl h⟩
  | cons r rs ih =>
    intro t
    by_cases h : (writeV t r).2 = 0
    · obtain ⟨a, b, d, e⟩ := writeV_ok.1 h
      obtain ⟨x1, x2, x3⟩ := ih (writeV t r).1
      rw [writeV_yes a b d e] at x1 x2 x3
      rw [fillG, if_pos h, writeV_yes a b d e]
      dsimp only at x1 x2 x3 ⊢
      refine ⟨x1, ?_, fun x hx => ?_⟩
      · simp only [List.length_append, List.length_cons, List.length_nil] at x2 ⊢
        omega
      · rcases x3 x hx with h | h
        · rcases List.mem_append.1 h with h | h
          · exact .inl h
          · exact .inr (by rw [List.mem_singleton.1 h]; exact List.mem_cons_self)
        · exact .inr (List.mem_cons_of_mem _ h)
    · rw [fillG, if_neg h]
      exact ⟨rfl, by simp, fun x hx => .inl hx⟩
theorem fillV_few (t : Tp) (rs : List L) : (fillV t rs).1.cap = t.cap ∧ (fillV t rs).1.rows.length ≤ t.rows.length + rs.length ∧ ∀ x ∈ (fillV t rs).1.rows, x ∈ t.rows ∨ x ∈ rs := by
  unfold fillV
  split
  · exact fillG_few rs t
  · exact ⟨rfl, by simp, fun x h => .inl h⟩
theorem fillG_le (rs : List L) : ∀ t : Tp, (fillG t rs).2.1 ≤ rs.length := by
  induction rs with
  | nil => intro t; simp [fillG]
  | cons r rs ih =>
    intro t
    rw [fillG]
    split
    · have := ih (writeV t r).1
      simp only [List.length_cons]
      omega
    · simp
theorem fillV_le (t : Tp) (rs : List L) : (fillV t rs).2.1 ≤ rs.length := by
  unfold fillV
  split
  · exact fillG_le rs t
  · simp
theorem few_fill {c c' : Int} {ls ls' rs : List L} {m m' : Bool} {j e : Nat} (hs : SmallT ⟨c, ls, m⟩) (h1 : ls.length ≤ 400) (h2 : ∀ r ∈ ls, r.length ≤ 12000) (h3 : rs.length ≤ 120) (h4 : ∀ r ∈ rs, r.length ≤ 12000) (hv : fillV ⟨c, ls, m⟩ rs = (⟨c', ls', m'⟩, j, e)) :
    FewT ⟨c', ls', m'⟩ ∧ ls'.length ≤ ls.length + rs.length ∧ (∀ r ∈ ls', r.length ≤ 12000) ∧ c' = c := by
  obtain ⟨x1, x2, x3⟩ := fillV_few ⟨c, ls, m⟩ rs
  rw [hv] at x1 x2 x3
  dsimp only at x1 x2 x3
  have h5 : ∀ r ∈ ls', r.length ≤ 12000 := fun r hr => by
    rcases x3 r hr with h | h
    · exact h2 r h
    · exact h4 r h
  exact ⟨⟨by dsimp only; rw [x1]; exact hs.low, by dsimp only; rw [x1]; exact hs.high, by dsimp only; omega, fun r hr => Nat.le_trans (h5 r hr) (by omega)⟩, x2, h5, x1⟩
theorem fill_at {w3 W : World} {p : Nat} {c3 : Int} {A3 : Option Addr} {n3 k3 : Nat} {m3 : Bool} {ls3 : List L} (h0 : Stp W w3) (hp : W.heap.size ≤ p) (hN : Blk w3 p 41 (tcs 0 none 0 0 false)) (hc : Clear p w3 A3 k3 ls3) :
    Blk (fillT w3 p c3 A3 n3 k3 m3) p 41 (tcs c3 A3 n3 k3 m3) ∧ RdL (fillT w3 p c3 A3 n3 k3 m3) A3 k3 ls3 ∧ Stp W (fillT w3 p c3 A3 n3 k3 m3) :=
  ⟨fillt_blk c3 A3 n3 k3 m3 hN, hc _ (fillt_grown _ _ _ _ _ _ _), fillt_stp c3 A3 n3 k3 m3 h0 hp⟩
theorem alloc_at {w3 W : World} {c3 : Int} {A3 : Option Addr} {n3 k3 : Nat} {m3 : Bool} {ls3 : List L} (h0 : Stp W w3) (hr : RdL w3 A3 k3 ls3) :
    Blk (w3.alloc (.cells (tcs c3 A3 n3 k3 m3) 41)) w3.heap.size 41 (tcs c3 A3 n3 k3 m3) ∧ RdL (w3.alloc (.cells (tcs c3 A3 n3 k3 m3) 41)) A3 k3 ls3 ∧ Stp W (w3.alloc (.cells (tcs c3 A3 n3 k3 m3) 41)) :=
  ⟨Blk.new w3 _ _, hr.keep (Stp.alloc (Stp.refl _) _), Stp.alloc h0 _⟩
end Go.Proofs.Ytaknnkcfoafkdaa.Tape
