/-
  Package drive's own calls: slices.Clone of tapes, own, areTapes, isPlace, May: their contracts; no statement is proved here.
-/
import Derived.Test.YtaknnkcfoafkdaaDriveJ
import Derived.Maps.AppendAt
namespace Go.Proofs.Ytaknnkcfoafkdaa.Drive
open Go.RowKit Go.Proofs.Ytaknnkcfoafkdaa.Str Go.Proofs.Ytaknnkcfoafkdaa.Base Go.Proofs.Ytaknnkcfoafkdaa.BlockM Go.Proofs.Ytaknnkcfoafkdaa.RecM Go.Proofs.Ytaknnkcfoafkdaa.TapeM Go.Proofs.Ytaknnkcfoafkdaa.Tape Go.Proofs.Ytaknnkcfoafkdaa.DriveM
set_option linter.unusedVariables false

/-- append of tapes onto an empty literal. -/
theorem run_app_onto {w00 w0 w : World} {g0 : Nat} {ad : Addr} {k : Nat} {ts : List Tp} (ty : TypeId) (hw0 : Stp w00 w0) (hw : Stp w0 w) (hb0 : Blk w g0 41 #[]) (hg0 : w0.heap.size ≤ g0) (h : RdS w00 (some ad) k ts) (hl : ts.length ≤ 1000) :
    ∃ g A' cap w', (Builtin.append_ #[22, 22] ty #[.slice (some ⟨g0, 0, none⟩) 0 0, .slice (some ad) ts.length k]).run Try.prog w = .ok (.slice A' ts.length cap) w' ∧ Stp w0 w' ∧ w0.heap.size ≤ g ∧ g ≤ w'.heap.size ∧ ts.length ≤ cap ∧
      (ts ≠ [] → A' = some ⟨g, 0, none⟩ ∧ ∃ cur, Blk w' g 41 cur ∧ Cur (fun _ t Aj kj => RdL w00 Aj kj t.rows) cur ts) := by
  obtain ⟨i, hi, hz, hsz, hby⟩ := info_parts tape_info
  have hgl := hb0.lt
  have hown : w.ownsRow g0 41 3 (.slice (some ⟨g0, 0, none⟩) 0 0) 0 [] := ⟨rfl, .inr ⟨g0, 0, #[], rfl, Nat.le_refl _, hb0, Nat.le_refl _, Nat.zero_le _, rfl, by simp⟩⟩
  have stp : ∀ w', w.grownBy w' (Value.slice (some ⟨g0, 0, none⟩) 0 0).ownBlock → Stp w0 w' := fun w' h3 => Below.grown hw h3 hw.size (fun j hj => by
    simp only [Value.ownBlock, Option.some.injEq] at hj
    omega)
  by_cases hne : ts = []
  · subst hne
    obtain ⟨v', w', hr, h2, h3, -, h5⟩ := run_append_own_at (P := Try.prog) w g0 22 ty 41 i _ 3 40 Try.underlying22 hi hz hsz hby rfl (by decide) _ 0 [] hown ad 0 k [] rfl (by simp) (by simp) (by unfold maxLen; omega) (by omega) (by omega)
    have hst := stp w' h3
    obtain ⟨A', cap, rfl⟩ : ∃ A' cap, v' = .slice A' 0 cap := by
      rcases h2.2 with ⟨e, -⟩ | ⟨g, cap, cur, e, -⟩
      · exact ⟨_, _, e⟩
      · exact ⟨_, _, e⟩
    exact ⟨w'.heap.size, A', cap, w', hr, hst, hst.size, Nat.le_refl _, Nat.zero_le _, fun h => absurd rfl h⟩
  · obtain ⟨b, o, e, hbl, -⟩ := h.2 hne
    simp only [Option.some.injEq] at e
    subst e
    obtain ⟨xs, x1, x2', x3, x4⟩ := h.cells hne
    have x2 : ∀ q u, xs[q]? = some u → w.cell? ⟨b, o + q, none⟩ = some u := fun q u hq => ((Stp.trans hw0 hw).cell (p := ⟨b, o + q, none⟩) hbl).trans (x2' q u hq)
    have hpos : 0 < ts.length := List.length_pos_iff.2 hne
    obtain ⟨g, cap, w', hr, h2, h3, h4, h5⟩ := run_append_lies (P := Try.prog) w 22 ty g0 41 i _ 3 40 Try.underlying22 hi hz hsz hby rfl (by decide) _ 0 [] hown
      ⟨b, o, none⟩ ts.length k xs x1 (fun j u hj => by rw [Addr.add_lit]; exact x2 j u hj) x3 hpos (by unfold maxLen; omega) (by omega) (by omega) _ rfl
    rw [Nat.zero_add] at h2 hr
    rw [List.nil_append] at h2
    have hst := stp w' h3
    obtain ⟨hl2, ⟨e, hn⟩ | ⟨g2, cap2, cur, e, hb, hg, hn, hc, hs, ht⟩⟩ := h2
    · cases e
    · cases e
      refine ⟨g, _, cap, w', hr, hst, by omega, Nat.le_of_lt h5, hn, fun _ => ⟨rfl, cur, hg, fun j t hj => ?_⟩⟩
      obtain ⟨Aj, kj, c0, c1, c2, hrr⟩ := x4 j t hj
      have hcur : ∀ q u, xs[q]? = some u → cur[q]? = some u := fun q u hq => by
        rw [← ht, List.getElem?_take] at hq
        split at hq
        · simpa using hq
        · cases hq
      exact ⟨Aj, kj, hcur _ _ c0, hcur _ _ c1, hcur _ _ c2, hrr⟩
theorem wpList_app_onto {w00 w0 w : World} {ops : Array Oper} {rest : List Oper} {oo : Oper} {a : Act} {Q : Exit → Act → World → Prop} {g0 : Nat} {ad : Addr} {k n : Nat} {ts : List Tp} (hgd : oo.guard = none) (s x : Operand)
    (ho : oo.op = .call { callee := .builtin .append, args := #[s, x], argTypes := #[22, 22] }) (hs : a.eval s = .slice (some ⟨g0, 0, none⟩) 0 0) (hx : a.eval x = .slice (some ad) n k) (hn : ts.length = n) (hw0 : Stp w00 w0) (hw : Stp w0 w) (hb0 : Blk w g0 41 #[]) (hg0 : w0.heap.size ≤ g0) (h : RdS w00 (some ad) k ts) (hl : n ≤ 1000)
    (hK : ∀ g A' cap w', Stp w0 w' → w0.heap.size ≤ g → g ≤ w'.heap.size → n ≤ cap → (ts ≠ [] → A' = some ⟨g, 0, none⟩ ∧ ∃ cur, Blk w' g 41 cur ∧ Cur (fun _ t Aj kj => RdL w00 Aj kj t.rows) cur ts) → wpList Try.prog ops Q rest (a.put oo.dst (.slice A' n cap)) w') : wpList Try.prog ops Q (oo :: rest) a w := by
  subst hn
  refine wpList_plain hgd fun K hK2 => ?_
  obtain ⟨g, A', cap, w', hr, h1, h2, h3, h4, h5⟩ := run_app_onto oo.type hw0 hw hb0 hg0 h hl
  unfold Oper.wp execOp
  simp only [ho, resolve, invoke, builtin, Sem.run_bind, Sem.run_pure, Result.andThen_ok, List.map_toArray, List.map_cons, List.map_nil, hs, hx, hr]
  exact hK2 _ _ (hK g A' cap w' h1 h2 h3 h4 h5)

set_option maxRecDepth 100000 in
set_option maxHeartbeats 1000000 in
theorem ctapes_s (ts : List Tp) (n : Nat) (hn : ts.length = n) (hl : n ≤ 1000) (A : Option Addr) (k : Nat) (w0 w : World) (hw0 : Stp w0 w) (ha : RdS w0 A k ts) :
    Calls Try.prog 55 #[.slice A n k] w fun e w' => ∃ g A' cap, e = .returned (.slice A' n cap) ∧ Stp w w' ∧ w.heap.size ≤ g ∧ g ≤ w'.heap.size ∧ n ≤ cap ∧
      (ts ≠ [] → A' = some ⟨g, 0, none⟩ ∧ ∃ cur, Blk w' g 41 cur ∧ Cur (fun _ t Aj kj => RdL w0 Aj kj t.rows) cur ts) := by
  have Hn := Lib.hid hn
  have Ha := Lib.hid ha
  have H0 := Lib.hid (Stp.refl w)
  have qT : ∀ (w : World) (a : Option Addr) (n c n' c' : Nat), (binOp .eql 22 (.slice a n c) (.slice none n' c')).run Try.prog w = .ok (.bool a.isNone) w := fun w a n c n' c' => Lib.run_eql_slice_nil w _ _ a n c n' c' Try.underlying22
  clear hn ha
  cases A with
  | none =>
    have hz : ts = [] := by
      by_cases h : ts = []
      · exact h
      · obtain ⟨b, o, e, -⟩ := Ha.out.2 h
        cases e
    subst hz
    obtain rfl : n = 0 := by rw [← Hn.out]; rfl
    go_enter Try.func55, Try.ntmps55
    go_wp2_with fail
    go_ret
    exact ⟨w.heap.size, _, _, rfl, H0.out, Nat.le_refl _, Nat.le_refl _, Nat.zero_le _, fun h => absurd rfl h⟩
  | some ad =>
    have HB := Lib.hid (Blk.new w 41 #[])
    have H1 := Lib.hid (Stp.alloc (Stp.refl w) (.cells #[] 41))
    go_enter Try.func55, Try.ntmps55
    go_wp2_with (at_builtin; refine wpList_app_onto rfl (.tmp 5) (.tmp 6) rfl rfl rfl Hn.out hw0 H1.out HB.out (Nat.le_refl _) Ha.out hl ?_; intro g A' cap w' h1 h2 h3 h4 h5; have X := Lib.hid (show Stp w w' ∧ w.heap.size ≤ g ∧ g ≤ w'.heap.size ∧ n ≤ cap ∧ (ts ≠ [] → A' = some ⟨g, 0, none⟩ ∧ ∃ cur, Blk w' g 41 cur ∧ Cur (fun _ t Aj kj => RdL w0 Aj kj t.rows) cur ts) from ⟨h1, h2, h3, h4, h5⟩); clear h1 h2 h3 h4 h5)
    go_ret
    exact ⟨g, A', cap, rfl, X.out⟩
end Go.Proofs.Ytaknnkcfoafkdaa.Drive
