/-
  Contracts of package path's iterator over parts, and of the functions that range over it (all, May, Parts): no statement is proved here.
-/
import Derived.RangeFuncNested
import Derived.RangeFuncBound
import Derived.RangeFuncCalls
import Derived.RangeFuncLeaves
import Derived.RangeFuncBox
import Derived.Shelf.Abstract
import Derived.Shelf.RegionOpen
import Derived.WalkKit
import Derived.OwnWalkIn
import Derived.TacticsInMore
import Derived.LoopNIn
import Derived.LoopIn
import Derived.Test.YtcgihjgfocohmaaPathLib
namespace Go.Proofs.Ytcgihjgfocohmaa.Path
open Go.RowKit Go.Shelf Go.Proofs.Ytcgihjgfocohmaa.Base Go.Proofs.Ytcgihjgfocohmaa.PathM

attribute [local go_sem] Oper.semAt_some

set_option maxRecDepth 100000 in
/-- The closure that says what must be so of each part. -/
theorem okP_any (l : L) (w : World) :
    Calls Try.prog 47 #[.string ⟨l.toArray⟩] w fun e w' => e = .returned (.bool (okP l)) ∧ w = w' := by
  unfold okP
  cases h1 : (l == [])
  · cases h2 : (l == [46])
    · cases h3 : (l == [46, 46])
      all_goals
        go_enter Try.func47, Try.ntmps47
        go_wp2_with fail
        go_ret
        exact ⟨rfl, rfl⟩
    · go_enter Try.func47, Try.ntmps47
      go_wp2_with fail
      go_ret
      exact ⟨rfl, rfl⟩
  · go_enter Try.func47, Try.ntmps47
    go_wp2_with fail
    go_ret
    exact ⟨rfl, rfl⟩

/-- How much is left of the iterator's walk. -/
def leftV : Value → Value → Nat
  | .string s, .bool true => s.size + 1
  | _, _ => 0

set_option maxRecDepth 100000 in
set_option maxHeartbeats 1000000 in
/-- The iterator: all parts, in order, or the first of them, where a round has said no more. -/
theorem parts1_in (n : Nat) (hn : 1 ≤ n) (l Bn n₀ : Nat) (p : L) (hp : p.length ≤ 9223372036854775807) (J Jx : List L → World → Prop)
    (hJd : ∀ pre W, J pre W → J pre W.drew)
    (hY : ∀ pre x W, J pre W → pre.length < (pcs p).length → YieldAt Fence.wide (n - 1) Try.prog l #[.string ⟨x.toArray⟩] W fun e W' =>
      (e = .returned (.bool true) ∧ J (pre ++ [x]) W' ∧ Below n₀ W W') ∨ (e = .returned (.bool false) ∧ Jx (pre ++ [x]) W'))
    (W : World) (hBn : W.cell? ⟨Bn, 0, none⟩ = some (.string ⟨p.toArray⟩)) (h0 : J [] W) :
    CallsIn Fence.wide n Try.prog 56 #[.func (.yield l) #[] #[], .pointer (some ⟨Bn, 0, none⟩)] W fun e W' => (∃ v, e = .returned v) ∧
      ((∃ ys, ys = pcs p ∧ J ys W') ∨ (∃ pre, pre <+: pcs p ∧ Jx pre W')) := by
  have hJn : ∀ k pre W, J pre W → J pre (W.drewN k) := by
    intro k
    induction k with
    | zero => intro pre W h; exact h
    | succ k ih => intro pre W h; exact hJd _ _ (ih pre W h)
  have HJn := Lib.hid hJn
  clear hJn hJd
  refine callsIn_of_wp Try.func56 rfl trivial ?_ rfl
  simp only [Try.ntmps56, List.size_toArray, List.length_cons, List.length_nil, Nat.reduceAdd, Nat.reduceSub, Array.replicate_succ, Array.replicate_zero, List.push_toArray, List.append_toArray, List.nil_append, List.cons_append]
  gi_wp2
  gi_loopw [3, 4] (fun r m wr => ∃ (pre : List L) (rest : L) (more : Bool), r = .string ⟨rest.toArray⟩ ∧ m = .bool more ∧ rest.length ≤ 9223372036854775807 ∧ Hid (pcs p = if more then pre ++ pcs rest else pre) ∧ J pre wr)
    (fun r m _ => leftV r m)
  case atStart =>
    exact ⟨[], p, true, rfl, rfl, hp, Lib.hid rfl, h0⟩
  case round =>
    obtain ⟨pre, rest, more, rfl, rfl, hrl, Hp, hJs⟩ := hrel
    cases more with
    | false =>
      gi_wp2
      go_end0
      exact ⟨⟨_, rfl⟩, .inl ⟨pre, by simpa using Hp.out.symm, hJs⟩⟩
    | true =>
      have Hq : Hid (pcs p = pre ++ pcs rest) := Lib.hid (by simpa using Hp.out)
      clear Hp
      have hlen : pre.length < (pcs p).length := by rw [Hq.out, List.length_append]; have := pcs_pos rest; omega
      match hf : firstCut rest with
      | none =>
        have Hf := Lib.hid hf
        clear hf
        have hone := pcs_one (firstCut_none Hf.out)
        have Hone := Lib.hid hone
        clear hone
        gi_wp2_with (refine ⟨trivial, ?_⟩; gi_at_call 57; refine (callsIn_wide.2 (cut_no ⟨rest.toArray⟩ _ Hf.out)).mono ?_; rintro e w' ⟨rfl, k, rfl⟩; obtain ⟨fn, tmps, assign, body, hy, hR⟩ := hY pre rest _ (HJn.out k _ _ hJs) hlen)
        refine hR.mono ?_
        rintro e W3 (⟨rfl, hJ3, hk3⟩ | ⟨rfl, hJx3⟩)
        · gi_wp2
          go_roundw
          case rel => exact ⟨pre ++ [rest], [], false, rfl, rfl, by simp, Lib.hid (by rw [Hq.out, Hone.out]; rfl), hJ3⟩
          case measure => simp [leftV]
        · gi_wp2
          refine bodyPost_ret (results_none rfl _ _ _) rfl ?_
          exact ⟨⟨_, rfl⟩, .inr ⟨pre ++ [rest], by rw [Hq.out, Hone.out]; exact List.prefix_refl _, hJx3⟩⟩
      | some (a, b) =>
        have hfl := firstCut_len hf
        have Hf := Lib.hid hf
        have hb : b.length < rest.length := by omega
        have Hone := Lib.hid (pcs_firstCut hf)
        clear hf hfl
        gi_wp2_with (refine ⟨trivial, ?_⟩; gi_at_call 57; refine (callsIn_wide.2 (cut_yes ⟨rest.toArray⟩ a b _ (by simpa [ByteArray.size] using hrl) Hf.out)).mono ?_; rintro e w' ⟨rfl, k, rfl⟩; obtain ⟨fn, tmps, assign, body, hy, hR⟩ := hY pre a _ (HJn.out k _ _ hJs) hlen)
        refine hR.mono ?_
        rintro e W3 (⟨rfl, hJ3, hk3⟩ | ⟨rfl, hJx3⟩)
        · gi_wp2
          go_roundw
          case rel => exact ⟨pre ++ [a], b, true, rfl, rfl, by omega, Lib.hid (by rw [Hq.out, if_pos rfl, Hone.out, List.append_assoc]; rfl), hJ3⟩
          case measure => simp [leftV, ByteArray.size]; omega
        · gi_wp2
          refine bodyPost_ret (results_none rfl _ _ _) rfl ?_
          exact ⟨⟨_, rfl⟩, .inr ⟨pre ++ [a], by rw [Hq.out, Hone.out]; exact ⟨pcs b, by simp⟩, hJx3⟩⟩

/-- What parts answers stops: all of the parts, or the first of them. -/
theorem parts_stops (n : Nat) (hn : 1 ≤ n) (Bn n₀ : Nat) (p : L) (hp : p.length ≤ 9223372036854775807) (w : World) (hBn : Bn < w.heap.size) (hc : w.cell? ⟨Bn, 0, none⟩ = some (.string ⟨p.toArray⟩)) :
    SeqStopsK Fence.wide n Try.prog 56 #[.pointer (some ⟨Bn, 0, none⟩)] (fun x : L => #[Value.string ⟨x.toArray⟩]) (Below n₀) (fun ys => ys = pcs p) (fun pre => pre <+: pcs p) (pcs p).length w := fun l J Jx W hW hJ _ hY h0 =>
  parts1_in n hn l Bn n₀ p hp J Jx (fun pre W h => hJ pre W W.drew none h ⟨rfl, rfl, rfl, Nat.le_refl _, fun _ _ _ => rfl⟩ (fun r e => by cases e)) hY W ((hW.cell (p := ⟨Bn, 0, none⟩) hBn).trans hc) h0

set_option maxRecDepth 100000 in
/-- parts: the path is boxed; the function value captures the box. -/
theorem parts_any (p : ByteArray) (w : World) :
    Calls Try.prog 49 #[.string p] w fun e w' => e = .returned (.func (.func 56) #[] #[.pointer (some ⟨w.heap.size, 0, none⟩)]) ∧ w' = w.alloc (.cells #[.string p] 9) := by
  have hmf : ∀ (fn : Fn) (first cap : Array Value) (w : World), (Instr.makeFunc fn first cap).run Try.prog w = .ok (.func fn first cap) w := fun _ _ _ _ => rfl
  go_enter Try.func49, Try.ntmps49
  go_wp2_with fail
  go_ret
  exact ⟨rfl, rfl⟩

theorem cell_kept_alloc {W : World} {a : Addr} {v : Value} (o : Obj) (h : W.cell? a = some v) : (W.alloc o).cell? a = some v := cell_kept h (World.grownBy_alloc W o none) (fun r e => by cases e)

set_option maxRecDepth 100000 in
set_option maxHeartbeats 2000000 in
/-- all, of the parts of a path and the closure. -/
theorem all_any (p : L) (Bn : Nat) (w : World) (hp : p.length ≤ 9223372036854775807) (hB : Bn < w.heap.size) (hc : w.cell? ⟨Bn, 0, none⟩ = some (.string ⟨p.toArray⟩)) :
    Calls Try.prog 48 #[.func (.func 56) #[] #[.pointer (some ⟨Bn, 0, none⟩)], .func (.func 47) #[] #[]] w fun e w' => e = .returned (.bool ((pcs p).all okP)) ∧ Below w.heap.size w w' := by
  refine (callsIn_wide (n := 3)).1 ?_
  refine callsIn_of_wp_marks Try.func48 rfl trivial ?_ rfl
  simp only [Try.ntmps48, List.size_toArray, List.length_cons, List.length_nil, Nat.reduceAdd, Nat.reduceSub, Array.replicate_succ, Array.replicate_zero, List.push_toArray, List.append_toArray, List.nil_append, List.cons_append]
  gi_wp2
  have b0 := Boxed.new w 40 (.func (.func 47) #[] #[])
  have b1 := Boxed.new (w.alloc (.cells #[.func (.func 47) #[] #[]] 40)) 4 (.bool false)
  have b0' := b0.alloc (.cells #[.bool false] 4)
  rw [World.size_alloc] at b1
  have hB0 : Below w.heap.size w ((w.alloc (.cells #[.func (.func 47) #[] #[]] 40)).alloc (.cells #[.bool false] 4)) := ((Below.refl _ w).alloc (Nat.le_refl _) _).alloc (by simp) _
  refine wpIn_rangeFunc_ownF rfl (by omega) (gf := 56) (lb := #[.pointer (some ⟨Bn, 0, none⟩)]) rfl trivial (enters_of Try.func56 (by kernel_rfl) rfl)
    (parts_stops _ (by omega) Bn w.heap.size p hp _ (by simp; omega) ((hB0.cell (p := ⟨Bn, 0, none⟩) hB).trans hc)) belowK_t (belowK_b (by simp; omega)) (Below.refl _ _) (fun _ => rfl)
    (fun pre W => (pre.all okP = true ∧ W.cell? ⟨w.heap.size, 0, none⟩ = some (.func (.func 47) #[] #[]) ∧ W.cell? ⟨w.heap.size + 1, 0, none⟩ = some (.bool false) ∧ W.frozen? ⟨w.heap.size + 1, 0, none⟩ = false) ∧ Below w.heap.size w W)
    (fun c pre W => (c = .ret ∧ pre.all okP = false ∧ W.cell? ⟨w.heap.size + 1, 0, none⟩ = some (.bool false)) ∧ Below w.heap.size w W)
    (OwnFrom.and (Go.Own.from (fun s A B row hs hg hr => ⟨hs.1, cell_kept hs.2.1 hg hr, cell_kept hs.2.2.1 hg hr, (frozen_kept hs.2.2.1 hg hr).trans hs.2.2.2⟩) _) (ownFrom_below (Nat.le_refl _) (by simp; omega)))
    (fun c => OwnFrom.and (Go.Own.from (fun s A B row hs hg hr => ⟨hs.1, hs.2.1, cell_kept hs.2.2 hg hr⟩) _) (ownFrom_below (Nat.le_refl _) (by simp; omega)))
    ⟨⟨rfl, b0'.cell, b1.cell, b1.frozen⟩, hB0⟩
    (fun x => { tmps := #[.func (.func 56) #[] #[.pointer (some ⟨Bn, 0, none⟩)], .func (.func 47) #[] #[], undef, .pointer (some ⟨w.heap.size, 0, none⟩), .pointer (some ⟨w.heap.size + 1, 0, none⟩), .string ⟨x.toArray⟩, .func (.func 56) #[] #[.pointer (some ⟨Bn, 0, none⟩)], .string ⟨x.toArray⟩, undef, undef, undef, undef], defers := [] }) ?assign ?body ?done ?stop
  case assign =>
    intro l x W K hK
    gi_wp2
    exact hK
  case body =>
    rintro l pre x W ⟨⟨hp, hcw, hcr, hfr⟩, hB⟩ _
    cases hx : okP x
    · have Hx := Lib.hid hx
      clear hx
      gi_wp2_with (refine ⟨trivial, ?_⟩; gi_at_call 47; refine (CallsIn.inRound l (callsIn_wide.2 (okP_any x _))).mono ?_; rintro e w' ⟨rfl, rfl⟩; rw [Hx.out])
      exact ⟨KeepsOthers.setCell _ _ _, ⟨rfl, by rw [List.all_append, List.all_cons, Hx.out]; simp, World.cell?_setCell_same' _ _ _ (by rw [hcr]; rfl)⟩, hB.setCell (p := ⟨w.heap.size + 1, 0, none⟩) (by simp) _⟩
    · have Hx := Lib.hid hx
      clear hx
      gi_wp2_with (refine ⟨trivial, ?_⟩; gi_at_call 47; refine (CallsIn.inRound l (callsIn_wide.2 (okP_any x _))).mono ?_; rintro e w' ⟨rfl, rfl⟩; rw [Hx.out])
      exact ⟨KeepsOthers.refl _, Below.refl _ _, ⟨by rw [List.all_append, hp, List.all_cons, Hx.out]; rfl, hcw, hcr, hfr⟩, hB⟩
  case done =>
    rintro D ys W hD rfl ⟨⟨hall, _, hcr, hfr⟩, hB⟩ hK
    have Hall := Lib.hid hall
    clear hall
    gi_wp2
    have hK' := (KeepsOthers.setCell W ⟨w.heap.size + 1, 0, none⟩ (.bool true)).same D _ hK rfl
    refine ⟨by simp, .inl ⟨_, _, rfl, run_takeDeferred hK', ?_⟩⟩
    have hc5 := cell_kept (World.cell?_setCell_same' W ⟨w.heap.size + 1, 0, none⟩ (.bool true) (by rw [hcr]; rfl)) (grownBy_putObj' _ D (.deferred none)) (fun r e => by cases e; exact ⟨_, hK', rfl⟩)
    refine ⟨.bool true, ?_, by rw [Hall.out], (hB.setCell (p := ⟨w.heap.size + 1, 0, none⟩) (by simp) _).trans (belowK_b (w := w) (Nat.le_refl _) _ D _ _ (by simp at hD; omega) hK' rfl rfl)⟩
    simp [results, Try.f48, go_sem, hc5]
  case stop =>
    rintro D c pre W hD hpre ⟨⟨rfl, hin, hcr⟩, hB⟩ hK
    have Hin := Lib.hid hin
    clear hin
    gi_wp2
    refine ⟨by simp, .inl ⟨_, _, rfl, run_takeDeferred hK, ?_⟩⟩
    have hc5 := cell_kept hcr (grownBy_putObj' _ D (.deferred none)) (fun r e => by cases e; exact ⟨_, hK, rfl⟩)
    have hall : (pcs p).all okP = false := by
      obtain ⟨r, hr⟩ := hpre
      rw [← hr, List.all_append, Hin.out]
      rfl
    refine ⟨.bool false, ?_, by rw [hall], hB.trans (belowK_b (w := w) (Nat.le_refl _) W D _ _ (by simp at hD; omega) hK rfl rfl)⟩
    simp [results, Try.f48, go_sem, hc5]
end Go.Proofs.Ytcgihjgfocohmaa.Path
