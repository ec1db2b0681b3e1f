/-
  What package parse's code does with a block, by the state's phase: begin, takeData, takeNoughts, takeNothing, text, takeName, takeLink. No statement is proved here.
-/
import Derived.Test.YtieefnnfnimflaaGreatParseQ
import Derived.Test.YtieefnnfnimflaaGreatParseI
import Derived.Test.YtieefnnfnimflaaGreatHeadGet
import Derived.Test.YtieefnnfnimflaaGreatTreeC4
import Derived.Deep.RegionHeld3
namespace Go.Proofs.YtieefnnfnimflaaGreat.Parse
open Go.RowKit Go.Proofs.YtieefnnfnimflaaGreat.Base Go.Proofs.YtieefnnfnimflaaGreat.Node

theorem nd_cells' {w : World} {b : Nat} {t : TypeId} {n : Nd} (hb : Blk w b t (ncells n)) : w.cell? ⟨b, 0, none⟩ = some (.string ⟨n.path.toArray⟩) ∧ w.cell? ⟨b, 1, none⟩ = some (.string ⟨n.link.toArray⟩) ∧ w.cell? ⟨b, 2, none⟩ = some (.int .u8 (n.kind.toNat : Int)) ∧ w.cell? ⟨b, 3, none⟩ = some (.int .i64 n.mode) ∧
    w.cell? ⟨b, 4, none⟩ = some (.int .i64 n.uid) ∧ w.cell? ⟨b, 5, none⟩ = some (.int .i64 n.gid) ∧ w.cell? ⟨b, 6, none⟩ = some (.int .i64 n.time) ∧ w.cell? ⟨b, 7, none⟩ = some (.string ⟨n.data.toArray⟩) := by
  refine ⟨?_, ?_, ?_, ?_, ?_, ?_, ?_, ?_⟩ <;> (rw [hb.cell]; rfl)
/-- A row that is the call's own lies in no block made later. -/
theorem row_new {w : World} {lo b : Nat} {v : Value} {xs : List Evt} (h : RowE w lo v xs) (hb : w.heap.size ≤ b) : v.ownBlock ≠ some b := fun e => absurd (h.own b e).2 (by omega)
/-- Of what lies ahead of lo nothing but the parser at g has changed. -/
structure Kp (g lo : Nat) (w w' : World) : Prop where
  os : w'.os = w.os
  tape : w'.tape = w.tape
  output : w'.output = w.output
  size : w.heap.size ≤ w'.heap.size
  block : ∀ k, k < lo → k ≠ g → w'.heap[k]? = w.heap[k]?
section
variable {g lo : Nat} {v : Value} {w w' w2 : World} {s : St} {xs : List Evt}
theorem Kp.refl (g lo : Nat) (w : World) : Kp g lo w w := ⟨rfl, rfl, rfl, Nat.le_refl _, fun _ _ _ => rfl⟩
theorem Kp.trans (h : Kp g lo w w') (h2 : Kp g lo w' w2) : Kp g lo w w2 := ⟨h2.os.trans h.os, h2.tape.trans h.tape, h2.output.trans h.output, Nat.le_trans h.size h2.size, fun k hk hg => (h2.block k hk hg).trans (h.block k hk hg)⟩
theorem Kp.of_tch (h : Tch g v w w') (hr : RowE w lo v xs) (hlo : lo ≤ w.heap.size) : Kp g lo w w' :=
  ⟨h.os, h.tape, h.output, h.size, fun k hk hg => h.block k (by omega) hg (fun e => absurd (hr.own k e).1 (by omega))⟩
theorem Lies.kp (h : Lies w g lo s v xs) (ht : Tch g v w w') : Kp g lo w w' := Kp.of_tch ht h.row h.le
theorem Kp.of_stp (h : Stp w w') (hlo : lo ≤ w.heap.size) : Kp g lo w w' := ⟨h.os, h.tape, h.output, h.size, fun k hk _ => h.block k (by omega)⟩
theorem Kp.stp (h : Kp g lo w w') (h2 : Stp w' w2) (hlo : lo ≤ w'.heap.size) : Kp g lo w w2 := h.trans (.of_stp h2 hlo)
theorem Kp.put (h : Kp g lo w w') (i : Nat) (u : Value) : Kp g lo w (w'.setCell ⟨g, i, none⟩ u) :=
  ⟨h.os, h.tape, h.output, by simpa [World.setCell] using h.size, fun k hk hg => (Below.heap_setCell w' ⟨g, i, none⟩ u k hg).trans (h.block k hk hg)⟩
theorem Kp.blk (h : Kp g lo w w') {b : Nat} {t : TypeId} {cs : Array Value} (hb : Blk w b t cs) (hlo : b < lo) (hg : b ≠ g) : Blk w' b t cs := (h.block b hlo hg).trans hb
theorem Kp.stp0 (h : Kp g lo w w') {w0 : World} (h0 : Stp w0 w) (hg : w0.heap.size ≤ g) (hlo : w0.heap.size ≤ lo) : Stp w0 w' :=
  ⟨h.os.trans h0.os, h.tape.trans h0.tape, h.output.trans h0.output, Nat.le_trans h0.size h.size, fun k hk => (h.block k (by omega) (by omega)).trans (h0.block k hk)⟩
end

/-- What is told of a node that begins. -/
def begT (n : Nd) (q : Int) : St := if q = 0 then zeroS else ⟨3, n, q, q, [], [], []⟩
def begE (n : Nd) (q : Int) : List Evt := if q = 0 then [⟨0, n, []⟩, ⟨2, zeroN, []⟩] else [⟨0, n, []⟩]
set_option maxRecDepth 100000 in
theorem begin_s (g lo : Nat) (s : St) (v : Value) (n : Nd) (q : Int) (w : World) (h : Lies w g lo s v []) :
    Calls Tryz.prog 91 #[.pointer (some ⟨g, 0, none⟩), nv n, .int .i64 q] w fun e w' => e = .returned (.tuple #[]) ∧ ∃ v', Lies w' g lo (begT n q) v' (begE n q) ∧ Kp g lo w w' := by
  have hs := Stp.alloc (Stp.refl w) (.cells (ncells n) 23)
  have H := Lib.hid (h.keep hs)
  have T := Lib.hid (Kp.of_stp (g := g) hs h.le)
  have Hb := Lib.hid (Blk.new w 23 (ncells n))
  have hbg : w.heap.size ≠ g := Nat.ne_of_gt h.blk.lt
  have hbv := row_new h.row (Nat.le_refl w.heap.size)
  have Hw := Lib.hid (show ∀ k, v.ownBlock = some k → k < w.heap.size from fun k e => (h.row.own k e).2)
  have Hlo := Lib.hid h.le
  clear h hs
  obtain ⟨c0, c1, c2, c3, c4, c5, c6, c7⟩ := nd_cells' Hb.out
  go_enter Tryz.func91, Tryz.ntmps91
  go_wp2_with (first
    | (go_at_call 94; (refine (tell_v g lo s v [] ⟨0, n, []⟩ _ (by rfl) (by simp) _ H.out).mono ?_); rintro e w1 ⟨rfl, v1, hv1, ht1⟩; have H1 := Lib.hid hv1; have T1 := Lib.hid ht1; have Hb1 := Lib.hid (ht1.blk Hb.out hbg hbv); clear hv1 ht1 c0 c1 c2 c3 c4 c5 c6 c7; obtain ⟨q0, q1, q2, q3, q4, q5, q6, q7, q8, q9, q10, q11, q12, q13, q14⟩ := H1.out.cells; have hz := H1.out.free; obtain ⟨c0, c1, c2, c3, c4, c5, c6, c7⟩ := nd_cells' Hb1.out)
    | (go_at_call 95; (refine (end_s g lo ⟨3, n, q, q, [], [], []⟩ v1 _ (by simp) _ (fillP_lies _ H1.out)).mono ?_); rintro e w2 ⟨rfl, v2, hv2, ht2⟩; have H2 := Lib.hid hv2; have T2 := Lib.hid ht2; clear hv2 ht2))
  go_end0
  refine ⟨rfl, v2, ?_, ?_⟩
  · have h2 := H2.out
    unfold begT begE
    by_cases hq : q = 0
    · rw [if_pos hq, if_pos hq] at *
      exact h2
    · rw [if_neg hq, if_neg hq] at *
      exact h2
  · have hl := fillP_lies ⟨3, n, q, q, [], [], []⟩ H1.out
    exact (T.out.trans (H.out.kp T1.out)).trans ((Kp.of_tch (fillP_tch ⟨3, n, q, q, [], [], []⟩ (Tch.refl g v1 w1)) H1.out.row H1.out.le).trans (hl.kp T2.out))

/-- How a phase ends: with a new state and what is told, or with a panic. -/
def Took (g lo : Nat) (a : Ans) (w : World) (e : Ending) (w' : World) : Prop :=
  ((a.2.2 = 0 ∧ e = .returned (.tuple #[]) ∧ ∃ v, Lies w' g lo a.1 v a.2.1) ∨ (a.2.2 ≠ 0 ∧ e = .panicked [pe a.2.2])) ∧ Kp g lo w w'
section
variable {g lo : Nat} {w w' : World} {s t : St} {y : List Evt} {e0 : Int} {v : Value}
theorem took_go (h : Lies w' g lo t v y) (hk : Kp g lo w w') : Took g lo (t, y, 0) w (.returned (.tuple #[])) w' := ⟨.inl ⟨rfl, rfl, v, h⟩, hk⟩
theorem took_no (h : e0 ≠ 0) (hk : Kp g lo w w') : Took g lo (s, [], e0) w (.panicked [pe e0]) w' := ⟨.inr ⟨h, rfl⟩, hk⟩
end
set_option maxRecDepth 100000 in
theorem nothing_s (g lo : Nat) (s : St) (u : Value) (w : World) :
    Calls Tryz.prog 67 #[.pointer (some ⟨g, 0, none⟩), u] w fun e w' => Took g lo (s, [], 17) w e w' := by
  go_enter Tryz.func67, Tryz.ntmps67
  go_wp2_with fail
  exact ⟨rfl, took_no (by decide) (Kp.refl g lo w)⟩
set_option maxRecDepth 100000 in
theorem noughts_s (g lo : Nat) (v : Value) (b : L) (hb : b.length = 512) (A : Option Addr) (c : Nat) (w : World) (h : Lies w g lo (phS 4) v []) (ha : RdA w A c (bs b)) :
    Calls Tryz.prog 66 #[.pointer (some ⟨g, 0, none⟩), .slice A b.length c] w fun e w' => Took g lo (if BlockM.zeroV b = true then (phS 5, [], 0) else (phS 4, [], 2)) w e w' := by
  have H := Lib.hid h
  have Ha := Lib.hid ha
  have Hl := Lib.hid (show b.length < 9223372036854775808 by omega)
  obtain ⟨z, hz⟩ : ∃ z, BlockM.zeroV b = z := ⟨_, rfl⟩
  rw [hz]
  have Hz := Lib.hid hz
  clear h ha hb hz
  go_enter Tryz.func66, Tryz.ntmps66
  go_wp2_with (first
    | (go_at_call 96; (with_reducible refine (Block.zero_s b _ _ _ Ha.out Hl.out).mono ?_); rintro e w1 ⟨rfl, hs⟩; rw [Hz.out]; have H1 := Lib.hid (H.out.keep hs); have K1 := Lib.hid (Kp.of_stp (g := g) hs H.out.le); clear hs; obtain ⟨q0, q1, q2, q3, q4, q5, q6, q7, q8, q9, q10, q11, q12, q13, q14⟩ := H1.out.cells; have hz := H1.out.free)
    | (go_at_call 48; (refine (must_s z 2 _).mono ?_); rintro e w2 ⟨⟨rfl, rfl⟩ | ⟨rfl, rfl⟩, rfl⟩))
  · go_end0
    exact took_go ⟨H1.out.blk.put 0 _, H1.out.row.put H1.out.lt 0 _, H1.out.lt, Nat.le_trans H1.out.le ((Kp.refl g lo _).put 0 _).size⟩ (K1.out.put 0 _)
  · exact ⟨rfl, took_no (by decide) K1.out⟩
end Go.Proofs.YtieefnnfnimflaaGreat.Parse
