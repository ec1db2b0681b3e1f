/-
  What package parse's code does with a block, by the state's phase: begin, takeData, takeNoughts, takeNothing, text, takeName, takeLink. No statement is proved here.
  What package parse's code does with a block of a file's bytes, and of a long text: takeData, text, takeName, takeLink. No statement is proved here.
  What package parse's code does with the block of a long text: takeName, takeLink. No statement is proved here.
-/
import Derived.Test.YthjdejjejlhioaaGreatDoorParseQ
import Derived.Test.YthjdejjejlhioaaGreatDoorParseI
import Derived.Test.YthjdejjejlhioaaGreatDoorHeadGet
import Derived.Test.YthjdejjejlhioaaGreatDoorTreeS
import Derived.Deep.RegionHeld3
import Derived.Deep.Cut
import Derived.RegionDies
namespace Go.Proofs.YthjdejjejlhioaaGreatDoor.Parse
open Go.RowKit Go.Proofs.YthjdejjejlhioaaGreatDoor.Base Go.Proofs.YthjdejjejlhioaaGreatDoor.Node

theorem nd_cells' {w : World} {b : Nat} {t : TypeId} {n : Nd} (hb : Blk w b t (ncells n)) : w.cell? ⟨b, 0, none⟩ = some (.string ⟨n.path.toArray⟩) ∧ w.cell? ⟨b, 1, none⟩ = some (.string ⟨n.link.toArray⟩) ∧ w.cell? ⟨b, 2, none⟩ = some (.int .u8 (n.kind.toNat : Int)) ∧ w.cell? ⟨b, 3, none⟩ = some (.int .i64 n.mode) ∧
    w.cell? ⟨b, 4, none⟩ = some (.int .i64 n.uid) ∧ w.cell? ⟨b, 5, none⟩ = some (.int .i64 n.gid) ∧ w.cell? ⟨b, 6, none⟩ = some (.int .i64 n.time) ∧ w.cell? ⟨b, 7, none⟩ = some (.string ⟨n.data.toArray⟩) := by
  refine ⟨?_, ?_, ?_, ?_, ?_, ?_, ?_, ?_⟩ <;> (rw [hb.cell]; rfl)
/-- A row that is the call's own lies in no block made later. -/
theorem row_new {w : World} {lo b : Nat} {v : Value} {xs : List Evt} (h : RowE w lo v xs) (hb : w.heap.size ≤ b) : v.ownBlock ≠ some b := fun e => absurd (h.own b e).2 (by omega)
/-- Of what lies ahead of lo nothing but the parser at g has changed. -/
structure Kp (g lo : Nat) (w w' : World) : Prop where
  os : w'.os = w.os
  tape : w'.tape = w.tape
  output : w'.output = w.output
  size : w.heap.size ≤ w'.heap.size
  block : ∀ k, k < lo → k ≠ g → w'.heap[k]? = w.heap[k]?
section
variable {g lo : Nat} {v : Value} {w w' w2 : World} {s : St} {xs : List Evt}
theorem Kp.refl (g lo : Nat) (w : World) : Kp g lo w w := ⟨rfl, rfl, rfl, Nat.le_refl _, fun _ _ _ => rfl⟩
theorem Kp.trans (h : Kp g lo w w') (h2 : Kp g lo w' w2) : Kp g lo w w2 := ⟨h2.os.trans h.os, h2.tape.trans h.tape, h2.output.trans h.output, Nat.le_trans h.size h2.size, fun k hk hg => (h2.block k hk hg).trans (h.block k hk hg)⟩
theorem Kp.of_tch (h : Tch g v w w') (hr : RowE w lo v xs) (hlo : lo ≤ w.heap.size) : Kp g lo w w' :=
  ⟨h.os, h.tape, h.output, h.size, fun k hk hg => h.block k (by omega) hg (fun e => absurd (hr.own k e).1 (by omega))⟩
theorem Lies.kp (h : Lies w g lo s v xs) (ht : Tch g v w w') : Kp g lo w w' := Kp.of_tch ht h.row h.le
theorem Kp.of_stp (h : Stp w w') (hlo : lo ≤ w.heap.size) : Kp g lo w w' := ⟨h.os, h.tape, h.output, h.size, fun k hk _ => h.block k (by omega)⟩
theorem Kp.stp (h : Kp g lo w w') (h2 : Stp w' w2) (hlo : lo ≤ w'.heap.size) : Kp g lo w w2 := h.trans (.of_stp h2 hlo)
theorem Kp.put (h : Kp g lo w w') (i : Nat) (u : Value) : Kp g lo w (w'.setCell ⟨g, i, none⟩ u) :=
  ⟨h.os, h.tape, h.output, by simpa [World.setCell] using h.size, fun k hk hg => (Below.heap_setCell w' ⟨g, i, none⟩ u k hg).trans (h.block k hk hg)⟩
theorem Kp.blk (h : Kp g lo w w') {b : Nat} {t : TypeId} {cs : Array Value} (hb : Blk w b t cs) (hlo : b < lo) (hg : b ≠ g) : Blk w' b t cs := (h.block b hlo hg).trans hb
theorem Kp.stp0 (h : Kp g lo w w') {w0 : World} (h0 : Stp w0 w) (hg : w0.heap.size ≤ g) (hlo : w0.heap.size ≤ lo) : Stp w0 w' :=
  ⟨h.os.trans h0.os, h.tape.trans h0.tape, h.output.trans h0.output, Nat.le_trans h0.size h.size, fun k hk => (h.block k (by omega) (by omega)).trans (h0.block k hk)⟩
end

/-- What is told of a node that begins. -/
def begT (n : Nd) (q : Int) : St := if q = 0 then zeroS else ⟨3, n, q, q, [], [], []⟩
def begE (n : Nd) (q : Int) : List Evt := if q = 0 then [⟨0, n, []⟩, ⟨2, zeroN, []⟩] else [⟨0, n, []⟩]
set_option maxRecDepth 100000 in
theorem begin_s (g lo : Nat) (s : St) (v : Value) (n : Nd) (q : Int) (w : World) (h : Lies w g lo s v []) :
    Calls Tryz.prog 163 #[.pointer (some ⟨g, 0, none⟩), nv n, .int .i64 q] w fun e w' => e = .returned (.tuple #[]) ∧ ∃ v', Lies w' g lo (begT n q) v' (begE n q) ∧ Kp g lo w w' := by
  have hs := Stp.alloc (Stp.refl w) (.cells (ncells n) 44)
  have H := Lib.hid (h.keep hs)
  have T := Lib.hid (Kp.of_stp (g := g) hs h.le)
  have Hb := Lib.hid (Blk.new w 44 (ncells n))
  have hbg : w.heap.size ≠ g := Nat.ne_of_gt h.blk.lt
  have hbv := row_new h.row (Nat.le_refl w.heap.size)
  have Hw := Lib.hid (show ∀ k, v.ownBlock = some k → k < w.heap.size from fun k e => (h.row.own k e).2)
  have Hlo := Lib.hid h.le
  clear h hs
  obtain ⟨c0, c1, c2, c3, c4, c5, c6, c7⟩ := nd_cells' Hb.out
  go_enter Tryz.func163, Tryz.ntmps163
  go_wp2_with (first
    | (go_at_call 166; (refine (tell_v g lo s v [] ⟨0, n, []⟩ _ (by rfl) (by simp) _ H.out).mono ?_); rintro e w1 ⟨rfl, v1, hv1, ht1⟩; have H1 := Lib.hid hv1; have T1 := Lib.hid ht1; have Hb1 := Lib.hid (ht1.blk Hb.out hbg hbv); clear hv1 ht1 c0 c1 c2 c3 c4 c5 c6 c7; obtain ⟨q0, q1, q2, q3, q4, q5, q6, q7, q8, q9, q10, q11, q12, q13, q14⟩ := H1.out.cells; have hz := H1.out.free; obtain ⟨c0, c1, c2, c3, c4, c5, c6, c7⟩ := nd_cells' Hb1.out)
    | (go_at_call 167; (refine (end_s g lo ⟨3, n, q, q, [], [], []⟩ v1 _ (by simp) _ (fillP_lies _ H1.out)).mono ?_); rintro e w2 ⟨rfl, v2, hv2, ht2⟩; have H2 := Lib.hid hv2; have T2 := Lib.hid ht2; clear hv2 ht2))
  go_end0
  refine ⟨rfl, v2, ?_, ?_⟩
  · have h2 := H2.out
    unfold begT begE
    by_cases hq : q = 0
    · rw [if_pos hq, if_pos hq] at *
      exact h2
    · rw [if_neg hq, if_neg hq] at *
      exact h2
  · have hl := fillP_lies ⟨3, n, q, q, [], [], []⟩ H1.out
    exact (T.out.trans (H.out.kp T1.out)).trans ((Kp.of_tch (fillP_tch ⟨3, n, q, q, [], [], []⟩ (Tch.refl g v1 w1)) H1.out.row H1.out.le).trans (hl.kp T2.out))

/-- How a phase ends: with a new state and what is told, or with a panic. -/
def Took (g lo : Nat) (a : Ans) (w : World) (e : Ending) (w' : World) : Prop :=
  ((a.2.2 = 0 ∧ e = .returned (.tuple #[]) ∧ ∃ v, Lies w' g lo a.1 v a.2.1) ∨ (a.2.2 ≠ 0 ∧ e = .panicked [pe a.2.2])) ∧ Kp g lo w w'
section
variable {g lo : Nat} {w w' : World} {s t : St} {y : List Evt} {e0 : Int} {v : Value}
theorem took_go (h : Lies w' g lo t v y) (hk : Kp g lo w w') : Took g lo (t, y, 0) w (.returned (.tuple #[])) w' := ⟨.inl ⟨rfl, rfl, v, h⟩, hk⟩
theorem took_no (h : e0 ≠ 0) (hk : Kp g lo w w') : Took g lo (s, [], e0) w (.panicked [pe e0]) w' := ⟨.inr ⟨h, rfl⟩, hk⟩
end
set_option maxRecDepth 100000 in
theorem nothing_s (g lo : Nat) (s : St) (u : Value) (w : World) :
    Calls Tryz.prog 140 #[.pointer (some ⟨g, 0, none⟩), u] w fun e w' => Took g lo (s, [], 17) w e w' := by
  go_enter Tryz.func140, Tryz.ntmps140
  go_wp2_with fail
  exact ⟨rfl, took_no (by decide) (Kp.refl g lo w)⟩
set_option maxRecDepth 100000 in
theorem noughts_s (g lo : Nat) (v : Value) (b : L) (hb : b.length = 512) (A : Option Addr) (c : Nat) (w : World) (h : Lies w g lo (phS 4) v []) (ha : RdA w A c (bs b)) :
    Calls Tryz.prog 139 #[.pointer (some ⟨g, 0, none⟩), .slice A b.length c] w fun e w' => Took g lo (if BlockM.zeroV b = true then (phS 5, [], 0) else (phS 4, [], 2)) w e w' := by
  have H := Lib.hid h
  have Ha := Lib.hid ha
  have Hl := Lib.hid (show b.length < 9223372036854775808 by omega)
  obtain ⟨z, hz⟩ : ∃ z, BlockM.zeroV b = z := ⟨_, rfl⟩
  rw [hz]
  have Hz := Lib.hid hz
  clear h ha hb hz
  go_enter Tryz.func139, Tryz.ntmps139
  go_wp2_with (first
    | (go_at_call 122; (with_reducible refine (Block.zero_s b _ _ _ Ha.out Hl.out).mono ?_); rintro e w1 ⟨rfl, hs⟩; rw [Hz.out]; have H1 := Lib.hid (H.out.keep hs); have K1 := Lib.hid (Kp.of_stp (g := g) hs H.out.le); clear hs; obtain ⟨q0, q1, q2, q3, q4, q5, q6, q7, q8, q9, q10, q11, q12, q13, q14⟩ := H1.out.cells; have hz := H1.out.free)
    | (go_at_call 102; (refine (must_s z 2 _).mono ?_); rintro e w2 ⟨⟨rfl, rfl⟩ | ⟨rfl, rfl⟩, rfl⟩))
  · go_end0
    exact took_go ⟨H1.out.blk.put 0 _, H1.out.row.put H1.out.lt 0 _, H1.out.lt, Nat.le_trans H1.out.le ((Kp.refl g lo _).put 0 _).size⟩ (K1.out.put 0 _)
  · exact ⟨rfl, took_no (by decide) K1.out⟩
end Go.Proofs.YthjdejjejlhioaaGreatDoor.Parse

namespace Go.Proofs.YthjdejjejlhioaaGreatDoor.Parse
open Go.RowKit Go.Proofs.YthjdejjejlhioaaGreatDoor.Base Go.Proofs.YthjdejjejlhioaaGreatDoor.Node Go.Proofs.YthjdejjejlhioaaGreatDoor.Long

theorem cut_hi (b o n c : Nat) (m : Nat) (hi : m ≤ c) (hc : 0 < c) (w : World) : (Instr.slice 57 (.slice (some ⟨b, o, none⟩) n c) none (some (.int .i64 (m : Int))) none).run Tryz.prog w = .ok (.slice (some ⟨b, o, none⟩) m c) w := by
  have he : Tryz.prog.elem 57 = 5 := by kernel_rfl
  have hs : (sizeOf 5).run Tryz.prog w = .ok 1 w := by
    have hi : (Tryz.prog.info? 5).map (·.size) = some 1 := by kernel_rfl
    cases hq : Tryz.prog.info? 5 with
    | none => simp [hq] at hi
    | some i =>
      have : i.size = 1 := by simpa [hq] using hi
      simp [sizeOf, typeInfo, hq, this]
  rw [run_slice_h (P := Tryz.prog) w 57 _ _ _ (by rw [he]; exact Tryz.underlying57) .i64 _ (by omega) (by omega), he, hs]
  simp only [Result.andThen_ok, sliced]
  rw [if_neg (by omega)]
  simp only [Option.map_some, Addr.add_lit, Int.toNat_natCast, Nat.zero_mul, Nat.add_zero, Nat.sub_zero]
theorem cut_lo (b o n c : Nat) (m : Nat) (hi : m ≤ n) (hc : m < c) (w : World) : (Instr.slice 57 (.slice (some ⟨b, o, none⟩) n c) (some (.int .i64 (m : Int))) none none).run Tryz.prog w = .ok (.slice (some ⟨b, o + m, none⟩) (n - m) (c - m)) w := by
  have he : Tryz.prog.elem 57 = 5 := by kernel_rfl
  have hs : (sizeOf 5).run Tryz.prog w = .ok 1 w := by
    have hi : (Tryz.prog.info? 5).map (·.size) = some 1 := by kernel_rfl
    cases hq : Tryz.prog.info? 5 with
    | none => simp [hq] at hi
    | some i =>
      have : i.size = 1 := by simpa [hq] using hi
      simp [sizeOf, typeInfo, hq, this]
  rw [run_slice_l (P := Tryz.prog) w 57 _ _ _ (by rw [he]; exact Tryz.underlying57) .i64 _ (by omega) (by omega), he, hs]
  simp only [Result.andThen_ok, sliced]
  rw [if_neg (by omega)]
  simp only [Option.map_some, Addr.add_lit, Int.toNat_natCast, Nat.mul_one]

theorem bs_take (l : L) (m : Nat) : bs (l.take m) = (bs l).take m := by simp [bs, List.map_take]
set_option maxRecDepth 100000 in
set_option maxHeartbeats 400000 in
theorem data_s (g lo : Nat) (s : St) (v : Value) (q : Nat) (hq : s.left = (q : Int)) (h1 : 1 ≤ q) (h2 : q < 4611686018427387904) (b : L) (hb : b.length = 512) (A : Option Addr) (c : Nat) (w : World) (h : Lies w g lo s v []) (ha : RdA w A c (bs b)) :
    Calls Tryz.prog 138 #[.pointer (some ⟨g, 0, none⟩), .slice A b.length c] w fun e w' => Took g lo (dataS s b) w e w' := by
  have hcl := ha.length_le
  rw [bs_length] at hcl
  obtain ⟨bb, o, rfl, -⟩ := ha.at_ (j := 0) (by rw [bs_length]; omega)
  obtain ⟨m, hm⟩ : ∃ m, min q 512 = m := ⟨_, rfl⟩
  have hmin : min s.left 512 = (m : Int) := by omega
  have hsl := cut_hi bb o b.length c m (by omega) (by omega)
  have hcv := Num.str_of w w.heap.size (.slice (some ⟨bb, o, none⟩) m c) (b.take m) (by
    have ht := ha.take m
    unfold RdA at ht
    rwa [← bs_take, bs_length, List.length_take, Nat.min_eq_left (show m ≤ b.length by omega)] at ht)
  obtain ⟨T, hT⟩ : ∃ T, b.take m = T := ⟨_, rfl⟩
  rw [hT] at hcv
  have HT := Lib.hid hT
  obtain ⟨r, hr⟩ : ∃ r, s.left - (m : Int) = r := ⟨_, rfl⟩
  have hr1 : -9223372036854775808 ≤ s.left - (m : Int) := by omega
  have hr2 : s.left - (m : Int) < 9223372036854775808 := by omega
  have H := Lib.hid h
  obtain ⟨q0, q1, q2, q3, q4, q5, q6, q7, q8, q9, q10, q11, q12, q13, q14⟩ := h.cells
  have hz := h.free
  have HQ := Lib.hid hq
  have HM := Lib.hid hm
  have HR := Lib.hid hr
  have HB := Lib.hid hb
  clear hb hT hcl h1 h2 q0 q1 q2 q3 q4 q5 q6 q7 q8 q9 q11 q12 q13 q14 h ha hq hm hr
  go_enter Tryz.func138, Tryz.ntmps138
  go_upto_region 2 with (go_at_call 166; (refine (tell_v g lo s v [] ⟨1, zeroN, T⟩ _ (by rfl) (by simp) _ H.out).mono ?_); rintro e w1 ⟨rfl, v1, hv1, ht1⟩; have H1 := Lib.hid hv1; have K1 := Lib.hid (H.out.kp ht1); clear hv1 ht1 q10 hz; obtain ⟨q0, q1, q2, q3, q4, q5, q6, q7, q8, q9, q10, q11, q12, q13, q14⟩ := H1.out.cells; have hz := H1.out.free)
  clear q0 q1 q2 q3 q4 q5 q6 q7 q8 q9 q11 q12 q13 q14 hsl hcv hmin
  have Hl := Lib.hid (show Lies (w1.setCell ⟨g, 10, none⟩ (.int .i64 (s.left - (m : Int)))) g lo { s with left := s.left - (m : Int) } v1 ([] ++ [⟨1, zeroN, T⟩]) from ⟨H1.out.blk.put 10 _, H1.out.row.put H1.out.lt 10 _, H1.out.lt, Nat.le_trans H1.out.le ((Kp.refl g lo w1).put 10 _).size⟩)
  have K2 := Lib.hid (K1.out.put 10 (.int .i64 (s.left - (m : Int))))
  go_wp2_with (go_at_call 167; (refine (end_s g lo { s with left := s.left - (m : Int) } v1 ([] ++ [⟨1, zeroN, T⟩]) (by simp) _ Hl.out).mono ?_); rintro e w2 ⟨rfl, v2, hv2, ht2⟩; have H2 := Lib.hid hv2; have K3 := Lib.hid (K2.out.trans (Hl.out.kp ht2)); clear hv2 ht2)
  go_end0
  refine ⟨.inl ⟨?_, rfl, v2, ?_⟩, K3.out⟩
  · unfold dataS
    split <;> rfl
  · have h2 := H2.out
    have hm := HM.out
    have hq := HQ.out
    have hT := HT.out
    unfold dataS
    by_cases h : s.left ≤ 512
    · rw [if_pos h]
      have hz : s.left - (m : Int) = 0 := by omega
      rw [if_pos hz, if_pos hz] at h2
      rw [show s.left.toNat = m by omega, hT]
      exact h2
    · rw [if_neg h]
      have hz : ¬ s.left - (m : Int) = 0 := by omega
      rw [if_neg hz, if_neg hz] at h2
      obtain rfl : m = 512 := by omega
      rw [hT]
      exact h2

set_option maxRecDepth 100000 in
/-- The text that a block has, of a state that waits for so many bytes. -/
theorem text_p (g lo : Nat) (s : St) (v : Value) (q : Nat) (hq : s.size = (q : Int) + 1) (h1 : 1 ≤ q) (h2 : q ≤ 300) (b : L) (hb : b.length = 512) (A : Option Addr) (c : Nat) (w : World) (h : Lies w g lo s v []) (ha : RdA w A c (bs b)) :
    Calls Tryz.prog 165 #[.pointer (some ⟨g, 0, none⟩), .slice A b.length c] w fun e w' =>
      ((textL (b.take q) = true ∧ BlockM.zeroV (b.drop q) = true) ∧ e = .returned (.string ⟨(b.take q).toArray⟩) ∨ ¬ (textL (b.take q) = true ∧ BlockM.zeroV (b.drop q) = true) ∧ e = .panicked [pe 2]) ∧ Stp w w' := by
  have hcl := ha.length_le
  rw [bs_length] at hcl
  obtain ⟨bb, o, rfl, -⟩ := ha.at_ (j := 0) (by rw [bs_length]; omega)
  have hsl := cut_hi bb o b.length c q (by omega) (by omega)
  have hsl2 := cut_lo bb o b.length c q (by omega) (by omega)
  have hcv := Num.str_of w w.heap.size (.slice (some ⟨bb, o, none⟩) q c) (b.take q) (by
    have ht := ha.take q
    unfold RdA at ht
    rwa [← bs_take, bs_length, List.length_take, Nat.min_eq_left (show q ≤ b.length by omega)] at ht)
  obtain ⟨T, hT⟩ : ∃ T, b.take q = T := ⟨_, rfl⟩
  rw [hT] at hcv ⊢
  obtain ⟨D, hD⟩ : ∃ D, b.drop q = D := ⟨_, rfl⟩
  have hsub : Head.sub b q (512 - q) = D := by
    rw [← hD]
    exact List.take_of_length_le (by rw [List.length_drop]; omega)
  have hrd : RdA w (some ⟨bb, o + q, none⟩) (c - q) (bs D) := by
    have := Head.rd_sub ha (i := q) (n := 512 - q) (by omega)
    rw [hsub] at this
    unfold RdA
    rw [bs_length, ← hD, List.length_drop, hb]
    rwa [hD]
  have hDl : b.length - q = D.length := by rw [← hD, List.length_drop]
  rw [hD]
  rw [hDl] at hsl2
  obtain ⟨x, hx⟩ : ∃ x, textL T = x := ⟨_, rfl⟩
  obtain ⟨z, hz0⟩ : ∃ z, BlockM.zeroV D = z := ⟨_, rfl⟩
  rw [hx, hz0]
  have HX := Lib.hid hx
  have HZ := Lib.hid hz0
  have HR := Lib.hid hrd
  have HL := Lib.hid (show D.length < 9223372036854775808 by omega)
  have hsub2 : s.size - 1 = (q : Int) := by omega
  have H := Lib.hid h
  have h0 := Stp.refl w
  obtain ⟨q0, q1, q2, q3, q4, q5, q6, q7, q8, q9, q10, q11, q12, q13, q14⟩ := h.cells
  have g1 : -9223372036854775808 ≤ s.size - 1 := by omega
  have g2 : s.size - 1 < 9223372036854775808 := by omega
  have HB := Lib.hid hb
  clear q0 q1 q2 q3 q4 q5 q6 q7 q8 q10 q11 q12 q13 q14 h ha hq hb hcl hT hD hsub hrd hDl hx hz0 h1 h2
  go_enter Tryz.func165, Tryz.ntmps165
  go_wp2_with (first
    | (go_at_call 53; (with_reducible refine (text_s T _).mono ?_); rintro e w1 ⟨rfl, hs⟩; rw [HX.out]; have H1 := Lib.hid hs; have HR1 := Lib.hid (HR.out.keep hs); clear hs; rcases x)
    | (go_at_call 122; (with_reducible refine (Block.zero_s D _ _ _ HR1.out HL.out).mono ?_); rintro e w2 ⟨rfl, hs⟩; rw [HZ.out]; replace H1 := Lib.hid (Stp.trans H1.out hs); clear hs; rcases z)
    | (go_at_call 102; (refine (must_s _ 2 _).mono ?_); rintro e w2 ⟨⟨hb, rfl⟩ | ⟨hb, rfl⟩, rfl⟩ <;> cases hb))
  all_goals first
    | exact ⟨rfl, rfl, H1.out⟩
    | (go_ret; exact ⟨rfl, H1.out⟩)
    | exact ⟨rfl, .inr ⟨by simp, rfl⟩, H1.out⟩

end Go.Proofs.YthjdejjejlhioaaGreatDoor.Parse

namespace Go.Proofs.YthjdejjejlhioaaGreatDoor.Parse
open Go.RowKit Go.Proofs.YthjdejjejlhioaaGreatDoor.Base Go.Proofs.YthjdejjejlhioaaGreatDoor.Node Go.Proofs.YthjdejjejlhioaaGreatDoor.Long

theorem stp_dr {w w1 : World} (h : Stp w w1) : Stp w w1.drew := Below.drew h
theorem text_yes (g lo : Nat) (s : St) (v : Value) (q : Nat) (hq : s.size = (q : Int) + 1) (h1 : 1 ≤ q) (h2 : q ≤ 300) (b : L) (hb : b.length = 512) (A : Option Addr) (c : Nat) (T : L) (hT : b.take q = T) (ht : textL (b.take q) = true ∧ BlockM.zeroV (b.drop q) = true) (w : World) (h : Lies w g lo s v []) (ha : RdA w A c (bs b)) :
    Calls Tryz.prog 165 #[.pointer (some ⟨g, 0, none⟩), .slice A b.length c] w fun e w' => e = .returned (.string ⟨T.toArray⟩) ∧ Stp w w' := by
  subst hT
  exact (text_p g lo s v q hq h1 h2 b hb A c w h ha).mono fun _ _ hh => ⟨(hh.1.resolve_right (fun hn => hn.1 ht)).2, hh.2⟩
theorem text_no (g lo : Nat) (s : St) (v : Value) (q : Nat) (hq : s.size = (q : Int) + 1) (h1 : 1 ≤ q) (h2 : q ≤ 300) (b : L) (hb : b.length = 512) (A : Option Addr) (c : Nat) (ht : ¬ (textL (b.take q) = true ∧ BlockM.zeroV (b.drop q) = true)) (w : World) (h : Lies w g lo s v []) (ha : RdA w A c (bs b)) :
    Calls Tryz.prog 165 #[.pointer (some ⟨g, 0, none⟩), .slice A b.length c] w fun e w' => e = .panicked [pe 2] ∧ Stp w w' :=
  (text_p g lo s v q hq h1 h2 b hb A c w h ha).mono fun _ _ hh => ⟨(hh.1.resolve_left (fun hn => ht hn.1)).2, hh.2⟩
theorem Lies.all {w : World} {g lo : Nat} {s : St} {v : Value} {xs : List Evt} (h : Lies w g lo s v xs) {W : World} (hW : Stp w W) : W.cell? ⟨g, 0, none⟩ = some (.int .i64 s.phase) ∧ W.cell? ⟨g, 1, none⟩ = some (.string ⟨s.node.path.toArray⟩) ∧ W.cell? ⟨g, 2, none⟩ = some (.string ⟨s.node.link.toArray⟩) ∧ W.cell? ⟨g, 3, none⟩ = some (.int .u8 (s.node.kind.toNat : Int)) ∧ W.cell? ⟨g, 4, none⟩ = some (.int .i64 s.node.mode) ∧ W.cell? ⟨g, 5, none⟩ = some (.int .i64 s.node.uid) ∧ W.cell? ⟨g, 6, none⟩ = some (.int .i64 s.node.gid) ∧ W.cell? ⟨g, 7, none⟩ = some (.int .i64 s.node.time) ∧ W.cell? ⟨g, 8, none⟩ = some (.string ⟨s.node.data.toArray⟩) ∧ W.cell? ⟨g, 9, none⟩ = some (.int .i64 s.size) ∧ W.cell? ⟨g, 10, none⟩ = some (.int .i64 s.left) ∧ W.cell? ⟨g, 11, none⟩ = some (.string ⟨s.text.toArray⟩) ∧ W.cell? ⟨g, 12, none⟩ = some (.string ⟨s.name.toArray⟩) ∧ W.cell? ⟨g, 13, none⟩ = some (.string ⟨s.link.toArray⟩) ∧ (∀ i, W.frozen? ⟨g, i, none⟩ = false) := by
  obtain ⟨q0, q1, q2, q3, q4, q5, q6, q7, q8, q9, q10, q11, q12, q13, -⟩ := (h.keep hW).cells
  exact ⟨q0, q1, q2, q3, q4, q5, q6, q7, q8, q9, q10, q11, q12, q13, (h.keep hW).free⟩

set_option maxRecDepth 100000 in
set_option maxHeartbeats 1000000 in
theorem name_s (g lo : Nat) (s : St) (v : Value) (q : Nat) (hq : s.size = (q : Int) + 1) (h1 : 1 ≤ q) (h2 : q ≤ 300) (b : L) (hb : b.length = 512) (A : Option Addr) (c : Nat) (w : World) (h : Lies w g lo s v []) (ha : RdA w A c (bs b)) :
    Calls Tryz.prog 136 #[.pointer (some ⟨g, 0, none⟩), .slice A b.length c] w fun e w' => Took g lo (if textL (b.take q) = true ∧ BlockM.zeroV (b.drop q) = true then (⟨0, zeroN, 0, 0, [], b.take q, s.link⟩, [], 0) else (s, [], 2)) w e w' := by
  have H := Lib.hid h
  have Key := Lib.hid (fun (W : World) (hW : Stp w W) => h.all hW)
  by_cases hP : textL (b.take q) = true ∧ BlockM.zeroV (b.drop q) = true
  · rw [if_pos hP]
    obtain ⟨T, hT⟩ : ∃ T, b.take q = T := ⟨_, rfl⟩
    have HY := Lib.hid (fun (W : World) (hW : Stp w W) => text_yes g lo s v q hq h1 h2 b hb A c T hT hP W (h.keep hW) (ha.keep hW))
    rw [hT]
    obtain ⟨q0, q1, q2, q3, q4, q5, q6, q7, q8, q9, q10, q11, q12, q13, -⟩ := h.cells
    have hz := h.free
    clear hP hT h ha hb hq h1 h2 Key
    go_enter Tryz.func136, Tryz.ntmps136
    go_region_with (first
      | (go_at_call 165; refine (HY.out w.drew (stp_dr (Stp.refl w))).mono ?_; rintro e w2 ⟨rfl, hs⟩; have H2 := Lib.hid (Stp.trans (stp_dr (Stp.refl w)) hs); clear hs; clear q0 q1 q2 q3 q4 q5 q6 q7 q8 q9 q10 q11 q12 q13 hz; obtain ⟨q0, q1, q2, q3, q4, q5, q6, q7, q8, q9, q10, q11, q12, q13, -⟩ := (H.out.keep H2.out).cells; have hz := (H.out.keep H2.out).free))
    all_goals go_wp2_with fail
    all_goals change bodyPost _ _ _ _ _ (fillP w2 g ⟨0, zeroN, 0, 0, [], T, s.link⟩)
    all_goals go_end0
    all_goals
      have hl := H.out.keep H2.out
      exact took_go (fillP_lies ⟨0, zeroN, 0, 0, [], T, s.link⟩ hl) ((Kp.of_stp H2.out H.out.le).trans (hl.kp (fillP_tch ⟨0, zeroN, 0, 0, [], T, s.link⟩ (Tch.refl g v w2))))
  · rw [if_neg hP]
    have HY := Lib.hid (fun (W : World) (hW : Stp w W) => text_no g lo s v q hq h1 h2 b hb A c hP W (h.keep hW) (ha.keep hW))
    obtain ⟨q0, q1, q2, q3, q4, q5, q6, q7, q8, q9, q10, q11, q12, q13, -⟩ := h.cells
    have hz := h.free
    clear hP h ha hb hq h1 h2 Key
    go_enter Tryz.func136, Tryz.ntmps136
    go_region_dies
    all_goals go_wp2_with (go_at_call 165; refine (HY.out w.drew (stp_dr (Stp.refl w))).mono ?_; rintro e w2 ⟨rfl, hs⟩; exact ⟨rfl, took_no (by decide) (Kp.of_stp (Stp.trans (stp_dr (Stp.refl w)) hs) H.out.le)⟩)

set_option maxRecDepth 100000 in
set_option maxHeartbeats 1000000 in
theorem link_s (g lo : Nat) (s : St) (v : Value) (q : Nat) (hq : s.size = (q : Int) + 1) (h1 : 1 ≤ q) (h2 : q ≤ 300) (b : L) (hb : b.length = 512) (A : Option Addr) (c : Nat) (w : World) (h : Lies w g lo s v []) (ha : RdA w A c (bs b)) :
    Calls Tryz.prog 137 #[.pointer (some ⟨g, 0, none⟩), .slice A b.length c] w fun e w' => Took g lo (if textL (b.take q) = true ∧ BlockM.zeroV (b.drop q) = true then (⟨0, zeroN, 0, 0, [], s.name, b.take q⟩, [], 0) else (s, [], 2)) w e w' := by
  have H := Lib.hid h
  have Key := Lib.hid (fun (W : World) (hW : Stp w W) => h.all hW)
  by_cases hP : textL (b.take q) = true ∧ BlockM.zeroV (b.drop q) = true
  · rw [if_pos hP]
    obtain ⟨T, hT⟩ : ∃ T, b.take q = T := ⟨_, rfl⟩
    have HY := Lib.hid (fun (W : World) (hW : Stp w W) => text_yes g lo s v q hq h1 h2 b hb A c T hT hP W (h.keep hW) (ha.keep hW))
    rw [hT]
    obtain ⟨q0, q1, q2, q3, q4, q5, q6, q7, q8, q9, q10, q11, q12, q13, -⟩ := h.cells
    have hz := h.free
    clear hP hT h ha hb hq h1 h2 Key
    go_enter Tryz.func137, Tryz.ntmps137
    go_region_with (first
      | (go_at_call 165; refine (HY.out w.drew (stp_dr (Stp.refl w))).mono ?_; rintro e w2 ⟨rfl, hs⟩; have H2 := Lib.hid (Stp.trans (stp_dr (Stp.refl w)) hs); clear hs; clear q0 q1 q2 q3 q4 q5 q6 q7 q8 q9 q10 q11 q12 q13 hz; obtain ⟨q0, q1, q2, q3, q4, q5, q6, q7, q8, q9, q10, q11, q12, q13, -⟩ := (H.out.keep H2.out).cells; have hz := (H.out.keep H2.out).free))
    all_goals go_wp2_with fail
    all_goals change bodyPost _ _ _ _ _ (fillP w2 g ⟨0, zeroN, 0, 0, [], s.name, T⟩)
    all_goals go_end0
    all_goals
      have hl := H.out.keep H2.out
      exact took_go (fillP_lies ⟨0, zeroN, 0, 0, [], s.name, T⟩ hl) ((Kp.of_stp H2.out H.out.le).trans (hl.kp (fillP_tch ⟨0, zeroN, 0, 0, [], s.name, T⟩ (Tch.refl g v w2))))
  · rw [if_neg hP]
    have HY := Lib.hid (fun (W : World) (hW : Stp w W) => text_no g lo s v q hq h1 h2 b hb A c hP W (h.keep hW) (ha.keep hW))
    obtain ⟨q0, q1, q2, q3, q4, q5, q6, q7, q8, q9, q10, q11, q12, q13, -⟩ := h.cells
    have hz := h.free
    clear hP h ha hb hq h1 h2 Key
    go_enter Tryz.func137, Tryz.ntmps137
    go_region_dies
    all_goals go_wp2_with (go_at_call 165; refine (HY.out w.drew (stp_dr (Stp.refl w))).mono ?_; rintro e w2 ⟨rfl, hs⟩; exact ⟨rfl, took_no (by decide) (Kp.of_stp (Stp.trans (stp_dr (Stp.refl w)) hs) H.out.le)⟩)
end Go.Proofs.YthjdejjejlhioaaGreatDoor.Parse

