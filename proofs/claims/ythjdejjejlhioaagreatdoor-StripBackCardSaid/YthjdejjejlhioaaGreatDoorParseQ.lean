/-
  append of rows of what is told, as an operation and as a step of a region that draws its order: no statement is proved here.
  The parser of package parse: what it panics with, and how that is recovered: must, the deferred closure, the table of what is done. No statement is proved here. The parser of package parse in memory, and its smallest methods: tell, endIfNoneLeft. No statement is proved here.
-/
import Derived.Test.YthjdejjejlhioaaGreatDoorEvs
import Derived.Test.YthjdejjejlhioaaGreatDoorProg
import Derived.Deep.RegionWith
import Derived.Deep.AppendLies
import Derived.Deep.RegionLaw
import Derived.Test.YthjdejjejlhioaaGreatDoorBase
import Derived.Recover
import Derived.Laws.EntriesVeiled
namespace Go.Proofs.YthjdejjejlhioaaGreatDoor.Parse
open Go.RowKit Go.Proofs.YthjdejjejlhioaaGreatDoor.Base Go.Proofs.YthjdejjejlhioaaGreatDoor.Node

/-- A row of what is told, the call's own. -/
def RowE (w : World) (lo : Nat) (v : Value) (xs : List Evt) : Prop := w.ownsRow lo 98 10 v xs.length (etc xs)
theorem RowE.nil (w : World) (lo : Nat) : RowE w lo (.slice none 0 0) [] := World.ownsRow_nil _ _ _ _
theorem RowE.keep {w w' : World} {lo : Nat} {v : Value} {xs : List Evt} (h : RowE w lo v xs) (hs : Stp w w') : RowE w' lo v xs := row_keep h hs
theorem RowE.stp {w0 w w' : World} {lo : Nat} {v : Value} {xs : List Evt} (h : RowE w lo v xs) (h0 : Stp w0 w) (hlo : w0.heap.size ≤ lo) (hg : w.grownBy w' v.ownBlock) : Stp w0 w' := row_stp h h0 hlo hg
theorem RowE.rd {w : World} {lo : Nat} {v : Value} {xs : List Evt} (h : RowE w lo v xs) : ∃ A cap, v = .slice A xs.length cap ∧ RdE w A cap xs := RdE.of_row h

theorem ev_info : (Tryz.prog.info? 98).map (fun i => (i.zero, i.size, i.bytes)) = some (some (evv ⟨0, zeroN, []⟩), 10, 112) := by kernel_rfl
theorem run_app_evs (xs ys : List Evt) (v : Value) (A : Option Addr) (c m : Nat) (hm : ys.length = m) (ty : TypeId) (base : Nat) (w : World) (h : RowE w base v xs) (ha : RdE w A c ys) (hl : xs.length + ys.length ≤ 1000000) (hbase : base ≤ w.heap.size) :
    ∃ v' w', (Builtin.append_ #[54, 54] ty #[v, .slice A m c]).run Tryz.prog w = .ok v' w' ∧ RowE w' base v' (xs ++ ys) ∧ w.grownBy w' v.ownBlock := by
  subst hm
  obtain ⟨i, hi, hz, hsz, hby⟩ := info_parts ev_info
  have step : ∀ (ad : Addr) (n : Nat), n = ys.length → (∀ (j : Nat) (u : Value), (etc ys)[j]? = some u → w.cell? (ad.add j) = some u) →
      ∃ v' w', (Builtin.append_ #[54, 54] ty #[v, .slice (some ad) n c]).run Tryz.prog w = .ok v' w' ∧ RowE w' base v' (xs ++ ys) ∧ w.grownBy w' v.ownBlock := by
    rintro ad n rfl hc
    obtain ⟨v', w', hr, h2, h3, -, -⟩ := run_append_own_at (P := Tryz.prog) w base 54 ty 98 i _ 10 112 Tryz.underlying54 hi hz hsz hby rfl (by decide) v xs.length (etc xs) h
      ad ys.length c (etc ys) (etc_length ys) hc (etc_one ys) (by unfold maxLen; omega) (by omega) hbase
    refine ⟨v', w', hr, ?_, h3⟩
    unfold RowE
    rw [etc_append, List.length_append]
    exact h2
  by_cases hne : ys = []
  · cases A with
    | some ad => exact step ad _ rfl (fun j u hj => by rw [hne] at hj; simp [etc] at hj)
    | none =>
      subst hne
      refine ⟨v, w, ?_, by rw [List.append_nil]; exact h, World.grownBy.refl w _⟩
      obtain ⟨B, k, rfl, hb, -⟩ := h.rd
      cases B <;> simp [Builtin.append_, run_underlying Tryz.underlying54, sizeOf, typeInfo, hi, Builtin.lenOf, Builtin.firstCells, hb, storeCells]
  · obtain ⟨b, o, rfl, -, hcell⟩ := ha.2 hne
    exact step ⟨b, o, none⟩ _ rfl (fun j u hj => by rw [Addr.add_lit]; exact hcell j u hj)

section
variable {ops : Array Oper} {o : Oper} {a : Act} {K : Act → World → Prop} {Q : Exit → Act → World → Prop} {E : Prop}
theorem step_app_evs (w : World) (hgd : o.guard = none) (s x : Operand) (ho : o.op = .call { callee := .builtin .append, args := #[s, x], argTypes := #[54, 54] }) (base : Nat) (v : Value) (xs : List Evt) (hs : a.eval s = v) (h : RowE w base v xs)
    (ys : List Evt) (A : Option Addr) (n c : Nat) (hx : a.eval x = .slice A n c) (ha : RdE w A c ys) (hn : ys.length = n) (hl : xs.length + ys.length ≤ 1000000) (hbase : base ≤ w.heap.size)
    (hK : ∀ v' w', RowE w' base v' (xs ++ ys) → w.grownBy w' v.ownBlock → K (a.put o.dst v') w') :
    if Region.wanted o (yielded ops a.tmps) = true then Oper.wp Tryz.prog o a w K Q else E := by
  obtain ⟨v', w', hr, h2, h3⟩ := run_app_evs xs ys v A c n hn o.type base w h ha hl hbase
  rw [if_pos (by simp [Region.wanted, hgd])]
  unfold Oper.wp execOp
  simp only [ho, resolve, invoke, builtin, Sem.run_bind, Sem.run_pure, Result.andThen_ok, List.map_toArray, List.map_cons, List.map_nil, hs, hx, hr]
  exact hK v' w' h2 h3
end
end Go.Proofs.YthjdejjejlhioaaGreatDoor.Parse

namespace Go.Proofs.YthjdejjejlhioaaGreatDoor.Parse
open Go.RowKit Go.Proofs.YthjdejjejlhioaaGreatDoor.Base

/-- What is panicked with. -/
abbrev pe (e : Int) : PanicEntry := { v := .iface 30 (.int .i64 e), recovered := false }

set_option maxRecDepth 100000 in
theorem must_s (b : Bool) (e0 : Int) (w : World) :
    Calls Tryz.prog 102 #[.bool b, .int .i64 e0] w fun e w' => (b = true ∧ e = .returned (.tuple #[]) ∨ b = false ∧ e = .panicked [pe e0]) ∧ w' = w := by
  cases b
  · go_enter Tryz.func102, Tryz.ntmps102
    go_wp2
    exact ⟨rfl, .inr ⟨trivial, rfl⟩, rfl⟩
  · go_enter Tryz.func102, Tryz.ntmps102
    go_wp2
    go_end0
    exact ⟨.inl ⟨trivial, rfl⟩, rfl⟩

theorem run_wrong (n : Int) (w : World) : (Instr.typeAssert (.iface 30 (.int .i64 n)) 20 30 false).run Tryz.prog w = .ok (.int .i64 n) w := by
  simp [Instr.typeAssert, run_underlying Tryz.underlying30, go_sem]
/-- The deferred closure, of a frame that panics: what was panicked with is laid. -/
theorem catch_panicking (p : Addr) (x n : Int) (older : List PanicEntry) (w : World) (hc : w.cell? p = some (.int .i64 x)) (hz : w.frozen? p = false) :
    CallsD Tryz.prog 101 #[.pointer (some p)] (.panicking (pe n :: older)) w fun e u' w' =>
      e = .returned (.tuple #[]) ∧ u' = .panicking ({ pe n with recovered := true } :: older) ∧ w' = w.setCell p (.int .i64 n) := by
  have hta := run_wrong n
  refine callsD_of_wpS Tryz.func101 rfl fun c₀ cs hu => ?_
  apply wpS_seq
  apply wpS_region
  simp [wpOpsS, go_sem, recoverD, hu, Tryz.ntmps101, Exit.thenS]
  apply wpS_seq
  apply wpS_region
  simp [wpOpsS, go_sem, Exit.thenS]
  refine wpS_cond (t := true) (by simp [Act.eval, Array.replicate]) ?_
  simp only [if_true]
  apply wpS_region
  simp [wpOpsS, go_sem, hta, hc, hz, bodyPostS, results, Tryz.results101]

/-- The deferred closure, of a frame that returns: nothing is done. -/
theorem catch_idle (p : Addr) (w : World) :
    CallsD Tryz.prog 101 #[.pointer (some p)] .returning w fun e u' w' => e = .returned (.tuple #[]) ∧ u' = .returning ∧ w' = w := by
  refine callsD_of_wpS Tryz.func101 rfl fun c₀ cs hu => ?_
  apply wpS_seq
  apply wpS_region
  simp [wpOpsS, go_sem, recoverD, hu, Tryz.ntmps101, Exit.thenS]
  apply wpS_seq
  apply wpS_region
  simp [wpOpsS, go_sem, Exit.thenS]
  refine wpS_cond (t := false) (by simp [Act.eval, Array.replicate]) ?_
  simp only [Bool.false_eq_true, if_false]
  refine wpS_of_wp (wp_skip ?_)
  cases c₀
  simp_all [bodyPostS, results, Tryz.results101]

/-- The table of what is done: method values of the parser at g. -/
abbrev meths (g : Nat) : Array Value := #[.func (.func 135) #[.pointer (some ⟨g, 0, none⟩)] #[], .func (.func 136) #[.pointer (some ⟨g, 0, none⟩)] #[], .func (.func 137) #[.pointer (some ⟨g, 0, none⟩)] #[],
  .func (.func 138) #[.pointer (some ⟨g, 0, none⟩)] #[], .func (.func 139) #[.pointer (some ⟨g, 0, none⟩)] #[], .func (.func 140) #[.pointer (some ⟨g, 0, none⟩)] #[]]
set_option maxRecDepth 100000 in
theorem phases_s (g : Nat) (w : World) : Calls Tryz.prog 103 #[.pointer (some ⟨g, 0, none⟩)] w fun e w' => e = .returned (.agg (meths g)) ∧ Stp w w' := by
  have hmf : ∀ (fn : Fn) (first cap : Array Value) (w : World), (Instr.makeFunc fn first cap).run Tryz.prog w = .ok (.func fn first cap) w := fun _ _ _ _ => rfl
  go_enter Tryz.func103, Tryz.ntmps103
  go_wp2
  refine bodyPost_ret (v := .agg (meths g)) (by simp [results, Tryz.results103, go_sem]) rfl ⟨rfl, Stp.alloc (Stp.refl w) _⟩
end Go.Proofs.YthjdejjejlhioaaGreatDoor.Parse

namespace Go.Proofs.YthjdejjejlhioaaGreatDoor.Parse
open Go.RowKit Go.Proofs.YthjdejjejlhioaaGreatDoor.Base Go.Proofs.YthjdejjejlhioaaGreatDoor.Node

/-- Nothing but the parser at g, and the row at v, has changed. -/
structure Tch (g : Nat) (v : Value) (w w' : World) : Prop where
  os : w'.os = w.os
  tape : w'.tape = w.tape
  output : w'.output = w.output
  size : w.heap.size ≤ w'.heap.size
  block : ∀ k, k < w.heap.size → k ≠ g → v.ownBlock ≠ some k → w'.heap[k]? = w.heap[k]?
section
variable {g lo : Nat} {v v' : Value} {w w' w2 : World} {s : St} {xs : List Evt}
theorem Tch.refl (g : Nat) (v : Value) (w : World) : Tch g v w w := ⟨rfl, rfl, rfl, Nat.le_refl _, fun _ _ _ _ => rfl⟩
theorem Tch.of_stp (h : Stp w w') : Tch g v w w' := ⟨h.os, h.tape, h.output, h.size, fun k hk _ _ => h.block k hk⟩
theorem Tch.of_grown (h : w.grownBy w' v.ownBlock) : Tch g v w w' := ⟨h.os, h.tape, h.output, h.size, fun k hk _ hv => h.block k hk (Ne.symm hv)⟩
theorem Tch.put (i : Nat) (u : Value) (h : Tch g v w w') : Tch g v w (w'.setCell ⟨g, i, none⟩ u) :=
  ⟨h.os, h.tape, h.output, by simpa [World.setCell] using h.size, fun k hk hg hv => (Below.heap_setCell w' ⟨g, i, none⟩ u k hg).trans (h.block k hk hg hv)⟩
/-- One behind the other: the second row is the first one, or a new one. -/
theorem Tch.trans (h : Tch g v w w') (h2 : Tch g v' w' w2) (hv : ∀ k, v'.ownBlock = some k → v.ownBlock = some k ∨ w.heap.size ≤ k) : Tch g v w w2 :=
  ⟨h2.os.trans h.os, h2.tape.trans h.tape, h2.output.trans h.output, Nat.le_trans h.size h2.size, fun k hk hg hk2 =>
    (h2.block k (Nat.lt_of_lt_of_le hk h.size) hg (fun e => (hv k e).elim hk2 (fun hle => absurd hk (by omega)))).trans (h.block k hk hg hk2)⟩
theorem Tch.same (h : Tch g v w w') (h2 : Tch g v w' w2) : Tch g v w w2 := h.trans h2 fun _ e => .inl e
theorem Tch.stp (h : Tch g v w w') (h2 : Stp w' w2) : Tch g v w w2 := h.same (.of_stp h2)
/-- Seen from ahead of the parser and its rows. -/
theorem Tch.below (h : Tch g v w w') (hg : lo ≤ g) (hv : ∀ k, v.ownBlock = some k → lo ≤ k) {w0 : World} (h0 : Stp w0 w) (hlo : w0.heap.size ≤ lo) : Stp w0 w' :=
  ⟨h.os.trans h0.os, h.tape.trans h0.tape, h.output.trans h0.output, Nat.le_trans h0.size h.size, fun k hk =>
    (h.block k (Nat.lt_of_lt_of_le hk h0.size) (by omega) (fun e => absurd (hv k e) (by omega))).trans (h0.block k hk)⟩
theorem Tch.blk (h : Tch g v w w') {b : Nat} {t : TypeId} {cs : Array Value} (hb : Blk w b t cs) (hg : b ≠ g) (hv : v.ownBlock ≠ some b) : Blk w' b t cs := (h.block b hb.lt hg hv).trans hb

/-- The parser's cells. -/
abbrev pcells (s : St) (v : Value) : Array Value := #[.int .i64 s.phase, .string ⟨s.node.path.toArray⟩, .string ⟨s.node.link.toArray⟩, .int .u8 (s.node.kind.toNat : Int), .int .i64 s.node.mode, .int .i64 s.node.uid, .int .i64 s.node.gid, .int .i64 s.node.time, .string ⟨s.node.data.toArray⟩, .int .i64 s.size, .int .i64 s.left, .string ⟨s.text.toArray⟩, .string ⟨s.name.toArray⟩, .string ⟨s.link.toArray⟩, v]
/-- A parser at g, with what it has told in a row of its own. -/
structure Lies (w : World) (g lo : Nat) (s : St) (v : Value) (xs : List Evt) : Prop where
  blk : Blk w g 120 (pcells s v)
  row : RowE w lo v xs
  lt : g < lo
  le : lo ≤ w.heap.size
theorem RowE.own (h : RowE w lo v xs) : ∀ k, v.ownBlock = some k → lo ≤ k ∧ k < w.heap.size := by
  obtain ⟨-, ⟨rfl, -⟩ | ⟨b, c, cur, rfl, hb, hg, -⟩⟩ := h
  · intro k hk; cases hk
  · intro k hk
    have e : b = k := by simpa [Value.ownBlock] using hk
    subst e
    exact ⟨hb, lt_of_block hg⟩
theorem RowE.put (h : RowE w lo v xs) (hg : g < lo) (i : Nat) (u : Value) : RowE (w.setCell ⟨g, i, none⟩ u) lo v xs := ownsRow_setCell_below h (a := ⟨g, i, none⟩) hg u
theorem Lies.far (h : Lies w g lo s v xs) : v.ownBlock ≠ some g := fun e => absurd (h.row.own g e).1 (by have := h.lt; omega)
theorem Lies.keep (h : Lies w g lo s v xs) (hs : Stp w w') : Lies w' g lo s v xs :=
  ⟨h.blk.keep hs h.blk.lt, h.row.keep hs, h.lt, Nat.le_trans h.le hs.size⟩
theorem Lies.cells (h : Lies w g lo s v xs) :
    w.cell? ⟨g, 0, none⟩ = some (.int .i64 s.phase) ∧ w.cell? ⟨g, 1, none⟩ = some (.string ⟨s.node.path.toArray⟩) ∧ w.cell? ⟨g, 2, none⟩ = some (.string ⟨s.node.link.toArray⟩) ∧ w.cell? ⟨g, 3, none⟩ = some (.int .u8 (s.node.kind.toNat : Int)) ∧ w.cell? ⟨g, 4, none⟩ = some (.int .i64 s.node.mode) ∧
    w.cell? ⟨g, 5, none⟩ = some (.int .i64 s.node.uid) ∧ w.cell? ⟨g, 6, none⟩ = some (.int .i64 s.node.gid) ∧ w.cell? ⟨g, 7, none⟩ = some (.int .i64 s.node.time) ∧ w.cell? ⟨g, 8, none⟩ = some (.string ⟨s.node.data.toArray⟩) ∧ w.cell? ⟨g, 9, none⟩ = some (.int .i64 s.size) ∧ w.cell? ⟨g, 10, none⟩ = some (.int .i64 s.left) ∧
    w.cell? ⟨g, 11, none⟩ = some (.string ⟨s.text.toArray⟩) ∧ w.cell? ⟨g, 12, none⟩ = some (.string ⟨s.name.toArray⟩) ∧ w.cell? ⟨g, 13, none⟩ = some (.string ⟨s.link.toArray⟩) ∧ w.cell? ⟨g, 14, none⟩ = some v := by
  refine ⟨?_, ?_, ?_, ?_, ?_, ?_, ?_, ?_, ?_, ?_, ?_, ?_, ?_, ?_, ?_⟩ <;> (rw [h.blk.cell]; rfl)
theorem Lies.free (h : Lies w g lo s v xs) : ∀ i, w.frozen? ⟨g, i, none⟩ = false := fun i => h.blk.free i
end

theorem ev_cells {w : World} {b : Nat} {t : TypeId} {x : Evt} (hb : Blk w b t (ecells x)) :
    w.cell? ⟨b, 0, none⟩ = some (.int .i64 x.kind) ∧ w.cell? ⟨b, 1, none⟩ = some (.string ⟨x.node.path.toArray⟩) ∧ w.cell? ⟨b, 2, none⟩ = some (.string ⟨x.node.link.toArray⟩) ∧ w.cell? ⟨b, 3, none⟩ = some (.int .u8 (x.node.kind.toNat : Int)) ∧ w.cell? ⟨b, 4, none⟩ = some (.int .i64 x.node.mode) ∧
    w.cell? ⟨b, 5, none⟩ = some (.int .i64 x.node.uid) ∧ w.cell? ⟨b, 6, none⟩ = some (.int .i64 x.node.gid) ∧ w.cell? ⟨b, 7, none⟩ = some (.int .i64 x.node.time) ∧ w.cell? ⟨b, 8, none⟩ = some (.string ⟨x.node.data.toArray⟩) ∧ w.cell? ⟨b, 9, none⟩ = some (.string ⟨x.data.toArray⟩) := by
  refine ⟨?_, ?_, ?_, ?_, ?_, ?_, ?_, ?_, ?_, ?_⟩ <;> (rw [hb.cell]; rfl)
theorem rde_one {w : World} {b c : Nat} {t : TypeId} {x : Evt} (hb : Blk w b t (ecells x)) (hc : 1 ≤ c) : RdE w (some ⟨b, 0, none⟩) c [x] := by
  refine ⟨hc, fun _ => ⟨b, 0, rfl, hb.lt, fun q u hq => ?_⟩⟩
  rw [Nat.zero_add, hb.cell, ← Array.getElem?_toList]
  simpa [etc] using hq
theorem lit_one (x : Evt) (w : World) : RdE (w.alloc (.cells (ecells x) 98)).drew (some ⟨w.heap.size, 0, none⟩) 1 [x] := rde_one (Blk.drew (Blk.new w _ _)) (Nat.le_refl 1)

set_option maxRecDepth 100000 in
/-- One thing more is told. -/
theorem tell_s (g lo : Nat) (s : St) (v : Value) (xs : List Evt) (x : Evt) (hl : xs.length ≤ 1000) (w : World) (h : Lies w g lo s v xs) :
    Calls Tryz.prog 166 #[.pointer (some ⟨g, 0, none⟩), evv x] w fun e w' => e = .returned (.tuple #[]) ∧ ∃ v', Lies w' g lo s v' (xs ++ [x]) ∧ Tch g v w w' := by
  have H := Lib.hid h
  obtain ⟨q0, q1, q2, q3, q4, q5, q6, q7, q8, q9, q10, q11, q12, q13, q14⟩ := h.cells
  have hz := h.free
  have hne : g ≠ w.heap.size := Nat.ne_of_lt h.blk.lt
  clear q0 q1 q2 q3 q4 q5 q6 q7 q8 q9 q10 q11 q12 q13 h
  go_enter Tryz.func166, Tryz.ntmps166
  go_wp2_with fail
  have Hx := Lib.hid (Blk.new w 98 (ecells x))
  have H1 := Lib.hid (H.out.keep (Stp.alloc (Stp.refl w) (.cells (ecells x) 98)))
  have h0 := Tch.of_stp (g := g) (v := v) (Stp.alloc (Stp.refl w) (.cells (ecells x) 98))
  have HL := Lib.hid H.out.le
  have hz1 := H1.out.free
  obtain ⟨-, -, -, -, -, -, -, -, -, -, -, -, -, -, r14⟩ := H1.out.cells
  obtain ⟨b, hb⟩ : ∃ b, w.heap.size = b := ⟨_, rfl⟩
  rw [hb] at Hx hne
  simp only [hb]
  obtain ⟨w1, hw1⟩ : ∃ W, w.alloc (.cells (ecells x) 98) = W := ⟨_, rfl⟩
  have hw2 := hw1
  simp only [Parse.ecells] at hw2
  rw [hw1] at Hx H1 h0 hz1 r14
  rw [hw2]
  clear hw1 hw2 hb q14 hz H
  obtain ⟨c0, c1, c2, c3, c4, c5, c6, c7, c8, c9⟩ := ev_cells Hx.out
  have hall : ∀ o : Obj, (w1.alloc o).cell? ⟨g, 14, none⟩ = some v := fun o => by rw [(H1.out.blk.alloc o).cell]; rfl
  have hs := Stp.drewN (Stp.alloc (Stp.refl w1) (.cells (ecells x) 98)) 1
  have hle := Nat.le_trans H1.out.le hs.size
  have H2 := Lib.hid (H1.out.keep hs)
  have h1 := Lib.hid (h0.stp hs)
  clear h0 hs
  go_region_law (refine step_app_evs (w1.alloc (.cells (ecells x) 98)).drew rfl _ _ rfl lo v xs rfl H2.out.row [x] _ 1 1 rfl (lit_one x w1) rfl (by simp only [List.length_cons, List.length_nil]; omega) hle ?_; intro v1 w2 hr hg; obtain ⟨B, k, rfl, -⟩ := hr.rd; have Hb := Lib.hid (H2.out.blk.grown hg (Ne.symm H2.out.far)); have Hr := Lib.hid hr; have h2 := Lib.hid (h1.out.same (Tch.of_grown hg)); clear hr hg; have k14 := Hb.out.cell 14; have z14 := Hb.out.free 14)
  all_goals go_wp2_with fail
  all_goals go_end0
  all_goals
    have hr2 := Hr.out.put H2.out.lt 14 (.slice B (xs.length + 1) k)
    rw [List.length_append, List.length_singleton] at hr2
    have h3 := h2.out.put 14 (.slice B (xs.length + 1) k)
    exact ⟨rfl, _, ⟨Hb.out.put 14 _, hr2, H2.out.lt, Nat.le_trans HL.out h3.size⟩, h3⟩

theorem tell_v (g lo : Nat) (s : St) (v : Value) (xs : List Evt) (x : Evt) (u : Value) (hu : u = evv x) (hl : xs.length ≤ 1000) (w : World) (h : Lies w g lo s v xs) :
    Calls Tryz.prog 166 #[.pointer (some ⟨g, 0, none⟩), u] w fun e w' => e = .returned (.tuple #[]) ∧ ∃ v', Lies w' g lo s v' (xs ++ [x]) ∧ Tch g v w w' := by
  subst hu
  exact tell_s g lo s v xs x hl w h

/-! ### a whole state laid into the parser -/
theorem fillC_row {g lo : Nat} {v : Value} {xs : List Evt} (hg : g < lo) : ∀ (vs : List Value) (i : Nat) (w : World), RowE w lo v xs → RowE (fillC g vs i w) lo v xs
  | [], _, _, h => h
  | u :: vs, i, _, h => fillC_row hg vs (i + 1) _ (h.put hg i u)
theorem fillC_tch {g : Nat} {v : Value} {w : World} : ∀ (vs : List Value) (i : Nat) (w1 : World), Tch g v w w1 → Tch g v w (fillC g vs i w1)
  | [], _, _, h => h
  | u :: vs, i, _, h => fillC_tch vs (i + 1) _ (h.put i u)
/-- The state t laid where the parser is. -/
abbrev fillP (w : World) (g : Nat) (t : St) : World := fillC g (scells t).toList 0 w
theorem fillP_tch {g : Nat} {v : Value} {w w1 : World} (t : St) (h : Tch g v w w1) : Tch g v w (fillP w1 g t) := fillC_tch _ 0 _ h
theorem fillP_lies {w : World} {g lo : Nat} {s : St} {v : Value} {xs : List Evt} (t : St) (h : Lies w g lo s v xs) : Lies (fillP w g t) g lo t v xs :=
  ⟨fillC_blk (scells t).toList 0 w _ h.blk (by show 14 ≤ 15; omega), fillC_row h.lt _ 0 _ h.row, h.lt, Nat.le_trans h.le (fillP_tch (v := v) t (Tch.refl g v w)).size⟩

set_option maxRecDepth 100000 in
/-- What is left behind a node's last bytes. -/
theorem end_s (g lo : Nat) (s : St) (v : Value) (xs : List Evt) (hl : xs.length ≤ 1000) (w : World) (h : Lies w g lo s v xs) :
    Calls Tryz.prog 167 #[.pointer (some ⟨g, 0, none⟩)] w fun e w' => e = .returned (.tuple #[]) ∧ ∃ v', Lies w' g lo (if s.left = 0 then zeroS else s) v' (if s.left = 0 then xs ++ [⟨2, zeroN, []⟩] else xs) ∧ Tch g v w w' := by
  have H := Lib.hid h
  obtain ⟨q0, q1, q2, q3, q4, q5, q6, q7, q8, q9, q10, q11, q12, q13, q14⟩ := h.cells
  have hz := h.free
  clear q0 q1 q2 q3 q4 q5 q6 q7 q8 q9 q11 q12 q13 q14 h
  by_cases h0 : s.left = 0
  · rw [if_pos h0, if_pos h0]
    have hb : (s.left == 0) = true := by rw [h0]; rfl
    clear h0
    go_enter Tryz.func167, Tryz.ntmps167
    go_wp2_with (go_at_call 166; (refine (tell_v g lo s v xs ⟨2, zeroN, []⟩ _ (by rfl) hl _ H.out).mono ?_); rintro e w1 ⟨rfl, v1, hv1, ht1⟩; have H1 := Lib.hid hv1; have T1 := Lib.hid ht1; clear hv1 ht1 q10 hz; obtain ⟨q0, q1, q2, q3, q4, q5, q6, q7, q8, q9, q10, q11, q12, q13, q14⟩ := H1.out.cells; have hz := H1.out.free)
    change bodyPost _ _ _ _ _ (fillP w1 g zeroS)
    go_end0
    exact ⟨rfl, v1, fillP_lies zeroS H1.out, fillP_tch zeroS T1.out⟩
  · rw [if_neg h0, if_neg h0]
    have hb : (s.left == 0) = false := beq_eq_false_iff_ne.2 h0
    clear h0
    go_enter Tryz.func167, Tryz.ntmps167
    go_wp2_with fail
    go_end0
    exact ⟨rfl, v, H.out, Tch.refl g v w⟩
end Go.Proofs.YthjdejjejlhioaaGreatDoor.Parse

