/-
  The document's own answers on parse: a node's header. No statement is proved here.
-/
import Derived.Test.YtgjdbbhfgfodlaaGreatParseRef3
import Derived.Test.YtgjdbbhfgfodlaaGreatParseR5
import Derived.Test.YtgjdbbhfgfodlaaGreatParseStaysW
import Derived.Test.YtgjdbbhfgfodlaaGreatPathRef
import Derived.Test.YtgjdbbhfgfodlaaGreatTreeOne
import Derived.Deep.Cut
import Derived.Deep.CutRange
namespace Go.Proofs.YtgjdbbhfgfodlaaGreat.Parse
open Go.RowKit Go.Proofs.YtgjdbbhfgfodlaaGreat.Str Go.Proofs.YtgjdbbhfgfodlaaGreat.Base Go.Proofs.YtgjdbbhfgfodlaaGreat.Node Go.Proofs.YtgjdbbhfgfodlaaGreat.Long Go.Proofs.YtgjdbbhfgfodlaaGreat.Head
open Go.Proofs.YtgjdbbhfgfodlaaGreat.Tree (oneB)

theorem partsB_is (s : St) (h : Hd) : partsB s h = ((s.name.isEmpty || (h.pre.isEmpty && decide (h.name = s.name.take 100))) && (s.link.isEmpty || decide (h.link = s.link.take 100))) := by
  unfold partsB
  rw [Bool.eq_iff_iff]
  simp

theorem rone_v (n : Nd) (v : Value) (hv : v = nv n) (hn : SmallN n) (w : World) :
    Calls Tryz.prog 35 #[v] w fun e w' => e = .returned (.bool (oneB n)) ∧ Stp w w' := by
  subst hv
  exact Tree.rone_s n hn w
theorem filla_size (t : St) (w : World) (g : Nat) : (fillA w g t).heap.size = w.heap.size := by
  have : ∀ (vs : List Value) (i : Nat) (w1 : World), (fillC g vs i w1).heap.size = w1.heap.size := by
    intro vs
    induction vs with
    | nil => intro i w1; rfl
    | cons v vs ih => intro i w1; rw [fillC, ih]; simp [World.setCell]
  exact this _ _ _
theorem rdE_lit2 (x y : Evt) (w : World) : RdE (w.alloc (.cells #[.int .i64 x.kind, .string ⟨x.node.path.toArray⟩, .string ⟨x.node.link.toArray⟩, .int .u8 (x.node.kind.toNat : Int), .int .i64 x.node.mode, .int .i64 x.node.uid, .int .i64 x.node.gid, .int .i64 x.node.time, .string ⟨x.node.data.toArray⟩, .string ⟨x.data.toArray⟩, .int .i64 y.kind, .string ⟨y.node.path.toArray⟩, .string ⟨y.node.link.toArray⟩, .int .u8 (y.node.kind.toNat : Int), .int .i64 y.node.mode, .int .i64 y.node.uid, .int .i64 y.node.gid, .int .i64 y.node.time, .string ⟨y.node.data.toArray⟩, .string ⟨y.data.toArray⟩] 40)) (some ⟨w.heap.size, 0, none⟩) 2 [x, y] := by
  have h : RowE (w.alloc (.cells #[.int .i64 x.kind, .string ⟨x.node.path.toArray⟩, .string ⟨x.node.link.toArray⟩, .int .u8 (x.node.kind.toNat : Int), .int .i64 x.node.mode, .int .i64 x.node.uid, .int .i64 x.node.gid, .int .i64 x.node.time, .string ⟨x.node.data.toArray⟩, .string ⟨x.data.toArray⟩, .int .i64 y.kind, .string ⟨y.node.path.toArray⟩, .string ⟨y.node.link.toArray⟩, .int .u8 (y.node.kind.toNat : Int), .int .i64 y.node.mode, .int .i64 y.node.uid, .int .i64 y.node.gid, .int .i64 y.node.time, .string ⟨y.node.data.toArray⟩, .string ⟨y.data.toArray⟩] 40)) w.heap.size (.slice (some ⟨w.heap.size, 0, none⟩) 2 2) [x, y] :=
    ⟨rfl, .inr ⟨w.heap.size, 2, _, rfl, Nat.le_refl _, heap_alloc_new w _, Nat.le_refl _, by unfold maxLen; omega, rfl, rfl⟩⟩
  obtain ⟨A, c, e, h⟩ := h.rd
  cases e
  exact h
set_option maxRecDepth 100000 in
set_option maxHeartbeats 8000000 in
theorem rnode_a (s : St) (h : Hd) (l1 : s.name.length ≤ 400) (l2 : s.link.length ≤ 400) (l3 : h.pre.length ≤ 400) (l4 : h.name.length ≤ 400) (h0 : 0 ≤ h.size) (hn : SmallN (nodeH s h)) (hk : ¬ (partsB s h = true ∧ PathM.mayB (nodeH s h).path = true ∧ ¬ (oneB (nodeH s h) = false ∨ 4000 < h.size ∨ (0 < h.size ∧ h.ty ≠ 48)))) (w : World) :
    Calls Tryz.prog 37 #[sv s, hv h] w fun e w' => ∃ B d, e = .returned (.tuple #[sv (nodeS s h).1, .slice B (nodeS s h).2.1.length d, .int .i64 (nodeS s h).2.2]) ∧ RdE w' B d (nodeS s h).2.1 ∧ Stp w w' := by
  obtain ⟨J, hJ⟩ : ∃ x, PathM.joinV h.pre h.name = x := ⟨_, rfl⟩
  obtain ⟨N, hN⟩ : ∃ x, (if s.name = [] then J else s.name) = x := ⟨_, rfl⟩
  obtain ⟨M, hM⟩ : ∃ x, (if s.link = [] then h.link else s.link) = x := ⟨_, rfl⟩
  have hmk : nodeH s h = mkN h N M := by unfold nodeH; rw [hJ, hN, hM]
  obtain ⟨rr, hrr⟩ : ∃ rr, nodeS s h = rr := ⟨_, rfl⟩
  rw [hrr]
  have HRR := Lib.hid hrr
  have HJl := Lib.hid (show h.pre.length + h.name.length + 1 ≤ 9223372036854775807 by omega)
  have Hn1 := Lib.hid (show s.name.length ≤ 9223372036854775807 by omega)
  have Hn2 := Lib.hid (show s.link.length ≤ 9223372036854775807 by omega)
  have HK := Lib.hid hk
  clear hk
  have HJ := Lib.hid hJ
  have HN := Lib.hid hN
  have HM := Lib.hid hM
  have Hmk := Lib.hid hmk
  rw [hmk] at hn
  have Hn := Lib.hid hn
  have H0z := Lib.hid h0
  have hs1 := Stp.alloc (Stp.alloc (Stp.alloc (Stp.refl w) (.cells (scells s) 50)) (.cells (hcells h) 68)) (.cells (scells zeroS) 50)
  have H0 := Lib.hid hs1
  have Hs := Lib.hid (Blk.alloc (Blk.alloc (Blk.new w 50 (scells s)) (.cells (hcells h) 68)) (.cells (scells zeroS) 50))
  have Hh := Lib.hid (Blk.alloc (Blk.new (w.alloc (.cells (scells s) 50)) 68 (hcells h)) (.cells (scells zeroS) 50))
  have Hr := Lib.hid (Blk.new ((w.alloc (.cells (scells s) 50)).alloc (.cells (hcells h) 68)) 50 (scells zeroS))
  rw [World.size_alloc, World.size_alloc] at Hr
  rw [World.size_alloc] at Hh
  obtain ⟨g0, hg0⟩ : ∃ x, w.heap.size = x := ⟨_, rfl⟩
  have HG0 := Lib.hid hg0
  rw [hg0] at Hs Hh Hr
  clear hJ hN hM hmk hrr l1 l2 l3 l4 h0 hn hs1
  go_enter Tryz.func37, Tryz.ntmps37
  go_upto_region 1 with fail
  obtain ⟨w1, hw1⟩ : ∃ x, ((w.alloc (.cells (scells s) 50)).alloc (.cells (hcells h) 68)).alloc (.cells (scells zeroS) 50) = x := ⟨_, rfl⟩
  rw [hw1] at Hs Hh Hr H0
  change Code.wp _ _ _ _ (((w.alloc (.cells (scells s) 50)).alloc (.cells (hcells h) 68)).alloc (.cells (scells zeroS) 50))
  rw [hw1]
  try simp only [hg0]
  clear hw1 hg0
  have Key := Lib.hid (show ∀ W, Stp w1 W → (W.cell? ⟨g0 + 1, 0, none⟩ = some (.string ⟨h.name.toArray⟩) ∧ W.cell? ⟨g0 + 1, 1, none⟩ = some (.string ⟨h.pre.toArray⟩) ∧ W.cell? ⟨g0 + 1, 2, none⟩ = some (.string ⟨h.link.toArray⟩) ∧ W.cell? ⟨g0 + 1, 3, none⟩ = some (.int .i64 h.mode) ∧ W.cell? ⟨g0 + 1, 4, none⟩ = some (.int .i64 h.uid) ∧ W.cell? ⟨g0 + 1, 5, none⟩ = some (.int .i64 h.gid) ∧ W.cell? ⟨g0 + 1, 7, none⟩ = some (.int .i64 h.time) ∧ W.cell? ⟨g0 + 1, 8, none⟩ = some (.int .u8 (h.ty.toNat : Int))) from fun W hW => by
    obtain ⟨c0, c1, c2, c3, c4, c5, c6, c7, c8, c9, c10⟩ := hd_cells (Hh.out.keep hW Hh.out.lt)
    exact ⟨c0, c1, c2, c3, c4, c5, c7, c8⟩)
  go_cut [7] from 12 to 29 (fun s7 wx => ∃ b3, s7 = .pointer (some ⟨b3, 0, none⟩) ∧ Hid (Blk wx b3 38 (ncells (mkN h J h.link))) ∧ Hid (Stp w1 wx) ∧ Hid (w1.heap.size ≤ b3))
  case first =>
    refine wp_region_held_drew (S := fun W : World => W.cell? ⟨g0 + 1, 0, none⟩ = some (.string ⟨h.name.toArray⟩) ∧ W.cell? ⟨g0 + 1, 1, none⟩ = some (.string ⟨h.pre.toArray⟩) ∧ W.cell? ⟨g0 + 1, 2, none⟩ = some (.string ⟨h.link.toArray⟩) ∧ W.cell? ⟨g0 + 1, 3, none⟩ = some (.int .i64 h.mode) ∧ W.cell? ⟨g0 + 1, 4, none⟩ = some (.int .i64 h.uid) ∧ W.cell? ⟨g0 + 1, 5, none⟩ = some (.int .i64 h.gid) ∧ W.cell? ⟨g0 + 1, 7, none⟩ = some (.int .i64 h.time) ∧ W.cell? ⟨g0 + 1, 8, none⟩ = some (.int .u8 (h.ty.toNat : Int))) (by kernel_rfl) (Key.out _ (Head.stp_drew (Stp.refl _))) (fun hHeld => ?_)
    refine wpAnyH_take (i := 0) (oi := { dst := some 12, op := Go.Op.fieldAddr 68 (Go.Operand.tmp 3) 1, type := 0, pos := "ref.go:60", after := #[], guard := none }) (v := ?v0a) rfl (by kernel_rfl) (by kernel_rfl) (by kernel_rfl) (fun _ _ _ h => h) (Or.inl ⟨by rfl, ?hy0a⟩) (by assumption) ?rest0a
    case hy0a => (intro w hSw; (try dsimp only at hSw); go_simp; try with_reducible rfl)
    try simp only [Act.put, List.setIfInBounds_toArray, List.set_cons_zero, List.set_cons_succ]
    refine wpAnyH_take (i := 1) (oi := { dst := some 13, op := Go.Op.load 9 (Go.Operand.tmp 12), type := 9, pos := "ref.go:60", after := #[{ on := 0, ground := Go.Ground.data }], guard := none }) (v := ?v1a) rfl (by kernel_rfl) (by kernel_rfl) (by kernel_rfl) (fun _ _ _ h => h) (Or.inl ⟨by rfl, ?hy1a⟩) (by assumption) ?rest1a
    case hy1a => (intro w hSw; (try dsimp only at hSw); go_simp; try with_reducible rfl)
    try simp only [Act.put, List.setIfInBounds_toArray, List.set_cons_zero, List.set_cons_succ]
    refine wpAnyH_take (i := 2) (oi := { dst := some 14, op := Go.Op.fieldAddr 68 (Go.Operand.tmp 3) 0, type := 0, pos := "ref.go:60", after := #[], guard := none }) (v := ?v2a) rfl (by kernel_rfl) (by kernel_rfl) (by kernel_rfl) (fun _ _ _ h => h) (Or.inl ⟨by rfl, ?hy2a⟩) (by assumption) ?rest2a
    case hy2a => (intro w hSw; (try dsimp only at hSw); go_simp; try with_reducible rfl)
    try simp only [Act.put, List.setIfInBounds_toArray, List.set_cons_zero, List.set_cons_succ]
    refine wpAnyH_take (i := 3) (oi := { dst := some 15, op := Go.Op.load 9 (Go.Operand.tmp 14), type := 9, pos := "ref.go:60", after := #[{ on := 2, ground := Go.Ground.data }], guard := none }) (v := ?v3a) rfl (by kernel_rfl) (by kernel_rfl) (by kernel_rfl) (fun _ _ _ h => h) (Or.inl ⟨by rfl, ?hy3a⟩) (by assumption) ?rest3a
    case hy3a => (intro w hSw; (try dsimp only at hSw); go_simp; try with_reducible rfl)
    try simp only [Act.put, List.setIfInBounds_toArray, List.set_cons_zero, List.set_cons_succ]
    refine wpAnyH_take (i := 5) (oi := { dst := some 17, op := Go.Op.fieldAddr 68 (Go.Operand.tmp 3) 2, type := 0, pos := "ref.go:60", after := #[], guard := none }) (v := ?v5a) rfl (by kernel_rfl) (by kernel_rfl) (by kernel_rfl) (fun _ _ _ h => h) (Or.inl ⟨by rfl, ?hy5a⟩) (by assumption) ?rest5a
    case hy5a => (intro w hSw; (try dsimp only at hSw); go_simp; try with_reducible rfl)
    try simp only [Act.put, List.setIfInBounds_toArray, List.set_cons_zero, List.set_cons_succ]
    refine wpAnyH_take (i := 6) (oi := { dst := some 18, op := Go.Op.load 9 (Go.Operand.tmp 17), type := 9, pos := "ref.go:60", after := #[{ on := 5, ground := Go.Ground.data }], guard := none }) (v := ?v6a) rfl (by kernel_rfl) (by kernel_rfl) (by kernel_rfl) (fun _ _ _ h => h) (Or.inl ⟨by rfl, ?hy6a⟩) (by assumption) ?rest6a
    case hy6a => (intro w hSw; (try dsimp only at hSw); go_simp; try with_reducible rfl)
    try simp only [Act.put, List.setIfInBounds_toArray, List.set_cons_zero, List.set_cons_succ]
    refine wpAnyH_take (i := 7) (oi := { dst := some 19, op := Go.Op.fieldAddr 68 (Go.Operand.tmp 3) 8, type := 0, pos := "ref.go:60", after := #[], guard := none }) (v := ?v7a) rfl (by kernel_rfl) (by kernel_rfl) (by kernel_rfl) (fun _ _ _ h => h) (Or.inl ⟨by rfl, ?hy7a⟩) (by assumption) ?rest7a
    case hy7a => (intro w hSw; (try dsimp only at hSw); go_simp; try with_reducible rfl)
    try simp only [Act.put, List.setIfInBounds_toArray, List.set_cons_zero, List.set_cons_succ]
    refine wpAnyH_take (i := 8) (oi := { dst := some 20, op := Go.Op.load 5 (Go.Operand.tmp 19), type := 5, pos := "ref.go:60", after := #[{ on := 7, ground := Go.Ground.data }], guard := none }) (v := ?v8a) rfl (by kernel_rfl) (by kernel_rfl) (by kernel_rfl) (fun _ _ _ h => h) (Or.inl ⟨by rfl, ?hy8a⟩) (by assumption) ?rest8a
    case hy8a => (intro w hSw; (try dsimp only at hSw); go_simp; try with_reducible rfl)
    try simp only [Act.put, List.setIfInBounds_toArray, List.set_cons_zero, List.set_cons_succ]
    refine wpAnyH_take (i := 9) (oi := { dst := some 21, op := Go.Op.fieldAddr 68 (Go.Operand.tmp 3) 3, type := 0, pos := "ref.go:60", after := #[], guard := none }) (v := ?v9a) rfl (by kernel_rfl) (by kernel_rfl) (by kernel_rfl) (fun _ _ _ h => h) (Or.inl ⟨by rfl, ?hy9a⟩) (by assumption) ?rest9a
    case hy9a => (intro w hSw; (try dsimp only at hSw); go_simp; try with_reducible rfl)
    try simp only [Act.put, List.setIfInBounds_toArray, List.set_cons_zero, List.set_cons_succ]
    refine wpAnyH_take (i := 10) (oi := { dst := some 22, op := Go.Op.load 3 (Go.Operand.tmp 21), type := 3, pos := "ref.go:60", after := #[{ on := 9, ground := Go.Ground.data }], guard := none }) (v := ?v10a) rfl (by kernel_rfl) (by kernel_rfl) (by kernel_rfl) (fun _ _ _ h => h) (Or.inl ⟨by rfl, ?hy10a⟩) (by assumption) ?rest10a
    case hy10a => (intro w hSw; (try dsimp only at hSw); go_simp; try with_reducible rfl)
    try simp only [Act.put, List.setIfInBounds_toArray, List.set_cons_zero, List.set_cons_succ]
    refine wpAnyH_take (i := 11) (oi := { dst := some 23, op := Go.Op.fieldAddr 68 (Go.Operand.tmp 3) 4, type := 0, pos := "ref.go:60", after := #[], guard := none }) (v := ?v11a) rfl (by kernel_rfl) (by kernel_rfl) (by kernel_rfl) (fun _ _ _ h => h) (Or.inl ⟨by rfl, ?hy11a⟩) (by assumption) ?rest11a
    case hy11a => (intro w hSw; (try dsimp only at hSw); go_simp; try with_reducible rfl)
    try simp only [Act.put, List.setIfInBounds_toArray, List.set_cons_zero, List.set_cons_succ]
    refine wpAnyH_take (i := 12) (oi := { dst := some 24, op := Go.Op.load 3 (Go.Operand.tmp 23), type := 3, pos := "ref.go:60", after := #[{ on := 11, ground := Go.Ground.data }], guard := none }) (v := ?v12a) rfl (by kernel_rfl) (by kernel_rfl) (by kernel_rfl) (fun _ _ _ h => h) (Or.inl ⟨by rfl, ?hy12a⟩) (by assumption) ?rest12a
    case hy12a => (intro w hSw; (try dsimp only at hSw); go_simp; try with_reducible rfl)
    try simp only [Act.put, List.setIfInBounds_toArray, List.set_cons_zero, List.set_cons_succ]
    refine wpAnyH_take (i := 13) (oi := { dst := some 25, op := Go.Op.fieldAddr 68 (Go.Operand.tmp 3) 5, type := 0, pos := "ref.go:60", after := #[], guard := none }) (v := ?v13a) rfl (by kernel_rfl) (by kernel_rfl) (by kernel_rfl) (fun _ _ _ h => h) (Or.inl ⟨by rfl, ?hy13a⟩) (by assumption) ?rest13a
    case hy13a => (intro w hSw; (try dsimp only at hSw); go_simp; try with_reducible rfl)
    try simp only [Act.put, List.setIfInBounds_toArray, List.set_cons_zero, List.set_cons_succ]
    refine wpAnyH_take (i := 14) (oi := { dst := some 26, op := Go.Op.load 3 (Go.Operand.tmp 25), type := 3, pos := "ref.go:60", after := #[{ on := 13, ground := Go.Ground.data }], guard := none }) (v := ?v14a) rfl (by kernel_rfl) (by kernel_rfl) (by kernel_rfl) (fun _ _ _ h => h) (Or.inl ⟨by rfl, ?hy14a⟩) (by assumption) ?rest14a
    case hy14a => (intro w hSw; (try dsimp only at hSw); go_simp; try with_reducible rfl)
    try simp only [Act.put, List.setIfInBounds_toArray, List.set_cons_zero, List.set_cons_succ]
    refine wpAnyH_take (i := 15) (oi := { dst := some 27, op := Go.Op.fieldAddr 68 (Go.Operand.tmp 3) 7, type := 0, pos := "ref.go:60", after := #[], guard := none }) (v := ?v15a) rfl (by kernel_rfl) (by kernel_rfl) (by kernel_rfl) (fun _ _ _ h => h) (Or.inl ⟨by rfl, ?hy15a⟩) (by assumption) ?rest15a
    case hy15a => (intro w hSw; (try dsimp only at hSw); go_simp; try with_reducible rfl)
    try simp only [Act.put, List.setIfInBounds_toArray, List.set_cons_zero, List.set_cons_succ]
    refine wpAnyH_take (i := 16) (oi := { dst := some 28, op := Go.Op.load 3 (Go.Operand.tmp 27), type := 3, pos := "ref.go:60", after := #[{ on := 15, ground := Go.Ground.data }], guard := none }) (v := ?v16a) rfl (by kernel_rfl) (by kernel_rfl) (by kernel_rfl) (fun _ _ _ h => h) (Or.inl ⟨by rfl, ?hy16a⟩) (by assumption) ?rest16a
    case hy16a => (intro w hSw; (try dsimp only at hSw); go_simp; try with_reducible rfl)
    try simp only [Act.put, List.setIfInBounds_toArray, List.set_cons_zero, List.set_cons_succ]
    refine wpAnyH_ready (rs := [4, 18]) (by kernel_rfl) (by simp) ?_
    refine AllReadyH.cons (o := { dst := some 16, op := Go.Op.call { callee := Go.Callee.value (Go.Operand.func 53), args := #[Go.Operand.tmp 13, Go.Operand.tmp 15], argTypes := #[9, 9] }, type := 9, pos := "ref.go:60", after := #[{ on := 1, ground := Go.Ground.data }, { on := 3, ground := Go.Ground.data }], guard := none }) rfl (fun K hK => ?wayc) (AllReadyH.cons (o := { dst := some 7, op := Go.Op.alloc 38, type := 0, pos := "ref.go:60", after := #[], guard := none }) rfl (fun K hK => ?waya) AllReadyH.nil)
    case wayc =>
      go_simp
      refine (Path.rjoin_s h.pre h.name _ HJl.out).mono ?_
      rintro e w6 ⟨rfl, hs⟩
      rw [HJ.out]
      have H6 := Lib.hid (Stp.trans (Head.stp_drew (Stp.refl w1)) hs)
      clear hs
      go_wp2_with fail
      refine hK.out _ _ (Key.out _ (H6.out)) (fun hHeld2 => ?_)
      clear hK K hHeld
      have hHeld := hHeld2
      clear hHeld2
      try simp only [Act.put, List.setIfInBounds_toArray, List.set_cons_zero, List.set_cons_succ]
      refine wpAnyH_take (i := 17) (oi := { dst := some 29, op := Go.Op.build 38 #[(0, Go.Operand.tmp 16), (1, Go.Operand.tmp 18), (2, Go.Operand.tmp 20), (3, Go.Operand.tmp 22), (4, Go.Operand.tmp 24), (5, Go.Operand.tmp 26), (6, Go.Operand.tmp 28)], type := 38, pos := "ref.go:60", after := #[{ on := 4, ground := Go.Ground.data }, { on := 6, ground := Go.Ground.data }, { on := 8, ground := Go.Ground.data }, { on := 10, ground := Go.Ground.data }, { on := 12, ground := Go.Ground.data }, { on := 14, ground := Go.Ground.data }, { on := 16, ground := Go.Ground.data }], guard := none }) (v := ?v17c) rfl (by kernel_rfl) (by kernel_rfl) (by kernel_rfl) (fun _ _ _ h => h) (Or.inl ⟨by rfl, ?hy17c⟩) (by assumption) ?rest17c
      case hy17c => (intro w hSw; (try dsimp only at hSw); go_simp; try with_reducible rfl)
      try simp only [Act.put, List.setIfInBounds_toArray, List.set_cons_zero, List.set_cons_succ]
      refine wpAnyH_ready (rs := [18]) (by kernel_rfl) (by simp) ?_
      refine AllReadyH.cons (o := { dst := some 7, op := Go.Op.alloc 38, type := 0, pos := "ref.go:60", after := #[], guard := none }) rfl (fun K hK => ?_) AllReadyH.nil
      go_simp
      refine hK.out _ _ (Key.out _ (Stp.alloc H6.out _)) (fun hHeld2 => ?_)
      clear hK K hHeld
      have hHeld := hHeld2
      clear hHeld2
      try simp only [Act.put, List.setIfInBounds_toArray, List.set_cons_zero, List.set_cons_succ]
      refine wpAnyH_ready (rs := [19]) (by kernel_rfl) (by simp) ?_
      refine AllReadyH.cons (o := { dst := none, op := Go.Op.store 38 (Go.Operand.tmp 7) (Go.Operand.tmp 29), type := 0, pos := "ref.go:60", after := #[{ on := 18, ground := Go.Ground.data }, { on := 17, ground := Go.Ground.data }, { on := 4, ground := Go.Ground.chain }, { on := 0, ground := Go.Ground.phase }, { on := 1, ground := Go.Ground.phase }, { on := 2, ground := Go.Ground.phase }, { on := 3, ground := Go.Ground.phase }, { on := 4, ground := Go.Ground.phase }, { on := 5, ground := Go.Ground.phase }, { on := 6, ground := Go.Ground.phase }, { on := 7, ground := Go.Ground.phase }, { on := 8, ground := Go.Ground.phase }, { on := 9, ground := Go.Ground.phase }, { on := 10, ground := Go.Ground.phase }, { on := 11, ground := Go.Ground.phase }, { on := 12, ground := Go.Ground.phase }, { on := 13, ground := Go.Ground.phase }, { on := 14, ground := Go.Ground.phase }, { on := 15, ground := Go.Ground.phase }, { on := 16, ground := Go.Ground.phase }, { on := 17, ground := Go.Ground.phase }, { on := 18, ground := Go.Ground.phase }], guard := none }) rfl (fun K hK => ?_) AllReadyH.nil
      go_simp
      refine hK.out _ _ (Key.out _ (Stp.alloc H6.out _)) (fun hHeld2 => ?_)
      clear hK K hHeld
      have hHeld := hHeld2
      clear hHeld2
      try simp only [Act.put, List.setIfInBounds_toArray, List.set_cons_zero, List.set_cons_succ]
      refine wpAnyH_done (by kernel_rfl) ?_ _
      change Exit.then _ _ Exit.normal _ (w6.alloc (.cells (ncells (mkN h J h.link)) 38))
      have hB := Blk.new w6 38 (ncells (mkN h J h.link))
      have hW := Stp.alloc H6.out (.cells (ncells (mkN h J h.link)) 38)
      generalize w6.alloc (.cells (ncells (mkN h J h.link)) 38) = W7 at hB hW ⊢
      have HB := Lib.hid hB
      have HW := Lib.hid hW
      clear hB hW
      go_wp2_with fail
      go_meet
      exact ⟨_, rfl, HB, HW, Lib.hid (H6.out.size)⟩
    case waya =>
      go_simp
      refine hK.out _ _ (Key.out _ (rstp_ad (Head.stp_drew (Stp.refl w1)))) (fun hHeld2 => ?_)
      clear hK K hHeld
      have hHeld := hHeld2
      clear hHeld2
      try simp only [Act.put, List.setIfInBounds_toArray, List.set_cons_zero, List.set_cons_succ]
      refine wpAnyH_ready (rs := [4]) (by kernel_rfl) (by simp) ?_
      refine AllReadyH.cons (o := { dst := some 16, op := Go.Op.call { callee := Go.Callee.value (Go.Operand.func 53), args := #[Go.Operand.tmp 13, Go.Operand.tmp 15], argTypes := #[9, 9] }, type := 9, pos := "ref.go:60", after := #[{ on := 1, ground := Go.Ground.data }, { on := 3, ground := Go.Ground.data }], guard := none }) rfl (fun K hK => ?_) AllReadyH.nil
      go_simp
      refine (Path.rjoin_s h.pre h.name _ HJl.out).mono ?_
      rintro e w6 ⟨rfl, hs⟩
      rw [HJ.out]
      have H6 := Lib.hid (Stp.trans (rstp_ad (Head.stp_drew (Stp.refl w1))) hs)
      have Hz := Lib.hid (rblk_ad w1 38 (ncells zeroN) hs)
      clear hs
      go_wp2_with fail
      refine hK.out _ _ (Key.out _ (H6.out)) (fun hHeld2 => ?_)
      clear hK K hHeld
      have hHeld := hHeld2
      clear hHeld2
      try simp only [Act.put, List.setIfInBounds_toArray, List.set_cons_zero, List.set_cons_succ]
      refine wpAnyH_take (i := 17) (oi := { dst := some 29, op := Go.Op.build 38 #[(0, Go.Operand.tmp 16), (1, Go.Operand.tmp 18), (2, Go.Operand.tmp 20), (3, Go.Operand.tmp 22), (4, Go.Operand.tmp 24), (5, Go.Operand.tmp 26), (6, Go.Operand.tmp 28)], type := 38, pos := "ref.go:60", after := #[{ on := 4, ground := Go.Ground.data }, { on := 6, ground := Go.Ground.data }, { on := 8, ground := Go.Ground.data }, { on := 10, ground := Go.Ground.data }, { on := 12, ground := Go.Ground.data }, { on := 14, ground := Go.Ground.data }, { on := 16, ground := Go.Ground.data }], guard := none }) (v := ?v17d) rfl (by kernel_rfl) (by kernel_rfl) (by kernel_rfl) (fun _ _ _ h => h) (Or.inl ⟨by rfl, ?hy17d⟩) (by assumption) ?rest17d
      case hy17d => (intro w hSw; (try dsimp only at hSw); go_simp; try with_reducible rfl)
      try simp only [Act.put, List.setIfInBounds_toArray, List.set_cons_zero, List.set_cons_succ]
      obtain ⟨⟨z0, z1, z2, z3, z4, z5, z6, z7⟩, y0, y1, y2, y3, y4, y5, y6, y7⟩ := nzy Hz.out
      refine wpAnyH_ready (rs := [19]) (by kernel_rfl) (by simp) ?_
      refine AllReadyH.cons (o := { dst := none, op := Go.Op.store 38 (Go.Operand.tmp 7) (Go.Operand.tmp 29), type := 0, pos := "ref.go:60", after := #[{ on := 18, ground := Go.Ground.data }, { on := 17, ground := Go.Ground.data }, { on := 4, ground := Go.Ground.chain }, { on := 0, ground := Go.Ground.phase }, { on := 1, ground := Go.Ground.phase }, { on := 2, ground := Go.Ground.phase }, { on := 3, ground := Go.Ground.phase }, { on := 4, ground := Go.Ground.phase }, { on := 5, ground := Go.Ground.phase }, { on := 6, ground := Go.Ground.phase }, { on := 7, ground := Go.Ground.phase }, { on := 8, ground := Go.Ground.phase }, { on := 9, ground := Go.Ground.phase }, { on := 10, ground := Go.Ground.phase }, { on := 11, ground := Go.Ground.phase }, { on := 12, ground := Go.Ground.phase }, { on := 13, ground := Go.Ground.phase }, { on := 14, ground := Go.Ground.phase }, { on := 15, ground := Go.Ground.phase }, { on := 16, ground := Go.Ground.phase }, { on := 17, ground := Go.Ground.phase }, { on := 18, ground := Go.Ground.phase }], guard := none }) rfl (fun K hK => ?_) AllReadyH.nil
      go_simp
      refine hK.out _ _ (Key.out _ (filln_stp (mkN h J h.link) H6.out (Nat.le_refl _))) (fun hHeld2 => ?_)
      clear hK K hHeld
      have hHeld := hHeld2
      clear hHeld2
      try simp only [Act.put, List.setIfInBounds_toArray, List.set_cons_zero, List.set_cons_succ]
      clear z0 z1 z2 z3 z4 z5 z6 z7 y0 y1 y2 y3 y4 y5 y6 y7
      refine wpAnyH_done (by kernel_rfl) ?_ _
      change Exit.then _ _ Exit.normal _ (fillN w6 w1.heap.size (mkN h J h.link))
      have hB := filln_blk (mkN h J h.link) Hz.out
      have hW := filln_stp (w := w1) (g := w1.heap.size) (mkN h J h.link) H6.out (Nat.le_refl _)
      generalize fillN w6 w1.heap.size (mkN h J h.link) = W7 at hB hW ⊢
      have HB := Lib.hid hB
      have HW := Lib.hid hW
      clear hB hW
      go_wp2_with fail
      go_meet
      exact ⟨_, rfl, HB, HW, Lib.hid (Nat.le_refl _)⟩
  case rest =>
    obtain ⟨b3, rfl, HB, HW, HLE⟩ := hcut
    clear Key
    have hb3 : g0 + 1 + 1 < b3 := Nat.lt_of_lt_of_le Hr.out.lt HLE.out
    have m1 : b3 ≠ g0 := by omega
    have m2 : b3 ≠ g0 + 1 := by omega
    have m3 : b3 ≠ g0 + 1 + 1 := by omega
    have m4 : g0 ≠ b3 := by omega
    have m5 : g0 + 1 ≠ b3 := by omega
    have m6 : g0 + 1 + 1 ≠ b3 := by omega
    have HLw := Lib.hid (show w.heap.size ≤ b3 by have := HG0.out; omega)
    have HL1 := Lib.hid (show w1.heap.size ≤ b3 from HLE.out)
    obtain ⟨q0, q1, q2, q3, q4, q5, q6, q7, q8, q9, q10, q11, q12, q13⟩ := st_cells (Hs.out.keep HW.out Hs.out.lt)
    obtain ⟨⟨n0, n1, n2, n3, n4, n5, n6, n7⟩, y0, y1, y2, y3, y4, y5, y6, y7⟩ := nzy HB.out
    go_upto_if 32 with fail
    go_cut [7] from 32 to 35 (fun s7 wx => s7 = .pointer (some ⟨b3, 0, none⟩) ∧ Hid (Blk wx b3 38 (ncells (mkN h N h.link))) ∧ Hid (Stp w1 wx))
    case first =>
      go_wp2_with fail
      · have hx : s.name ≠ [] := by
          have hq : (!s.name.isEmpty) = true := by assumption
          intro e
          rw [e] at hq
          cases hq
        have hN2 : N = s.name := by rw [← HN.out, if_neg hx]
        have HBx := Lib.hid (show Blk (wc.setCell ⟨b3, 0, none⟩ (.string ⟨s.name.toArray⟩)) b3 38 (ncells (mkN h N h.link)) by rw [hN2]; exact HB.out.put 0 _)
        have HWx := Lib.hid (show Stp w1 (wc.setCell ⟨b3, 0, none⟩ (.string ⟨s.name.toArray⟩)) from Below.setCell HW.out (p := ⟨b3, 0, none⟩) HL1.out _)
        clear hx hN2
        go_meet
        exact ⟨rfl, HBx, HWx⟩
      · have hx : s.name = [] := by
          have hq : (!s.name.isEmpty) = false := by assumption
          cases hl : s.name with
          | nil => rfl
          | cons a l => rw [hl] at hq; cases hq
        have hN2 : N = J := by rw [← HN.out, if_pos hx]
        have HBx := Lib.hid (show Blk wc b3 38 (ncells (mkN h N h.link)) by rw [hN2]; exact HB.out)
        clear hx hN2
        go_meet
        exact ⟨rfl, HBx, HW⟩
    case rest =>
    obtain ⟨rfl, HB2, HW2⟩ := hcut
    clear q0 q1 q2 q3 q4 q5 q6 q7 q8 q9 q10 q11 q12 q13 n0 n1 n2 n3 n4 n5 n6 n7 y0 y1 y2 y3 y4 y5 y6 y7
    obtain ⟨q0, q1, q2, q3, q4, q5, q6, q7, q8, q9, q10, q11, q12, q13⟩ := st_cells (Hs.out.keep HW2.out Hs.out.lt)
    obtain ⟨⟨n0, n1, n2, n3, n4, n5, n6, n7⟩, y0, y1, y2, y3, y4, y5, y6, y7⟩ := nzy HB2.out
    go_upto_if 38 with fail
    go_cut [7] from 38 to 41 (fun s7 wx => s7 = .pointer (some ⟨b3, 0, none⟩) ∧ Hid (Blk wx b3 38 (ncells (mkN h N M))) ∧ Hid (Stp w1 wx))
    case first =>
      go_wp2_with fail
      · have hx : s.link ≠ [] := by
          have hq : (!s.link.isEmpty) = true := by assumption
          intro e
          rw [e] at hq
          cases hq
        have hN2 : M = s.link := by rw [← HM.out, if_neg hx]
        have HBx := Lib.hid (show Blk (wc.setCell ⟨b3, 1, none⟩ (.string ⟨s.link.toArray⟩)) b3 38 (ncells (mkN h N M)) by rw [hN2]; exact HB2.out.put 1 _)
        have HWx := Lib.hid (show Stp w1 (wc.setCell ⟨b3, 1, none⟩ (.string ⟨s.link.toArray⟩)) from Below.setCell HW2.out (p := ⟨b3, 1, none⟩) HL1.out _)
        clear hx hN2
        go_meet
        exact ⟨rfl, HBx, HWx⟩
      · have hx : s.link = [] := by
          have hq : (!s.link.isEmpty) = false := by assumption
          cases hl : s.link with
          | nil => rfl
          | cons a l => rw [hl] at hq; cases hq
        have hN2 : M = h.link := by rw [← HM.out, if_pos hx]
        have HBx := Lib.hid (show Blk wc b3 38 (ncells (mkN h N M)) by rw [hN2]; exact HB2.out)
        clear hx hN2
        go_meet
        exact ⟨rfl, HBx, HW2⟩
    case rest =>
    obtain ⟨rfl, HB3, HW3⟩ := hcut
    clear q0 q1 q2 q3 q4 q5 q6 q7 q8 q9 q10 q11 q12 q13 n0 n1 n2 n3 n4 n5 n6 n7 y0 y1 y2 y3 y4 y5 y6 y7
    obtain ⟨q0, q1, q2, q3, q4, q5, q6, q7, q8, q9, q10, q11, q12, q13⟩ := st_cells (Hs.out.keep HW3.out Hs.out.lt)
    obtain ⟨c0, c1, c2, c3, c4, c5, c6, c7, c8, c9, c10⟩ := hd_cells (Hh.out.keep HW3.out Hh.out.lt)
    obtain ⟨ca, hca⟩ : ∃ x, decide (h.name = s.name.take 100) = x := ⟨_, rfl⟩
    obtain ⟨fa, hfa⟩ : ∃ x, decide (h.link = s.link.take 100) = x := ⟨_, rfl⟩
    have Hca := Lib.hid hca
    have Hfa := Lib.hid hfa
    clear hca hfa
    go_upto_region 8 with (first
      | (go_at_call 54; (with_reducible refine (rfirst_s h.name s.name Hn1.out _).mono ?_); rintro e w4 ⟨rfl, hs⟩; rw [Hca.out]; have HW4 := Lib.hid (Stp.trans HW3.out hs); have HB4 := Lib.hid (HB3.out.keep hs HB3.out.lt); clear hs q0 q1 q2 q3 q4 q5 q6 q7 q8 q9 q10 q11 q12 q13 c0 c1 c2 c3 c4 c5 c6 c7 c8 c9 c10; obtain ⟨q0, q1, q2, q3, q4, q5, q6, q7, q8, q9, q10, q11, q12, q13⟩ := st_cells (Hs.out.keep HW4.out Hs.out.lt); obtain ⟨c0, c1, c2, c3, c4, c5, c6, c7, c8, c9, c10⟩ := hd_cells (Hh.out.keep HW4.out Hh.out.lt))
      | (go_at_call 54; (with_reducible refine (rfirst_s h.link s.link Hn2.out _).mono ?_); rintro e w5 ⟨rfl, hs⟩; rw [Hfa.out]; have HW5 := Lib.hid (Stp.trans HW4.out hs); have HB5 := Lib.hid (HB4.out.keep hs HB4.out.lt); clear hs q0 q1 q2 q3 q4 q5 q6 q7 q8 q9 q10 q11 q12 q13 c0 c1 c2 c3 c4 c5 c6 c7 c8 c9 c10; obtain ⟨q0, q1, q2, q3, q4, q5, q6, q7, q8, q9, q10, q11, q12, q13⟩ := st_cells (Hs.out.keep HW5.out Hs.out.lt); obtain ⟨c0, c1, c2, c3, c4, c5, c6, c7, c8, c9, c10⟩ := hd_cells (Hh.out.keep HW5.out Hh.out.lt)))
    go_cut [72] from 52 to 72 (fun s72 wx => s72 = .bool (!(partsB s h)) ∧ wx = w5)
    case first =>
      obtain ⟨xa, hxa⟩ : ∃ x, s.name.isEmpty = x := ⟨_, rfl⟩
      obtain ⟨la, hla⟩ : ∃ x, s.link.isEmpty = x := ⟨_, rfl⟩
      obtain ⟨pa, hpa⟩ : ∃ x, h.pre.isEmpty = x := ⟨_, rfl⟩
      have HPB := Lib.hid (show partsB s h = ((xa || (pa && ca)) && (la || fa)) by rw [partsB_is, hxa, hla, hpa, Hca.out, Hfa.out])
      cases xa <;> cases la <;> cases pa <;> cases ca <;> cases fa
      all_goals
        go_wp2_with fail
        go_meet
        exact ⟨by rw [HPB.out]; rfl, rfl⟩
    case rest =>
    obtain ⟨rfl, rfl⟩ := hcut
    clear q0 q1 q2 q3 q4 q5 q6 q7 q8 q9 q10 q11 q12 q13 c0 c1 c2 c3 c4 c5 c6 c7 c8 c9 c10
    have fin : ∀ (t : St) (W0 : World), Blk W0 (g0 + 1 + 1) 50 (scells zeroS) → Stp w W0 → Blk (fillA W0 (g0 + 1 + 1) t) (g0 + 1 + 1) 50 (scells t) ∧ Stp w (fillA W0 (g0 + 1 + 1) t) := fun t W0 h1 h2 => ⟨filla_blk t h1, filla_st t h2 (by have := HG0.out; omega)⟩
    have Fin := Lib.hid fin
    clear fin
    obtain ⟨q0, q1, q2, q3, q4, q5, q6, q7, q8, q9, q10, q11, q12, q13⟩ := st_cells (Hs.out.keep HW5.out Hs.out.lt)
    obtain ⟨r0, r1, r2, r3, r4, r5, r6, r7, r8, r9, r10, r11, r12, r13⟩ := st_cells (Hr.out.keep HW5.out Hr.out.lt)
    have hz := rfree (Hr.out.keep HW5.out Hr.out.lt)
    obtain ⟨n0, n1, n2, n3, n4, n5, n6, n7⟩ := nd_cells HB5.out
    cases hP : partsB s h
    · have HP := Lib.hid hP
      clear hP n0 n1 n2 n3 n4 n5 n6 n7
      have e : rr = (s, [], 2) := by rw [← HRR.out, nodeS_is, nodeE_2 HP.out, if_neg (by decide)]
      have He := Lib.hid e
      clear e
      go_wp2_with fail
      change bodyPost _ _ _ _ _ (fillA wc (g0 + 1 + 1) s)
      obtain ⟨hB, hW⟩ := Fin.out s wc (Hr.out.keep HW5.out Hr.out.lt) (Stp.trans H0.out HW5.out)
      generalize fillA wc (g0 + 1 + 1) s = W7 at hB hW ⊢
      clear q0 q1 q2 q3 q4 q5 q6 q7 q8 q9 q10 q11 q12 q13 r0 r1 r2 r3 r4 r5 r6 r7 r8 r9 r10 r11 r12 r13 hz
      obtain ⟨r0, r1, r2, r3, r4, r5, r6, r7, r8, r9, r10, r11, r12, r13⟩ := st_cells hB
      exact bodyPost_ret (v := .tuple #[sv s, .slice none 0 0, .int .i64 2]) (by simp [results, Tryz.results37, go_sem, r0, r1, r2, r3, r4, r5, r6, r7, r8, r9, r10, r11, r12, r13]) rfl ⟨none, 0, by rw [He.out]; rfl, by rw [He.out]; exact RdE.nil _, hW⟩
    have HP := Lib.hid hP
    clear hP
    obtain ⟨mp, hmp⟩ : ∃ x, PathM.mayB N = x := ⟨_, rfl⟩
    obtain ⟨O, hO⟩ : ∃ x, oneB (mkN h N M) = x := ⟨_, rfl⟩
    have Hmp := Lib.hid hmp
    have HO := Lib.hid hO
    have HmpH := Lib.hid (show PathM.mayB (nodeH s h).path = mp by rw [Hmk.out]; exact hmp)
    have HOH := Lib.hid (show oneB (nodeH s h) = O by rw [Hmk.out]; exact hO)
    clear hmp hO
    go_upto_region 11 with (go_at_call 48; (with_reducible refine (Path.rmay_s N _ Hn.out.path).mono ?_); rintro e w6 ⟨rfl, hs⟩; rw [Hmp.out]; have HW6 := Lib.hid (Stp.trans HW5.out hs); have HB6 := Lib.hid (HB5.out.keep hs HB5.out.lt); clear hs q0 q1 q2 q3 q4 q5 q6 q7 q8 q9 q10 q11 q12 q13 r0 r1 r2 r3 r4 r5 r6 r7 r8 r9 r10 r11 r12 r13 n0 n1 n2 n3 n4 n5 n6 n7 hz; obtain ⟨q0, q1, q2, q3, q4, q5, q6, q7, q8, q9, q10, q11, q12, q13⟩ := st_cells (Hs.out.keep HW6.out Hs.out.lt); obtain ⟨r0, r1, r2, r3, r4, r5, r6, r7, r8, r9, r10, r11, r12, r13⟩ := st_cells (Hr.out.keep HW6.out Hr.out.lt); have hz := rfree (Hr.out.keep HW6.out Hr.out.lt); obtain ⟨n0, n1, n2, n3, n4, n5, n6, n7⟩ := nd_cells HB6.out)
    cases mp
    · clear n0 n1 n2 n3 n4 n5 n6 n7
      have e : rr = (s, [], 6) := by rw [← HRR.out, nodeS_is, nodeE_6 HP.out HmpH.out, if_neg (by decide)]
      have He := Lib.hid e
      clear e
      go_wp2_with fail
      change bodyPost _ _ _ _ _ (fillA w6 (g0 + 1 + 1) s)
      obtain ⟨hB, hW⟩ := Fin.out s w6 (Hr.out.keep HW6.out Hr.out.lt) (Stp.trans H0.out HW6.out)
      generalize fillA w6 (g0 + 1 + 1) s = W7 at hB hW ⊢
      clear q0 q1 q2 q3 q4 q5 q6 q7 q8 q9 q10 q11 q12 q13 r0 r1 r2 r3 r4 r5 r6 r7 r8 r9 r10 r11 r12 r13 hz
      obtain ⟨r0, r1, r2, r3, r4, r5, r6, r7, r8, r9, r10, r11, r12, r13⟩ := st_cells hB
      exact bodyPost_ret (v := .tuple #[sv s, .slice none 0 0, .int .i64 6]) (by simp [results, Tryz.results37, go_sem, r0, r1, r2, r3, r4, r5, r6, r7, r8, r9, r10, r11, r12, r13]) rfl ⟨none, 0, by rw [He.out]; rfl, by rw [He.out]; exact RdE.nil _, hW⟩
    go_upto_region 14 with (go_at_call 35; (with_reducible refine (rone_v (mkN h N M) _ rfl Hn.out _).mono ?_); rintro e w8 ⟨rfl, hs⟩; rw [HO.out]; have HW8 := Lib.hid (Stp.trans HW6.out hs); have HB8 := Lib.hid (HB6.out.keep hs HB6.out.lt); clear hs q0 q1 q2 q3 q4 q5 q6 q7 q8 q9 q10 q11 q12 q13 r0 r1 r2 r3 r4 r5 r6 r7 r8 r9 r10 r11 r12 r13 n0 n1 n2 n3 n4 n5 n6 n7 hz; obtain ⟨q0, q1, q2, q3, q4, q5, q6, q7, q8, q9, q10, q11, q12, q13⟩ := st_cells (Hs.out.keep HW8.out Hs.out.lt); obtain ⟨r0, r1, r2, r3, r4, r5, r6, r7, r8, r9, r10, r11, r12, r13⟩ := st_cells (Hr.out.keep HW8.out Hr.out.lt); have hz := rfree (Hr.out.keep HW8.out Hr.out.lt); obtain ⟨n0, n1, n2, n3, n4, n5, n6, n7⟩ := nd_cells HB8.out; obtain ⟨c0, c1, c2, c3, c4, c5, c6, c7, c8, c9, c10⟩ := hd_cells (Hh.out.keep HW8.out Hh.out.lt))
    cases O
    · clear n0 n1 n2 n3 n4 n5 n6 n7
      have e : rr = (s, [], 2) := by rw [← HRR.out, nodeS_is, nodeE_2' HP.out HmpH.out (.inl HOH.out), if_neg (by decide)]
      have He := Lib.hid e
      clear e
      go_wp2_with fail
      change bodyPost _ _ _ _ _ (fillA w8 (g0 + 1 + 1) s)
      obtain ⟨hB, hW⟩ := Fin.out s w8 (Hr.out.keep HW8.out Hr.out.lt) (Stp.trans H0.out HW8.out)
      generalize fillA w8 (g0 + 1 + 1) s = W7 at hB hW ⊢
      clear q0 q1 q2 q3 q4 q5 q6 q7 q8 q9 q10 q11 q12 q13 r0 r1 r2 r3 r4 r5 r6 r7 r8 r9 r10 r11 r12 r13 hz
      obtain ⟨r0, r1, r2, r3, r4, r5, r6, r7, r8, r9, r10, r11, r12, r13⟩ := st_cells hB
      exact bodyPost_ret (v := .tuple #[sv s, .slice none 0 0, .int .i64 2]) (by simp [results, Tryz.results37, go_sem, r0, r1, r2, r3, r4, r5, r6, r7, r8, r9, r10, r11, r12, r13]) rfl ⟨none, 0, by rw [He.out]; rfl, by rw [He.out]; exact RdE.nil _, hW⟩
    by_cases hbig : 4000 < h.size
    · have k1 : decide ((4000 : Int) < h.size) = true := decide_eq_true hbig
      have Hbig := Lib.hid hbig
      clear hbig n0 n1 n2 n3 n4 n5 n6 n7
      have e : rr = (s, [], 2) := by rw [← HRR.out, nodeS_is, nodeE_2' HP.out HmpH.out (.inr (.inl Hbig.out)), if_neg (by decide)]
      have He := Lib.hid e
      clear e
      go_wp2_with fail
      change bodyPost _ _ _ _ _ (fillA w8 (g0 + 1 + 1) s)
      obtain ⟨hB, hW⟩ := Fin.out s w8 (Hr.out.keep HW8.out Hr.out.lt) (Stp.trans H0.out HW8.out)
      generalize fillA w8 (g0 + 1 + 1) s = W7 at hB hW ⊢
      clear q0 q1 q2 q3 q4 q5 q6 q7 q8 q9 q10 q11 q12 q13 r0 r1 r2 r3 r4 r5 r6 r7 r8 r9 r10 r11 r12 r13 hz
      obtain ⟨r0, r1, r2, r3, r4, r5, r6, r7, r8, r9, r10, r11, r12, r13⟩ := st_cells hB
      exact bodyPost_ret (v := .tuple #[sv s, .slice none 0 0, .int .i64 2]) (by simp [results, Tryz.results37, go_sem, r0, r1, r2, r3, r4, r5, r6, r7, r8, r9, r10, r11, r12, r13]) rfl ⟨none, 0, by rw [He.out]; rfl, by rw [He.out]; exact RdE.nil _, hW⟩
    have k1 : decide ((4000 : Int) < h.size) = false := decide_eq_false hbig
    by_cases hpos : 0 < h.size
    · have k2 : decide ((0 : Int) < h.size) = true := decide_eq_true hpos
      by_cases hty : h.ty = 48
      · exact absurd ⟨HP.out, HmpH.out, fun q => q.elim (fun q => Bool.noConfusion (HOH.out.symm.trans q)) (fun q => q.elim hbig (fun q => q.2 hty))⟩ HK.out
      · have k3 : ((h.ty.toNat : Int) != 48) = true := by rw [bne_iff_ne]; intro e; exact hty (UInt8.toNat_inj.1 (by show h.ty.toNat = 48; omega))
        have Hty := Lib.hid hty
        have Hpos := Lib.hid hpos
        clear hty hpos hbig n0 n1 n2 n3 n4 n5 n6 n7
        have e : rr = (s, [], 2) := by rw [← HRR.out, nodeS_is, nodeE_2' HP.out HmpH.out (.inr (.inr ⟨Hpos.out, Hty.out⟩)), if_neg (by decide)]
        have He := Lib.hid e
        clear e
        go_wp2_with fail
        change bodyPost _ _ _ _ _ (fillA w8 (g0 + 1 + 1) s)
        obtain ⟨hB, hW⟩ := Fin.out s w8 (Hr.out.keep HW8.out Hr.out.lt) (Stp.trans H0.out HW8.out)
        generalize fillA w8 (g0 + 1 + 1) s = W7 at hB hW ⊢
        clear q0 q1 q2 q3 q4 q5 q6 q7 q8 q9 q10 q11 q12 q13 r0 r1 r2 r3 r4 r5 r6 r7 r8 r9 r10 r11 r12 r13 hz
        obtain ⟨r0, r1, r2, r3, r4, r5, r6, r7, r8, r9, r10, r11, r12, r13⟩ := st_cells hB
        exact bodyPost_ret (v := .tuple #[sv s, .slice none 0 0, .int .i64 2]) (by simp [results, Tryz.results37, go_sem, r0, r1, r2, r3, r4, r5, r6, r7, r8, r9, r10, r11, r12, r13]) rfl ⟨none, 0, by rw [He.out]; rfl, by rw [He.out]; exact RdE.nil _, hW⟩
    · exact absurd ⟨HP.out, HmpH.out, fun q => q.elim (fun q => Bool.noConfusion (HOH.out.symm.trans q)) (fun q => q.elim hbig (fun q => hpos q.1))⟩ HK.out
set_option maxRecDepth 100000 in
set_option maxHeartbeats 8000000 in
theorem rnode_c (s : St) (h : Hd) (l1 : s.name.length ≤ 400) (l2 : s.link.length ≤ 400) (l3 : h.pre.length ≤ 400) (l4 : h.name.length ≤ 400) (h0 : 0 ≤ h.size) (hn : SmallN (nodeH s h)) (hk : partsB s h = true ∧ PathM.mayB (nodeH s h).path = true ∧ ¬ (oneB (nodeH s h) = false ∨ 4000 < h.size ∨ (0 < h.size ∧ h.ty ≠ 48)) ∧ 0 < h.size) (w : World) :
    Calls Tryz.prog 37 #[sv s, hv h] w fun e w' => ∃ B d, e = .returned (.tuple #[sv (nodeS s h).1, .slice B (nodeS s h).2.1.length d, .int .i64 (nodeS s h).2.2]) ∧ RdE w' B d (nodeS s h).2.1 ∧ Stp w w' := by
  obtain ⟨J, hJ⟩ : ∃ x, PathM.joinV h.pre h.name = x := ⟨_, rfl⟩
  obtain ⟨N, hN⟩ : ∃ x, (if s.name = [] then J else s.name) = x := ⟨_, rfl⟩
  obtain ⟨M, hM⟩ : ∃ x, (if s.link = [] then h.link else s.link) = x := ⟨_, rfl⟩
  have hmk : nodeH s h = mkN h N M := by unfold nodeH; rw [hJ, hN, hM]
  obtain ⟨rr, hrr⟩ : ∃ rr, nodeS s h = rr := ⟨_, rfl⟩
  rw [hrr]
  have HRR := Lib.hid hrr
  have HJl := Lib.hid (show h.pre.length + h.name.length + 1 ≤ 9223372036854775807 by omega)
  have Hn1 := Lib.hid (show s.name.length ≤ 9223372036854775807 by omega)
  have Hn2 := Lib.hid (show s.link.length ≤ 9223372036854775807 by omega)
  have HK := Lib.hid hk
  clear hk
  have HJ := Lib.hid hJ
  have HN := Lib.hid hN
  have HM := Lib.hid hM
  have Hmk := Lib.hid hmk
  rw [hmk] at hn
  have Hn := Lib.hid hn
  have H0z := Lib.hid h0
  have hs1 := Stp.alloc (Stp.alloc (Stp.alloc (Stp.refl w) (.cells (scells s) 50)) (.cells (hcells h) 68)) (.cells (scells zeroS) 50)
  have H0 := Lib.hid hs1
  have Hs := Lib.hid (Blk.alloc (Blk.alloc (Blk.new w 50 (scells s)) (.cells (hcells h) 68)) (.cells (scells zeroS) 50))
  have Hh := Lib.hid (Blk.alloc (Blk.new (w.alloc (.cells (scells s) 50)) 68 (hcells h)) (.cells (scells zeroS) 50))
  have Hr := Lib.hid (Blk.new ((w.alloc (.cells (scells s) 50)).alloc (.cells (hcells h) 68)) 50 (scells zeroS))
  rw [World.size_alloc, World.size_alloc] at Hr
  rw [World.size_alloc] at Hh
  obtain ⟨g0, hg0⟩ : ∃ x, w.heap.size = x := ⟨_, rfl⟩
  have HG0 := Lib.hid hg0
  rw [hg0] at Hs Hh Hr
  clear hJ hN hM hmk hrr l1 l2 l3 l4 h0 hn hs1
  go_enter Tryz.func37, Tryz.ntmps37
  go_upto_region 1 with fail
  obtain ⟨w1, hw1⟩ : ∃ x, ((w.alloc (.cells (scells s) 50)).alloc (.cells (hcells h) 68)).alloc (.cells (scells zeroS) 50) = x := ⟨_, rfl⟩
  rw [hw1] at Hs Hh Hr H0
  change Code.wp _ _ _ _ (((w.alloc (.cells (scells s) 50)).alloc (.cells (hcells h) 68)).alloc (.cells (scells zeroS) 50))
  rw [hw1]
  try simp only [hg0]
  clear hw1 hg0
  have Key := Lib.hid (show ∀ W, Stp w1 W → (W.cell? ⟨g0 + 1, 0, none⟩ = some (.string ⟨h.name.toArray⟩) ∧ W.cell? ⟨g0 + 1, 1, none⟩ = some (.string ⟨h.pre.toArray⟩) ∧ W.cell? ⟨g0 + 1, 2, none⟩ = some (.string ⟨h.link.toArray⟩) ∧ W.cell? ⟨g0 + 1, 3, none⟩ = some (.int .i64 h.mode) ∧ W.cell? ⟨g0 + 1, 4, none⟩ = some (.int .i64 h.uid) ∧ W.cell? ⟨g0 + 1, 5, none⟩ = some (.int .i64 h.gid) ∧ W.cell? ⟨g0 + 1, 7, none⟩ = some (.int .i64 h.time) ∧ W.cell? ⟨g0 + 1, 8, none⟩ = some (.int .u8 (h.ty.toNat : Int))) from fun W hW => by
    obtain ⟨c0, c1, c2, c3, c4, c5, c6, c7, c8, c9, c10⟩ := hd_cells (Hh.out.keep hW Hh.out.lt)
    exact ⟨c0, c1, c2, c3, c4, c5, c7, c8⟩)
  go_cut [7] from 12 to 29 (fun s7 wx => ∃ b3, s7 = .pointer (some ⟨b3, 0, none⟩) ∧ Hid (Blk wx b3 38 (ncells (mkN h J h.link))) ∧ Hid (Stp w1 wx) ∧ Hid (w1.heap.size ≤ b3))
  case first =>
    refine wp_region_held_drew (S := fun W : World => W.cell? ⟨g0 + 1, 0, none⟩ = some (.string ⟨h.name.toArray⟩) ∧ W.cell? ⟨g0 + 1, 1, none⟩ = some (.string ⟨h.pre.toArray⟩) ∧ W.cell? ⟨g0 + 1, 2, none⟩ = some (.string ⟨h.link.toArray⟩) ∧ W.cell? ⟨g0 + 1, 3, none⟩ = some (.int .i64 h.mode) ∧ W.cell? ⟨g0 + 1, 4, none⟩ = some (.int .i64 h.uid) ∧ W.cell? ⟨g0 + 1, 5, none⟩ = some (.int .i64 h.gid) ∧ W.cell? ⟨g0 + 1, 7, none⟩ = some (.int .i64 h.time) ∧ W.cell? ⟨g0 + 1, 8, none⟩ = some (.int .u8 (h.ty.toNat : Int))) (by kernel_rfl) (Key.out _ (Head.stp_drew (Stp.refl _))) (fun hHeld => ?_)
    refine wpAnyH_take (i := 0) (oi := { dst := some 12, op := Go.Op.fieldAddr 68 (Go.Operand.tmp 3) 1, type := 0, pos := "ref.go:60", after := #[], guard := none }) (v := ?v0a) rfl (by kernel_rfl) (by kernel_rfl) (by kernel_rfl) (fun _ _ _ h => h) (Or.inl ⟨by rfl, ?hy0a⟩) (by assumption) ?rest0a
    case hy0a => (intro w hSw; (try dsimp only at hSw); go_simp; try with_reducible rfl)
    try simp only [Act.put, List.setIfInBounds_toArray, List.set_cons_zero, List.set_cons_succ]
    refine wpAnyH_take (i := 1) (oi := { dst := some 13, op := Go.Op.load 9 (Go.Operand.tmp 12), type := 9, pos := "ref.go:60", after := #[{ on := 0, ground := Go.Ground.data }], guard := none }) (v := ?v1a) rfl (by kernel_rfl) (by kernel_rfl) (by kernel_rfl) (fun _ _ _ h => h) (Or.inl ⟨by rfl, ?hy1a⟩) (by assumption) ?rest1a
    case hy1a => (intro w hSw; (try dsimp only at hSw); go_simp; try with_reducible rfl)
    try simp only [Act.put, List.setIfInBounds_toArray, List.set_cons_zero, List.set_cons_succ]
    refine wpAnyH_take (i := 2) (oi := { dst := some 14, op := Go.Op.fieldAddr 68 (Go.Operand.tmp 3) 0, type := 0, pos := "ref.go:60", after := #[], guard := none }) (v := ?v2a) rfl (by kernel_rfl) (by kernel_rfl) (by kernel_rfl) (fun _ _ _ h => h) (Or.inl ⟨by rfl, ?hy2a⟩) (by assumption) ?rest2a
    case hy2a => (intro w hSw; (try dsimp only at hSw); go_simp; try with_reducible rfl)
    try simp only [Act.put, List.setIfInBounds_toArray, List.set_cons_zero, List.set_cons_succ]
    refine wpAnyH_take (i := 3) (oi := { dst := some 15, op := Go.Op.load 9 (Go.Operand.tmp 14), type := 9, pos := "ref.go:60", after := #[{ on := 2, ground := Go.Ground.data }], guard := none }) (v := ?v3a) rfl (by kernel_rfl) (by kernel_rfl) (by kernel_rfl) (fun _ _ _ h => h) (Or.inl ⟨by rfl, ?hy3a⟩) (by assumption) ?rest3a
    case hy3a => (intro w hSw; (try dsimp only at hSw); go_simp; try with_reducible rfl)
    try simp only [Act.put, List.setIfInBounds_toArray, List.set_cons_zero, List.set_cons_succ]
    refine wpAnyH_take (i := 5) (oi := { dst := some 17, op := Go.Op.fieldAddr 68 (Go.Operand.tmp 3) 2, type := 0, pos := "ref.go:60", after := #[], guard := none }) (v := ?v5a) rfl (by kernel_rfl) (by kernel_rfl) (by kernel_rfl) (fun _ _ _ h => h) (Or.inl ⟨by rfl, ?hy5a⟩) (by assumption) ?rest5a
    case hy5a => (intro w hSw; (try dsimp only at hSw); go_simp; try with_reducible rfl)
    try simp only [Act.put, List.setIfInBounds_toArray, List.set_cons_zero, List.set_cons_succ]
    refine wpAnyH_take (i := 6) (oi := { dst := some 18, op := Go.Op.load 9 (Go.Operand.tmp 17), type := 9, pos := "ref.go:60", after := #[{ on := 5, ground := Go.Ground.data }], guard := none }) (v := ?v6a) rfl (by kernel_rfl) (by kernel_rfl) (by kernel_rfl) (fun _ _ _ h => h) (Or.inl ⟨by rfl, ?hy6a⟩) (by assumption) ?rest6a
    case hy6a => (intro w hSw; (try dsimp only at hSw); go_simp; try with_reducible rfl)
    try simp only [Act.put, List.setIfInBounds_toArray, List.set_cons_zero, List.set_cons_succ]
    refine wpAnyH_take (i := 7) (oi := { dst := some 19, op := Go.Op.fieldAddr 68 (Go.Operand.tmp 3) 8, type := 0, pos := "ref.go:60", after := #[], guard := none }) (v := ?v7a) rfl (by kernel_rfl) (by kernel_rfl) (by kernel_rfl) (fun _ _ _ h => h) (Or.inl ⟨by rfl, ?hy7a⟩) (by assumption) ?rest7a
    case hy7a => (intro w hSw; (try dsimp only at hSw); go_simp; try with_reducible rfl)
    try simp only [Act.put, List.setIfInBounds_toArray, List.set_cons_zero, List.set_cons_succ]
    refine wpAnyH_take (i := 8) (oi := { dst := some 20, op := Go.Op.load 5 (Go.Operand.tmp 19), type := 5, pos := "ref.go:60", after := #[{ on := 7, ground := Go.Ground.data }], guard := none }) (v := ?v8a) rfl (by kernel_rfl) (by kernel_rfl) (by kernel_rfl) (fun _ _ _ h => h) (Or.inl ⟨by rfl, ?hy8a⟩) (by assumption) ?rest8a
    case hy8a => (intro w hSw; (try dsimp only at hSw); go_simp; try with_reducible rfl)
    try simp only [Act.put, List.setIfInBounds_toArray, List.set_cons_zero, List.set_cons_succ]
    refine wpAnyH_take (i := 9) (oi := { dst := some 21, op := Go.Op.fieldAddr 68 (Go.Operand.tmp 3) 3, type := 0, pos := "ref.go:60", after := #[], guard := none }) (v := ?v9a) rfl (by kernel_rfl) (by kernel_rfl) (by kernel_rfl) (fun _ _ _ h => h) (Or.inl ⟨by rfl, ?hy9a⟩) (by assumption) ?rest9a
    case hy9a => (intro w hSw; (try dsimp only at hSw); go_simp; try with_reducible rfl)
    try simp only [Act.put, List.setIfInBounds_toArray, List.set_cons_zero, List.set_cons_succ]
    refine wpAnyH_take (i := 10) (oi := { dst := some 22, op := Go.Op.load 3 (Go.Operand.tmp 21), type := 3, pos := "ref.go:60", after := #[{ on := 9, ground := Go.Ground.data }], guard := none }) (v := ?v10a) rfl (by kernel_rfl) (by kernel_rfl) (by kernel_rfl) (fun _ _ _ h => h) (Or.inl ⟨by rfl, ?hy10a⟩) (by assumption) ?rest10a
    case hy10a => (intro w hSw; (try dsimp only at hSw); go_simp; try with_reducible rfl)
    try simp only [Act.put, List.setIfInBounds_toArray, List.set_cons_zero, List.set_cons_succ]
    refine wpAnyH_take (i := 11) (oi := { dst := some 23, op := Go.Op.fieldAddr 68 (Go.Operand.tmp 3) 4, type := 0, pos := "ref.go:60", after := #[], guard := none }) (v := ?v11a) rfl (by kernel_rfl) (by kernel_rfl) (by kernel_rfl) (fun _ _ _ h => h) (Or.inl ⟨by rfl, ?hy11a⟩) (by assumption) ?rest11a
    case hy11a => (intro w hSw; (try dsimp only at hSw); go_simp; try with_reducible rfl)
    try simp only [Act.put, List.setIfInBounds_toArray, List.set_cons_zero, List.set_cons_succ]
    refine wpAnyH_take (i := 12) (oi := { dst := some 24, op := Go.Op.load 3 (Go.Operand.tmp 23), type := 3, pos := "ref.go:60", after := #[{ on := 11, ground := Go.Ground.data }], guard := none }) (v := ?v12a) rfl (by kernel_rfl) (by kernel_rfl) (by kernel_rfl) (fun _ _ _ h => h) (Or.inl ⟨by rfl, ?hy12a⟩) (by assumption) ?rest12a
    case hy12a => (intro w hSw; (try dsimp only at hSw); go_simp; try with_reducible rfl)
    try simp only [Act.put, List.setIfInBounds_toArray, List.set_cons_zero, List.set_cons_succ]
    refine wpAnyH_take (i := 13) (oi := { dst := some 25, op := Go.Op.fieldAddr 68 (Go.Operand.tmp 3) 5, type := 0, pos := "ref.go:60", after := #[], guard := none }) (v := ?v13a) rfl (by kernel_rfl) (by kernel_rfl) (by kernel_rfl) (fun _ _ _ h => h) (Or.inl ⟨by rfl, ?hy13a⟩) (by assumption) ?rest13a
    case hy13a => (intro w hSw; (try dsimp only at hSw); go_simp; try with_reducible rfl)
    try simp only [Act.put, List.setIfInBounds_toArray, List.set_cons_zero, List.set_cons_succ]
    refine wpAnyH_take (i := 14) (oi := { dst := some 26, op := Go.Op.load 3 (Go.Operand.tmp 25), type := 3, pos := "ref.go:60", after := #[{ on := 13, ground := Go.Ground.data }], guard := none }) (v := ?v14a) rfl (by kernel_rfl) (by kernel_rfl) (by kernel_rfl) (fun _ _ _ h => h) (Or.inl ⟨by rfl, ?hy14a⟩) (by assumption) ?rest14a
    case hy14a => (intro w hSw; (try dsimp only at hSw); go_simp; try with_reducible rfl)
    try simp only [Act.put, List.setIfInBounds_toArray, List.set_cons_zero, List.set_cons_succ]
    refine wpAnyH_take (i := 15) (oi := { dst := some 27, op := Go.Op.fieldAddr 68 (Go.Operand.tmp 3) 7, type := 0, pos := "ref.go:60", after := #[], guard := none }) (v := ?v15a) rfl (by kernel_rfl) (by kernel_rfl) (by kernel_rfl) (fun _ _ _ h => h) (Or.inl ⟨by rfl, ?hy15a⟩) (by assumption) ?rest15a
    case hy15a => (intro w hSw; (try dsimp only at hSw); go_simp; try with_reducible rfl)
    try simp only [Act.put, List.setIfInBounds_toArray, List.set_cons_zero, List.set_cons_succ]
    refine wpAnyH_take (i := 16) (oi := { dst := some 28, op := Go.Op.load 3 (Go.Operand.tmp 27), type := 3, pos := "ref.go:60", after := #[{ on := 15, ground := Go.Ground.data }], guard := none }) (v := ?v16a) rfl (by kernel_rfl) (by kernel_rfl) (by kernel_rfl) (fun _ _ _ h => h) (Or.inl ⟨by rfl, ?hy16a⟩) (by assumption) ?rest16a
    case hy16a => (intro w hSw; (try dsimp only at hSw); go_simp; try with_reducible rfl)
    try simp only [Act.put, List.setIfInBounds_toArray, List.set_cons_zero, List.set_cons_succ]
    refine wpAnyH_ready (rs := [4, 18]) (by kernel_rfl) (by simp) ?_
    refine AllReadyH.cons (o := { dst := some 16, op := Go.Op.call { callee := Go.Callee.value (Go.Operand.func 53), args := #[Go.Operand.tmp 13, Go.Operand.tmp 15], argTypes := #[9, 9] }, type := 9, pos := "ref.go:60", after := #[{ on := 1, ground := Go.Ground.data }, { on := 3, ground := Go.Ground.data }], guard := none }) rfl (fun K hK => ?wayc) (AllReadyH.cons (o := { dst := some 7, op := Go.Op.alloc 38, type := 0, pos := "ref.go:60", after := #[], guard := none }) rfl (fun K hK => ?waya) AllReadyH.nil)
    case wayc =>
      go_simp
      refine (Path.rjoin_s h.pre h.name _ HJl.out).mono ?_
      rintro e w6 ⟨rfl, hs⟩
      rw [HJ.out]
      have H6 := Lib.hid (Stp.trans (Head.stp_drew (Stp.refl w1)) hs)
      clear hs
      go_wp2_with fail
      refine hK.out _ _ (Key.out _ (H6.out)) (fun hHeld2 => ?_)
      clear hK K hHeld
      have hHeld := hHeld2
      clear hHeld2
      try simp only [Act.put, List.setIfInBounds_toArray, List.set_cons_zero, List.set_cons_succ]
      refine wpAnyH_take (i := 17) (oi := { dst := some 29, op := Go.Op.build 38 #[(0, Go.Operand.tmp 16), (1, Go.Operand.tmp 18), (2, Go.Operand.tmp 20), (3, Go.Operand.tmp 22), (4, Go.Operand.tmp 24), (5, Go.Operand.tmp 26), (6, Go.Operand.tmp 28)], type := 38, pos := "ref.go:60", after := #[{ on := 4, ground := Go.Ground.data }, { on := 6, ground := Go.Ground.data }, { on := 8, ground := Go.Ground.data }, { on := 10, ground := Go.Ground.data }, { on := 12, ground := Go.Ground.data }, { on := 14, ground := Go.Ground.data }, { on := 16, ground := Go.Ground.data }], guard := none }) (v := ?v17c) rfl (by kernel_rfl) (by kernel_rfl) (by kernel_rfl) (fun _ _ _ h => h) (Or.inl ⟨by rfl, ?hy17c⟩) (by assumption) ?rest17c
      case hy17c => (intro w hSw; (try dsimp only at hSw); go_simp; try with_reducible rfl)
      try simp only [Act.put, List.setIfInBounds_toArray, List.set_cons_zero, List.set_cons_succ]
      refine wpAnyH_ready (rs := [18]) (by kernel_rfl) (by simp) ?_
      refine AllReadyH.cons (o := { dst := some 7, op := Go.Op.alloc 38, type := 0, pos := "ref.go:60", after := #[], guard := none }) rfl (fun K hK => ?_) AllReadyH.nil
      go_simp
      refine hK.out _ _ (Key.out _ (Stp.alloc H6.out _)) (fun hHeld2 => ?_)
      clear hK K hHeld
      have hHeld := hHeld2
      clear hHeld2
      try simp only [Act.put, List.setIfInBounds_toArray, List.set_cons_zero, List.set_cons_succ]
      refine wpAnyH_ready (rs := [19]) (by kernel_rfl) (by simp) ?_
      refine AllReadyH.cons (o := { dst := none, op := Go.Op.store 38 (Go.Operand.tmp 7) (Go.Operand.tmp 29), type := 0, pos := "ref.go:60", after := #[{ on := 18, ground := Go.Ground.data }, { on := 17, ground := Go.Ground.data }, { on := 4, ground := Go.Ground.chain }, { on := 0, ground := Go.Ground.phase }, { on := 1, ground := Go.Ground.phase }, { on := 2, ground := Go.Ground.phase }, { on := 3, ground := Go.Ground.phase }, { on := 4, ground := Go.Ground.phase }, { on := 5, ground := Go.Ground.phase }, { on := 6, ground := Go.Ground.phase }, { on := 7, ground := Go.Ground.phase }, { on := 8, ground := Go.Ground.phase }, { on := 9, ground := Go.Ground.phase }, { on := 10, ground := Go.Ground.phase }, { on := 11, ground := Go.Ground.phase }, { on := 12, ground := Go.Ground.phase }, { on := 13, ground := Go.Ground.phase }, { on := 14, ground := Go.Ground.phase }, { on := 15, ground := Go.Ground.phase }, { on := 16, ground := Go.Ground.phase }, { on := 17, ground := Go.Ground.phase }, { on := 18, ground := Go.Ground.phase }], guard := none }) rfl (fun K hK => ?_) AllReadyH.nil
      go_simp
      refine hK.out _ _ (Key.out _ (Stp.alloc H6.out _)) (fun hHeld2 => ?_)
      clear hK K hHeld
      have hHeld := hHeld2
      clear hHeld2
      try simp only [Act.put, List.setIfInBounds_toArray, List.set_cons_zero, List.set_cons_succ]
      refine wpAnyH_done (by kernel_rfl) ?_ _
      change Exit.then _ _ Exit.normal _ (w6.alloc (.cells (ncells (mkN h J h.link)) 38))
      have hB := Blk.new w6 38 (ncells (mkN h J h.link))
      have hW := Stp.alloc H6.out (.cells (ncells (mkN h J h.link)) 38)
      generalize w6.alloc (.cells (ncells (mkN h J h.link)) 38) = W7 at hB hW ⊢
      have HB := Lib.hid hB
      have HW := Lib.hid hW
      clear hB hW
      go_wp2_with fail
      go_meet
      exact ⟨_, rfl, HB, HW, Lib.hid (H6.out.size)⟩
    case waya =>
      go_simp
      refine hK.out _ _ (Key.out _ (rstp_ad (Head.stp_drew (Stp.refl w1)))) (fun hHeld2 => ?_)
      clear hK K hHeld
      have hHeld := hHeld2
      clear hHeld2
      try simp only [Act.put, List.setIfInBounds_toArray, List.set_cons_zero, List.set_cons_succ]
      refine wpAnyH_ready (rs := [4]) (by kernel_rfl) (by simp) ?_
      refine AllReadyH.cons (o := { dst := some 16, op := Go.Op.call { callee := Go.Callee.value (Go.Operand.func 53), args := #[Go.Operand.tmp 13, Go.Operand.tmp 15], argTypes := #[9, 9] }, type := 9, pos := "ref.go:60", after := #[{ on := 1, ground := Go.Ground.data }, { on := 3, ground := Go.Ground.data }], guard := none }) rfl (fun K hK => ?_) AllReadyH.nil
      go_simp
      refine (Path.rjoin_s h.pre h.name _ HJl.out).mono ?_
      rintro e w6 ⟨rfl, hs⟩
      rw [HJ.out]
      have H6 := Lib.hid (Stp.trans (rstp_ad (Head.stp_drew (Stp.refl w1))) hs)
      have Hz := Lib.hid (rblk_ad w1 38 (ncells zeroN) hs)
      clear hs
      go_wp2_with fail
      refine hK.out _ _ (Key.out _ (H6.out)) (fun hHeld2 => ?_)
      clear hK K hHeld
      have hHeld := hHeld2
      clear hHeld2
      try simp only [Act.put, List.setIfInBounds_toArray, List.set_cons_zero, List.set_cons_succ]
      refine wpAnyH_take (i := 17) (oi := { dst := some 29, op := Go.Op.build 38 #[(0, Go.Operand.tmp 16), (1, Go.Operand.tmp 18), (2, Go.Operand.tmp 20), (3, Go.Operand.tmp 22), (4, Go.Operand.tmp 24), (5, Go.Operand.tmp 26), (6, Go.Operand.tmp 28)], type := 38, pos := "ref.go:60", after := #[{ on := 4, ground := Go.Ground.data }, { on := 6, ground := Go.Ground.data }, { on := 8, ground := Go.Ground.data }, { on := 10, ground := Go.Ground.data }, { on := 12, ground := Go.Ground.data }, { on := 14, ground := Go.Ground.data }, { on := 16, ground := Go.Ground.data }], guard := none }) (v := ?v17d) rfl (by kernel_rfl) (by kernel_rfl) (by kernel_rfl) (fun _ _ _ h => h) (Or.inl ⟨by rfl, ?hy17d⟩) (by assumption) ?rest17d
      case hy17d => (intro w hSw; (try dsimp only at hSw); go_simp; try with_reducible rfl)
      try simp only [Act.put, List.setIfInBounds_toArray, List.set_cons_zero, List.set_cons_succ]
      obtain ⟨⟨z0, z1, z2, z3, z4, z5, z6, z7⟩, y0, y1, y2, y3, y4, y5, y6, y7⟩ := nzy Hz.out
      refine wpAnyH_ready (rs := [19]) (by kernel_rfl) (by simp) ?_
      refine AllReadyH.cons (o := { dst := none, op := Go.Op.store 38 (Go.Operand.tmp 7) (Go.Operand.tmp 29), type := 0, pos := "ref.go:60", after := #[{ on := 18, ground := Go.Ground.data }, { on := 17, ground := Go.Ground.data }, { on := 4, ground := Go.Ground.chain }, { on := 0, ground := Go.Ground.phase }, { on := 1, ground := Go.Ground.phase }, { on := 2, ground := Go.Ground.phase }, { on := 3, ground := Go.Ground.phase }, { on := 4, ground := Go.Ground.phase }, { on := 5, ground := Go.Ground.phase }, { on := 6, ground := Go.Ground.phase }, { on := 7, ground := Go.Ground.phase }, { on := 8, ground := Go.Ground.phase }, { on := 9, ground := Go.Ground.phase }, { on := 10, ground := Go.Ground.phase }, { on := 11, ground := Go.Ground.phase }, { on := 12, ground := Go.Ground.phase }, { on := 13, ground := Go.Ground.phase }, { on := 14, ground := Go.Ground.phase }, { on := 15, ground := Go.Ground.phase }, { on := 16, ground := Go.Ground.phase }, { on := 17, ground := Go.Ground.phase }, { on := 18, ground := Go.Ground.phase }], guard := none }) rfl (fun K hK => ?_) AllReadyH.nil
      go_simp
      refine hK.out _ _ (Key.out _ (filln_stp (mkN h J h.link) H6.out (Nat.le_refl _))) (fun hHeld2 => ?_)
      clear hK K hHeld
      have hHeld := hHeld2
      clear hHeld2
      try simp only [Act.put, List.setIfInBounds_toArray, List.set_cons_zero, List.set_cons_succ]
      clear z0 z1 z2 z3 z4 z5 z6 z7 y0 y1 y2 y3 y4 y5 y6 y7
      refine wpAnyH_done (by kernel_rfl) ?_ _
      change Exit.then _ _ Exit.normal _ (fillN w6 w1.heap.size (mkN h J h.link))
      have hB := filln_blk (mkN h J h.link) Hz.out
      have hW := filln_stp (w := w1) (g := w1.heap.size) (mkN h J h.link) H6.out (Nat.le_refl _)
      generalize fillN w6 w1.heap.size (mkN h J h.link) = W7 at hB hW ⊢
      have HB := Lib.hid hB
      have HW := Lib.hid hW
      clear hB hW
      go_wp2_with fail
      go_meet
      exact ⟨_, rfl, HB, HW, Lib.hid (Nat.le_refl _)⟩
  case rest =>
    obtain ⟨b3, rfl, HB, HW, HLE⟩ := hcut
    clear Key
    have hb3 : g0 + 1 + 1 < b3 := Nat.lt_of_lt_of_le Hr.out.lt HLE.out
    have m1 : b3 ≠ g0 := by omega
    have m2 : b3 ≠ g0 + 1 := by omega
    have m3 : b3 ≠ g0 + 1 + 1 := by omega
    have m4 : g0 ≠ b3 := by omega
    have m5 : g0 + 1 ≠ b3 := by omega
    have m6 : g0 + 1 + 1 ≠ b3 := by omega
    have HLw := Lib.hid (show w.heap.size ≤ b3 by have := HG0.out; omega)
    have HL1 := Lib.hid (show w1.heap.size ≤ b3 from HLE.out)
    obtain ⟨q0, q1, q2, q3, q4, q5, q6, q7, q8, q9, q10, q11, q12, q13⟩ := st_cells (Hs.out.keep HW.out Hs.out.lt)
    obtain ⟨⟨n0, n1, n2, n3, n4, n5, n6, n7⟩, y0, y1, y2, y3, y4, y5, y6, y7⟩ := nzy HB.out
    go_upto_if 32 with fail
    go_cut [7] from 32 to 35 (fun s7 wx => s7 = .pointer (some ⟨b3, 0, none⟩) ∧ Hid (Blk wx b3 38 (ncells (mkN h N h.link))) ∧ Hid (Stp w1 wx))
    case first =>
      go_wp2_with fail
      · have hx : s.name ≠ [] := by
          have hq : (!s.name.isEmpty) = true := by assumption
          intro e
          rw [e] at hq
          cases hq
        have hN2 : N = s.name := by rw [← HN.out, if_neg hx]
        have HBx := Lib.hid (show Blk (wc.setCell ⟨b3, 0, none⟩ (.string ⟨s.name.toArray⟩)) b3 38 (ncells (mkN h N h.link)) by rw [hN2]; exact HB.out.put 0 _)
        have HWx := Lib.hid (show Stp w1 (wc.setCell ⟨b3, 0, none⟩ (.string ⟨s.name.toArray⟩)) from Below.setCell HW.out (p := ⟨b3, 0, none⟩) HL1.out _)
        clear hx hN2
        go_meet
        exact ⟨rfl, HBx, HWx⟩
      · have hx : s.name = [] := by
          have hq : (!s.name.isEmpty) = false := by assumption
          cases hl : s.name with
          | nil => rfl
          | cons a l => rw [hl] at hq; cases hq
        have hN2 : N = J := by rw [← HN.out, if_pos hx]
        have HBx := Lib.hid (show Blk wc b3 38 (ncells (mkN h N h.link)) by rw [hN2]; exact HB.out)
        clear hx hN2
        go_meet
        exact ⟨rfl, HBx, HW⟩
    case rest =>
    obtain ⟨rfl, HB2, HW2⟩ := hcut
    clear q0 q1 q2 q3 q4 q5 q6 q7 q8 q9 q10 q11 q12 q13 n0 n1 n2 n3 n4 n5 n6 n7 y0 y1 y2 y3 y4 y5 y6 y7
    obtain ⟨q0, q1, q2, q3, q4, q5, q6, q7, q8, q9, q10, q11, q12, q13⟩ := st_cells (Hs.out.keep HW2.out Hs.out.lt)
    obtain ⟨⟨n0, n1, n2, n3, n4, n5, n6, n7⟩, y0, y1, y2, y3, y4, y5, y6, y7⟩ := nzy HB2.out
    go_upto_if 38 with fail
    go_cut [7] from 38 to 41 (fun s7 wx => s7 = .pointer (some ⟨b3, 0, none⟩) ∧ Hid (Blk wx b3 38 (ncells (mkN h N M))) ∧ Hid (Stp w1 wx))
    case first =>
      go_wp2_with fail
      · have hx : s.link ≠ [] := by
          have hq : (!s.link.isEmpty) = true := by assumption
          intro e
          rw [e] at hq
          cases hq
        have hN2 : M = s.link := by rw [← HM.out, if_neg hx]
        have HBx := Lib.hid (show Blk (wc.setCell ⟨b3, 1, none⟩ (.string ⟨s.link.toArray⟩)) b3 38 (ncells (mkN h N M)) by rw [hN2]; exact HB2.out.put 1 _)
        have HWx := Lib.hid (show Stp w1 (wc.setCell ⟨b3, 1, none⟩ (.string ⟨s.link.toArray⟩)) from Below.setCell HW2.out (p := ⟨b3, 1, none⟩) HL1.out _)
        clear hx hN2
        go_meet
        exact ⟨rfl, HBx, HWx⟩
      · have hx : s.link = [] := by
          have hq : (!s.link.isEmpty) = false := by assumption
          cases hl : s.link with
          | nil => rfl
          | cons a l => rw [hl] at hq; cases hq
        have hN2 : M = h.link := by rw [← HM.out, if_pos hx]
        have HBx := Lib.hid (show Blk wc b3 38 (ncells (mkN h N M)) by rw [hN2]; exact HB2.out)
        clear hx hN2
        go_meet
        exact ⟨rfl, HBx, HW2⟩
    case rest =>
    obtain ⟨rfl, HB3, HW3⟩ := hcut
    clear q0 q1 q2 q3 q4 q5 q6 q7 q8 q9 q10 q11 q12 q13 n0 n1 n2 n3 n4 n5 n6 n7 y0 y1 y2 y3 y4 y5 y6 y7
    obtain ⟨q0, q1, q2, q3, q4, q5, q6, q7, q8, q9, q10, q11, q12, q13⟩ := st_cells (Hs.out.keep HW3.out Hs.out.lt)
    obtain ⟨c0, c1, c2, c3, c4, c5, c6, c7, c8, c9, c10⟩ := hd_cells (Hh.out.keep HW3.out Hh.out.lt)
    obtain ⟨ca, hca⟩ : ∃ x, decide (h.name = s.name.take 100) = x := ⟨_, rfl⟩
    obtain ⟨fa, hfa⟩ : ∃ x, decide (h.link = s.link.take 100) = x := ⟨_, rfl⟩
    have Hca := Lib.hid hca
    have Hfa := Lib.hid hfa
    clear hca hfa
    go_upto_region 8 with (first
      | (go_at_call 54; (with_reducible refine (rfirst_s h.name s.name Hn1.out _).mono ?_); rintro e w4 ⟨rfl, hs⟩; rw [Hca.out]; have HW4 := Lib.hid (Stp.trans HW3.out hs); have HB4 := Lib.hid (HB3.out.keep hs HB3.out.lt); clear hs q0 q1 q2 q3 q4 q5 q6 q7 q8 q9 q10 q11 q12 q13 c0 c1 c2 c3 c4 c5 c6 c7 c8 c9 c10; obtain ⟨q0, q1, q2, q3, q4, q5, q6, q7, q8, q9, q10, q11, q12, q13⟩ := st_cells (Hs.out.keep HW4.out Hs.out.lt); obtain ⟨c0, c1, c2, c3, c4, c5, c6, c7, c8, c9, c10⟩ := hd_cells (Hh.out.keep HW4.out Hh.out.lt))
      | (go_at_call 54; (with_reducible refine (rfirst_s h.link s.link Hn2.out _).mono ?_); rintro e w5 ⟨rfl, hs⟩; rw [Hfa.out]; have HW5 := Lib.hid (Stp.trans HW4.out hs); have HB5 := Lib.hid (HB4.out.keep hs HB4.out.lt); clear hs q0 q1 q2 q3 q4 q5 q6 q7 q8 q9 q10 q11 q12 q13 c0 c1 c2 c3 c4 c5 c6 c7 c8 c9 c10; obtain ⟨q0, q1, q2, q3, q4, q5, q6, q7, q8, q9, q10, q11, q12, q13⟩ := st_cells (Hs.out.keep HW5.out Hs.out.lt); obtain ⟨c0, c1, c2, c3, c4, c5, c6, c7, c8, c9, c10⟩ := hd_cells (Hh.out.keep HW5.out Hh.out.lt)))
    go_cut [72] from 52 to 72 (fun s72 wx => s72 = .bool (!(partsB s h)) ∧ wx = w5)
    case first =>
      obtain ⟨xa, hxa⟩ : ∃ x, s.name.isEmpty = x := ⟨_, rfl⟩
      obtain ⟨la, hla⟩ : ∃ x, s.link.isEmpty = x := ⟨_, rfl⟩
      obtain ⟨pa, hpa⟩ : ∃ x, h.pre.isEmpty = x := ⟨_, rfl⟩
      have HPB := Lib.hid (show partsB s h = ((xa || (pa && ca)) && (la || fa)) by rw [partsB_is, hxa, hla, hpa, Hca.out, Hfa.out])
      cases xa <;> cases la <;> cases pa <;> cases ca <;> cases fa
      all_goals
        go_wp2_with fail
        go_meet
        exact ⟨by rw [HPB.out]; rfl, rfl⟩
    case rest =>
    obtain ⟨rfl, rfl⟩ := hcut
    clear q0 q1 q2 q3 q4 q5 q6 q7 q8 q9 q10 q11 q12 q13 c0 c1 c2 c3 c4 c5 c6 c7 c8 c9 c10
    have fin : ∀ (t : St) (W0 : World), Blk W0 (g0 + 1 + 1) 50 (scells zeroS) → Stp w W0 → Blk (fillA W0 (g0 + 1 + 1) t) (g0 + 1 + 1) 50 (scells t) ∧ Stp w (fillA W0 (g0 + 1 + 1) t) := fun t W0 h1 h2 => ⟨filla_blk t h1, filla_st t h2 (by have := HG0.out; omega)⟩
    have Fin := Lib.hid fin
    clear fin
    obtain ⟨q0, q1, q2, q3, q4, q5, q6, q7, q8, q9, q10, q11, q12, q13⟩ := st_cells (Hs.out.keep HW5.out Hs.out.lt)
    obtain ⟨r0, r1, r2, r3, r4, r5, r6, r7, r8, r9, r10, r11, r12, r13⟩ := st_cells (Hr.out.keep HW5.out Hr.out.lt)
    have hz := rfree (Hr.out.keep HW5.out Hr.out.lt)
    obtain ⟨n0, n1, n2, n3, n4, n5, n6, n7⟩ := nd_cells HB5.out
    cases hP : partsB s h
    · exact absurd (HK.out.1.symm.trans hP) (by decide)
    have HP := Lib.hid hP
    clear hP
    obtain ⟨mp, hmp⟩ : ∃ x, PathM.mayB N = x := ⟨_, rfl⟩
    obtain ⟨O, hO⟩ : ∃ x, oneB (mkN h N M) = x := ⟨_, rfl⟩
    have Hmp := Lib.hid hmp
    have HO := Lib.hid hO
    have HmpH := Lib.hid (show PathM.mayB (nodeH s h).path = mp by rw [Hmk.out]; exact hmp)
    have HOH := Lib.hid (show oneB (nodeH s h) = O by rw [Hmk.out]; exact hO)
    clear hmp hO
    go_upto_region 11 with (go_at_call 48; (with_reducible refine (Path.rmay_s N _ Hn.out.path).mono ?_); rintro e w6 ⟨rfl, hs⟩; rw [Hmp.out]; have HW6 := Lib.hid (Stp.trans HW5.out hs); have HB6 := Lib.hid (HB5.out.keep hs HB5.out.lt); clear hs q0 q1 q2 q3 q4 q5 q6 q7 q8 q9 q10 q11 q12 q13 r0 r1 r2 r3 r4 r5 r6 r7 r8 r9 r10 r11 r12 r13 n0 n1 n2 n3 n4 n5 n6 n7 hz; obtain ⟨q0, q1, q2, q3, q4, q5, q6, q7, q8, q9, q10, q11, q12, q13⟩ := st_cells (Hs.out.keep HW6.out Hs.out.lt); obtain ⟨r0, r1, r2, r3, r4, r5, r6, r7, r8, r9, r10, r11, r12, r13⟩ := st_cells (Hr.out.keep HW6.out Hr.out.lt); have hz := rfree (Hr.out.keep HW6.out Hr.out.lt); obtain ⟨n0, n1, n2, n3, n4, n5, n6, n7⟩ := nd_cells HB6.out)
    cases mp
    · exact absurd (HK.out.2.1.symm.trans HmpH.out) (by decide)
    go_upto_region 14 with (go_at_call 35; (with_reducible refine (rone_v (mkN h N M) _ rfl Hn.out _).mono ?_); rintro e w8 ⟨rfl, hs⟩; rw [HO.out]; have HW8 := Lib.hid (Stp.trans HW6.out hs); have HB8 := Lib.hid (HB6.out.keep hs HB6.out.lt); clear hs q0 q1 q2 q3 q4 q5 q6 q7 q8 q9 q10 q11 q12 q13 r0 r1 r2 r3 r4 r5 r6 r7 r8 r9 r10 r11 r12 r13 n0 n1 n2 n3 n4 n5 n6 n7 hz; obtain ⟨q0, q1, q2, q3, q4, q5, q6, q7, q8, q9, q10, q11, q12, q13⟩ := st_cells (Hs.out.keep HW8.out Hs.out.lt); obtain ⟨r0, r1, r2, r3, r4, r5, r6, r7, r8, r9, r10, r11, r12, r13⟩ := st_cells (Hr.out.keep HW8.out Hr.out.lt); have hz := rfree (Hr.out.keep HW8.out Hr.out.lt); obtain ⟨n0, n1, n2, n3, n4, n5, n6, n7⟩ := nd_cells HB8.out; obtain ⟨c0, c1, c2, c3, c4, c5, c6, c7, c8, c9, c10⟩ := hd_cells (Hh.out.keep HW8.out Hh.out.lt))
    cases O
    · exact absurd (Or.inl HOH.out) HK.out.2.2.1
    by_cases hbig : 4000 < h.size
    · exact absurd (Or.inr (Or.inl hbig)) HK.out.2.2.1
    have k1 : decide ((4000 : Int) < h.size) = false := decide_eq_false hbig
    by_cases hpos : 0 < h.size
    · have k2 : decide ((0 : Int) < h.size) = true := decide_eq_true hpos
      by_cases hty : h.ty = 48
      · have k3 : ((h.ty.toNat : Int) != 48) = false := by rw [hty]; rfl
        have k4 : (h.size == 0) = false := beq_eq_false_iff_ne.2 (by omega)
        have e : rr = (⟨3, mkN h N M, h.size, h.size, [], [], []⟩, [⟨0, mkN h N M, []⟩], 0) := by
          rw [← HRR.out, nodeS_is, nodeE_0 HP.out HmpH.out (fun q => q.elim (fun q => Bool.noConfusion (HOH.out.symm.trans q)) (fun q => q.elim hbig (fun q => q.2 hty))), if_pos rfl, Hmk.out]
          unfold begT begE
          rw [if_neg (by omega), if_neg (by omega)]
        have He := Lib.hid e
        clear e hty hpos hbig
        have t1 : w8.heap.size ≠ g0 + 1 + 1 := Nat.ne_of_gt (Hr.out.keep HW8.out Hr.out.lt).lt
        have t2 : w8.heap.size ≠ g0 + 1 := Nat.ne_of_gt (Hh.out.keep HW8.out Hh.out.lt).lt
        have t3 : w8.heap.size ≠ b3 := Nat.ne_of_gt HB8.out.lt
        have t4 := t1.symm
        have t5 := t2.symm
        have t6 := t3.symm
        obtain ⟨u0, u1, u2, u3, u4, u5, u6, u7, u8, u9, u10, u11, u12, u13⟩ := st_cells ((Hr.out.keep HW8.out Hr.out.lt).alloc (.cells (#[.int .i64 0, .string ⟨N.toArray⟩, .string ⟨M.toArray⟩, .int .u8 (h.ty.toNat : Int), .int .i64 h.mode, .int .i64 h.uid, .int .i64 h.gid, .int .i64 h.time, .string ⟨#[]⟩, .string ⟨#[]⟩]) 40))
        obtain ⟨v0, v1, v2, v3, v4, v5, v6, v7, v8, v9, v10⟩ := hd_cells ((Hh.out.keep HW8.out Hh.out.lt).alloc (.cells (#[.int .i64 0, .string ⟨N.toArray⟩, .string ⟨M.toArray⟩, .int .u8 (h.ty.toNat : Int), .int .i64 h.mode, .int .i64 h.uid, .int .i64 h.gid, .int .i64 h.time, .string ⟨#[]⟩, .string ⟨#[]⟩]) 40))
        have hz9 := rfree ((Hr.out.keep HW8.out Hr.out.lt).alloc (.cells (#[.int .i64 0, .string ⟨N.toArray⟩, .string ⟨M.toArray⟩, .int .u8 (h.ty.toNat : Int), .int .i64 h.mode, .int .i64 h.uid, .int .i64 h.gid, .int .i64 h.time, .string ⟨#[]⟩, .string ⟨#[]⟩]) 40))
        obtain ⟨x0, x1, x2, x3, x4, x5, x6, x7⟩ := nd_cells (HB8.out.alloc (.cells (#[.int .i64 0, .string ⟨N.toArray⟩, .string ⟨M.toArray⟩, .int .u8 (h.ty.toNat : Int), .int .i64 h.mode, .int .i64 h.uid, .int .i64 h.gid, .int .i64 h.time, .string ⟨#[]⟩, .string ⟨#[]⟩]) 40))
        have HE9 := Lib.hid (rdE_lit ⟨0, mkN h N M, []⟩ w8)
        have HW9 := Lib.hid (Stp.alloc HW8.out (.cells (#[.int .i64 0, .string ⟨N.toArray⟩, .string ⟨M.toArray⟩, .int .u8 (h.ty.toNat : Int), .int .i64 h.mode, .int .i64 h.uid, .int .i64 h.gid, .int .i64 h.time, .string ⟨#[]⟩, .string ⟨#[]⟩]) 40))
        go_wp2_with fail
        go_region
        · change Exit.then _ _ Exit.normal _ ((fillA w8 (g0 + 1 + 1) ⟨3, mkN h N M, h.size, h.size, [], [], []⟩).alloc (.cells (#[.int .i64 0, .string ⟨N.toArray⟩, .string ⟨M.toArray⟩, .int .u8 (h.ty.toNat : Int), .int .i64 h.mode, .int .i64 h.uid, .int .i64 h.gid, .int .i64 h.time, .string ⟨#[]⟩, .string ⟨#[]⟩]) 40)).drew
          have hB0 := (Fin.out ⟨3, mkN h N M, h.size, h.size, [], [], []⟩ w8 (Hr.out.keep HW8.out Hr.out.lt) (Stp.trans H0.out HW8.out)).1.alloc (.cells (#[.int .i64 0, .string ⟨N.toArray⟩, .string ⟨M.toArray⟩, .int .u8 (h.ty.toNat : Int), .int .i64 h.mode, .int .i64 h.uid, .int .i64 h.gid, .int .i64 h.time, .string ⟨#[]⟩, .string ⟨#[]⟩]) 40)
          have hW0 := Stp.alloc (Fin.out ⟨3, mkN h N M, h.size, h.size, [], [], []⟩ w8 (Hr.out.keep HW8.out Hr.out.lt) (Stp.trans H0.out HW8.out)).2 (.cells (#[.int .i64 0, .string ⟨N.toArray⟩, .string ⟨M.toArray⟩, .int .u8 (h.ty.toNat : Int), .int .i64 h.mode, .int .i64 h.uid, .int .i64 h.gid, .int .i64 h.time, .string ⟨#[]⟩, .string ⟨#[]⟩]) 40)
          have hE0 : RdE ((fillA w8 (g0 + 1 + 1) ⟨3, mkN h N M, h.size, h.size, [], [], []⟩).alloc (.cells (#[.int .i64 0, .string ⟨N.toArray⟩, .string ⟨M.toArray⟩, .int .u8 (h.ty.toNat : Int), .int .i64 h.mode, .int .i64 h.uid, .int .i64 h.gid, .int .i64 h.time, .string ⟨#[]⟩, .string ⟨#[]⟩]) 40)) (some ⟨w8.heap.size, 0, none⟩) 1 [⟨0, mkN h N M, []⟩] := by
            have hq := rdE_lit ⟨0, mkN h N M, []⟩ (fillA w8 (g0 + 1 + 1) ⟨3, mkN h N M, h.size, h.size, [], [], []⟩)
            rw [filla_size] at hq
            exact hq
          generalize (fillA w8 (g0 + 1 + 1) ⟨3, mkN h N M, h.size, h.size, [], [], []⟩).alloc (.cells (#[.int .i64 0, .string ⟨N.toArray⟩, .string ⟨M.toArray⟩, .int .u8 (h.ty.toNat : Int), .int .i64 h.mode, .int .i64 h.uid, .int .i64 h.gid, .int .i64 h.time, .string ⟨#[]⟩, .string ⟨#[]⟩]) 40) = W6 at hB0 hW0 hE0 ⊢
          have hB := Blk.keep hB0 (Head.stp_drew (Stp.refl W6)) hB0.lt
          have hW := Head.stp_drew hW0
          have hE := hE0.keep (Head.stp_drew (Stp.refl W6))
          generalize W6.drew = W7 at hB hW hE ⊢
          clear hB0 hW0 hE0
          clear u0 u1 u2 u3 u4 u5 u6 u7 u8 u9 u10 u11 u12 u13 v0 v1 v2 v3 v4 v5 v6 v7 v8 v9 v10 x0 x1 x2 x3 x4 x5 x6 x7 q0 q1 q2 q3 q4 q5 q6 q7 q8 q9 q10 q11 q12 q13 r0 r1 r2 r3 r4 r5 r6 r7 r8 r9 r10 r11 r12 r13 c0 c1 c2 c3 c4 c5 c6 c7 c8 c9 c10 n0 n1 n2 n3 n4 n5 n6 n7 hz hz9 t1 t2 t3 t4 t5 t6 HE9 HW9
          obtain ⟨e0, he0⟩ : ∃ x, w8.heap.size = x := ⟨_, rfl⟩
          rw [he0] at hE
          try simp only [he0]
          clear he0
          have HB7 := Lib.hid hB
          have HW7 := Lib.hid hW
          have HE7 := Lib.hid hE
          clear hB hW hE
          go_wp2_with fail
          obtain ⟨r0, r1, r2, r3, r4, r5, r6, r7, r8, r9, r10, r11, r12, r13⟩ := st_cells HB7.out
          exact bodyPost_ret (v := .tuple #[sv ⟨3, mkN h N M, h.size, h.size, [], [], []⟩, .slice (some ⟨e0, 0, none⟩) 1 1, .int .i64 0]) (by simp [results, Tryz.results37, go_sem, r0, r1, r2, r3, r4, r5, r6, r7, r8, r9, r10, r11, r12, r13]) rfl ⟨some ⟨e0, 0, none⟩, 1, by rw [He.out]; rfl, by rw [He.out]; exact HE7.out, HW7.out⟩
        · change Exit.then _ _ Exit.normal _ (fillA (w8.alloc (.cells (#[.int .i64 0, .string ⟨N.toArray⟩, .string ⟨M.toArray⟩, .int .u8 (h.ty.toNat : Int), .int .i64 h.mode, .int .i64 h.uid, .int .i64 h.gid, .int .i64 h.time, .string ⟨#[]⟩, .string ⟨#[]⟩]) 40)) (g0 + 1 + 1) ⟨3, mkN h N M, h.size, h.size, [], [], []⟩).drew
          have hB0 := (Fin.out ⟨3, mkN h N M, h.size, h.size, [], [], []⟩ (w8.alloc (.cells (#[.int .i64 0, .string ⟨N.toArray⟩, .string ⟨M.toArray⟩, .int .u8 (h.ty.toNat : Int), .int .i64 h.mode, .int .i64 h.uid, .int .i64 h.gid, .int .i64 h.time, .string ⟨#[]⟩, .string ⟨#[]⟩]) 40)) ((Hr.out.keep HW8.out Hr.out.lt).alloc (.cells (#[.int .i64 0, .string ⟨N.toArray⟩, .string ⟨M.toArray⟩, .int .u8 (h.ty.toNat : Int), .int .i64 h.mode, .int .i64 h.uid, .int .i64 h.gid, .int .i64 h.time, .string ⟨#[]⟩, .string ⟨#[]⟩]) 40)) (Stp.trans H0.out HW9.out)).1
          have hW0 := (Fin.out ⟨3, mkN h N M, h.size, h.size, [], [], []⟩ (w8.alloc (.cells (#[.int .i64 0, .string ⟨N.toArray⟩, .string ⟨M.toArray⟩, .int .u8 (h.ty.toNat : Int), .int .i64 h.mode, .int .i64 h.uid, .int .i64 h.gid, .int .i64 h.time, .string ⟨#[]⟩, .string ⟨#[]⟩]) 40)) ((Hr.out.keep HW8.out Hr.out.lt).alloc (.cells (#[.int .i64 0, .string ⟨N.toArray⟩, .string ⟨M.toArray⟩, .int .u8 (h.ty.toNat : Int), .int .i64 h.mode, .int .i64 h.uid, .int .i64 h.gid, .int .i64 h.time, .string ⟨#[]⟩, .string ⟨#[]⟩]) 40)) (Stp.trans H0.out HW9.out)).2
          have hE0 := filla_keepE ⟨3, mkN h N M, h.size, h.size, [], [], []⟩ (show RdE (w8.alloc (.cells (#[.int .i64 0, .string ⟨N.toArray⟩, .string ⟨M.toArray⟩, .int .u8 (h.ty.toNat : Int), .int .i64 h.mode, .int .i64 h.uid, .int .i64 h.gid, .int .i64 h.time, .string ⟨#[]⟩, .string ⟨#[]⟩]) 40)) (some ⟨w8.heap.size, 0, none⟩) 1 [⟨0, mkN h N M, []⟩] from HE9.out) ((Hr.out.keep HW8.out Hr.out.lt).alloc (.cells (#[.int .i64 0, .string ⟨N.toArray⟩, .string ⟨M.toArray⟩, .int .u8 (h.ty.toNat : Int), .int .i64 h.mode, .int .i64 h.uid, .int .i64 h.gid, .int .i64 h.time, .string ⟨#[]⟩, .string ⟨#[]⟩]) 40))
          generalize fillA (w8.alloc (.cells (#[.int .i64 0, .string ⟨N.toArray⟩, .string ⟨M.toArray⟩, .int .u8 (h.ty.toNat : Int), .int .i64 h.mode, .int .i64 h.uid, .int .i64 h.gid, .int .i64 h.time, .string ⟨#[]⟩, .string ⟨#[]⟩]) 40)) (g0 + 1 + 1) ⟨3, mkN h N M, h.size, h.size, [], [], []⟩ = W6 at hB0 hW0 hE0 ⊢
          have hB := Blk.keep hB0 (Head.stp_drew (Stp.refl W6)) hB0.lt
          have hW := Head.stp_drew hW0
          have hE := hE0.keep (Head.stp_drew (Stp.refl W6))
          generalize W6.drew = W7 at hB hW hE ⊢
          clear hB0 hW0 hE0
          clear u0 u1 u2 u3 u4 u5 u6 u7 u8 u9 u10 u11 u12 u13 v0 v1 v2 v3 v4 v5 v6 v7 v8 v9 v10 x0 x1 x2 x3 x4 x5 x6 x7 q0 q1 q2 q3 q4 q5 q6 q7 q8 q9 q10 q11 q12 q13 r0 r1 r2 r3 r4 r5 r6 r7 r8 r9 r10 r11 r12 r13 c0 c1 c2 c3 c4 c5 c6 c7 c8 c9 c10 n0 n1 n2 n3 n4 n5 n6 n7 hz hz9 t1 t2 t3 t4 t5 t6 HE9 HW9
          obtain ⟨e0, he0⟩ : ∃ x, w8.heap.size = x := ⟨_, rfl⟩
          rw [he0] at hE
          try simp only [he0]
          clear he0
          have HB7 := Lib.hid hB
          have HW7 := Lib.hid hW
          have HE7 := Lib.hid hE
          clear hB hW hE
          go_wp2_with fail
          obtain ⟨r0, r1, r2, r3, r4, r5, r6, r7, r8, r9, r10, r11, r12, r13⟩ := st_cells HB7.out
          exact bodyPost_ret (v := .tuple #[sv ⟨3, mkN h N M, h.size, h.size, [], [], []⟩, .slice (some ⟨e0, 0, none⟩) 1 1, .int .i64 0]) (by simp [results, Tryz.results37, go_sem, r0, r1, r2, r3, r4, r5, r6, r7, r8, r9, r10, r11, r12, r13]) rfl ⟨some ⟨e0, 0, none⟩, 1, by rw [He.out]; rfl, by rw [He.out]; exact HE7.out, HW7.out⟩
      · exact absurd (Or.inr (Or.inr ⟨hpos, hty⟩)) HK.out.2.2.1
    · exact absurd HK.out.2.2.2 hpos
set_option maxRecDepth 100000 in
set_option maxHeartbeats 8000000 in
theorem rnode_d (s : St) (h : Hd) (l1 : s.name.length ≤ 400) (l2 : s.link.length ≤ 400) (l3 : h.pre.length ≤ 400) (l4 : h.name.length ≤ 400) (h0 : 0 ≤ h.size) (hn : SmallN (nodeH s h)) (hk : partsB s h = true ∧ PathM.mayB (nodeH s h).path = true ∧ ¬ (oneB (nodeH s h) = false ∨ 4000 < h.size ∨ (0 < h.size ∧ h.ty ≠ 48)) ∧ ¬ 0 < h.size) (w : World) :
    Calls Tryz.prog 37 #[sv s, hv h] w fun e w' => ∃ B d, e = .returned (.tuple #[sv (nodeS s h).1, .slice B (nodeS s h).2.1.length d, .int .i64 (nodeS s h).2.2]) ∧ RdE w' B d (nodeS s h).2.1 ∧ Stp w w' := by
  obtain ⟨J, hJ⟩ : ∃ x, PathM.joinV h.pre h.name = x := ⟨_, rfl⟩
  obtain ⟨N, hN⟩ : ∃ x, (if s.name = [] then J else s.name) = x := ⟨_, rfl⟩
  obtain ⟨M, hM⟩ : ∃ x, (if s.link = [] then h.link else s.link) = x := ⟨_, rfl⟩
  have hmk : nodeH s h = mkN h N M := by unfold nodeH; rw [hJ, hN, hM]
  obtain ⟨rr, hrr⟩ : ∃ rr, nodeS s h = rr := ⟨_, rfl⟩
  rw [hrr]
  have HRR := Lib.hid hrr
  have HJl := Lib.hid (show h.pre.length + h.name.length + 1 ≤ 9223372036854775807 by omega)
  have Hn1 := Lib.hid (show s.name.length ≤ 9223372036854775807 by omega)
  have Hn2 := Lib.hid (show s.link.length ≤ 9223372036854775807 by omega)
  have HK := Lib.hid hk
  clear hk
  have HJ := Lib.hid hJ
  have HN := Lib.hid hN
  have HM := Lib.hid hM
  have Hmk := Lib.hid hmk
  rw [hmk] at hn
  have Hn := Lib.hid hn
  have H0z := Lib.hid h0
  have hs1 := Stp.alloc (Stp.alloc (Stp.alloc (Stp.refl w) (.cells (scells s) 50)) (.cells (hcells h) 68)) (.cells (scells zeroS) 50)
  have H0 := Lib.hid hs1
  have Hs := Lib.hid (Blk.alloc (Blk.alloc (Blk.new w 50 (scells s)) (.cells (hcells h) 68)) (.cells (scells zeroS) 50))
  have Hh := Lib.hid (Blk.alloc (Blk.new (w.alloc (.cells (scells s) 50)) 68 (hcells h)) (.cells (scells zeroS) 50))
  have Hr := Lib.hid (Blk.new ((w.alloc (.cells (scells s) 50)).alloc (.cells (hcells h) 68)) 50 (scells zeroS))
  rw [World.size_alloc, World.size_alloc] at Hr
  rw [World.size_alloc] at Hh
  obtain ⟨g0, hg0⟩ : ∃ x, w.heap.size = x := ⟨_, rfl⟩
  have HG0 := Lib.hid hg0
  rw [hg0] at Hs Hh Hr
  clear hJ hN hM hmk hrr l1 l2 l3 l4 h0 hn hs1
  go_enter Tryz.func37, Tryz.ntmps37
  go_upto_region 1 with fail
  obtain ⟨w1, hw1⟩ : ∃ x, ((w.alloc (.cells (scells s) 50)).alloc (.cells (hcells h) 68)).alloc (.cells (scells zeroS) 50) = x := ⟨_, rfl⟩
  rw [hw1] at Hs Hh Hr H0
  change Code.wp _ _ _ _ (((w.alloc (.cells (scells s) 50)).alloc (.cells (hcells h) 68)).alloc (.cells (scells zeroS) 50))
  rw [hw1]
  try simp only [hg0]
  clear hw1 hg0
  have Key := Lib.hid (show ∀ W, Stp w1 W → (W.cell? ⟨g0 + 1, 0, none⟩ = some (.string ⟨h.name.toArray⟩) ∧ W.cell? ⟨g0 + 1, 1, none⟩ = some (.string ⟨h.pre.toArray⟩) ∧ W.cell? ⟨g0 + 1, 2, none⟩ = some (.string ⟨h.link.toArray⟩) ∧ W.cell? ⟨g0 + 1, 3, none⟩ = some (.int .i64 h.mode) ∧ W.cell? ⟨g0 + 1, 4, none⟩ = some (.int .i64 h.uid) ∧ W.cell? ⟨g0 + 1, 5, none⟩ = some (.int .i64 h.gid) ∧ W.cell? ⟨g0 + 1, 7, none⟩ = some (.int .i64 h.time) ∧ W.cell? ⟨g0 + 1, 8, none⟩ = some (.int .u8 (h.ty.toNat : Int))) from fun W hW => by
    obtain ⟨c0, c1, c2, c3, c4, c5, c6, c7, c8, c9, c10⟩ := hd_cells (Hh.out.keep hW Hh.out.lt)
    exact ⟨c0, c1, c2, c3, c4, c5, c7, c8⟩)
  go_cut [7] from 12 to 29 (fun s7 wx => ∃ b3, s7 = .pointer (some ⟨b3, 0, none⟩) ∧ Hid (Blk wx b3 38 (ncells (mkN h J h.link))) ∧ Hid (Stp w1 wx) ∧ Hid (w1.heap.size ≤ b3))
  case first =>
    refine wp_region_held_drew (S := fun W : World => W.cell? ⟨g0 + 1, 0, none⟩ = some (.string ⟨h.name.toArray⟩) ∧ W.cell? ⟨g0 + 1, 1, none⟩ = some (.string ⟨h.pre.toArray⟩) ∧ W.cell? ⟨g0 + 1, 2, none⟩ = some (.string ⟨h.link.toArray⟩) ∧ W.cell? ⟨g0 + 1, 3, none⟩ = some (.int .i64 h.mode) ∧ W.cell? ⟨g0 + 1, 4, none⟩ = some (.int .i64 h.uid) ∧ W.cell? ⟨g0 + 1, 5, none⟩ = some (.int .i64 h.gid) ∧ W.cell? ⟨g0 + 1, 7, none⟩ = some (.int .i64 h.time) ∧ W.cell? ⟨g0 + 1, 8, none⟩ = some (.int .u8 (h.ty.toNat : Int))) (by kernel_rfl) (Key.out _ (Head.stp_drew (Stp.refl _))) (fun hHeld => ?_)
    refine wpAnyH_take (i := 0) (oi := { dst := some 12, op := Go.Op.fieldAddr 68 (Go.Operand.tmp 3) 1, type := 0, pos := "ref.go:60", after := #[], guard := none }) (v := ?v0a) rfl (by kernel_rfl) (by kernel_rfl) (by kernel_rfl) (fun _ _ _ h => h) (Or.inl ⟨by rfl, ?hy0a⟩) (by assumption) ?rest0a
    case hy0a => (intro w hSw; (try dsimp only at hSw); go_simp; try with_reducible rfl)
    try simp only [Act.put, List.setIfInBounds_toArray, List.set_cons_zero, List.set_cons_succ]
    refine wpAnyH_take (i := 1) (oi := { dst := some 13, op := Go.Op.load 9 (Go.Operand.tmp 12), type := 9, pos := "ref.go:60", after := #[{ on := 0, ground := Go.Ground.data }], guard := none }) (v := ?v1a) rfl (by kernel_rfl) (by kernel_rfl) (by kernel_rfl) (fun _ _ _ h => h) (Or.inl ⟨by rfl, ?hy1a⟩) (by assumption) ?rest1a
    case hy1a => (intro w hSw; (try dsimp only at hSw); go_simp; try with_reducible rfl)
    try simp only [Act.put, List.setIfInBounds_toArray, List.set_cons_zero, List.set_cons_succ]
    refine wpAnyH_take (i := 2) (oi := { dst := some 14, op := Go.Op.fieldAddr 68 (Go.Operand.tmp 3) 0, type := 0, pos := "ref.go:60", after := #[], guard := none }) (v := ?v2a) rfl (by kernel_rfl) (by kernel_rfl) (by kernel_rfl) (fun _ _ _ h => h) (Or.inl ⟨by rfl, ?hy2a⟩) (by assumption) ?rest2a
    case hy2a => (intro w hSw; (try dsimp only at hSw); go_simp; try with_reducible rfl)
    try simp only [Act.put, List.setIfInBounds_toArray, List.set_cons_zero, List.set_cons_succ]
    refine wpAnyH_take (i := 3) (oi := { dst := some 15, op := Go.Op.load 9 (Go.Operand.tmp 14), type := 9, pos := "ref.go:60", after := #[{ on := 2, ground := Go.Ground.data }], guard := none }) (v := ?v3a) rfl (by kernel_rfl) (by kernel_rfl) (by kernel_rfl) (fun _ _ _ h => h) (Or.inl ⟨by rfl, ?hy3a⟩) (by assumption) ?rest3a
    case hy3a => (intro w hSw; (try dsimp only at hSw); go_simp; try with_reducible rfl)
    try simp only [Act.put, List.setIfInBounds_toArray, List.set_cons_zero, List.set_cons_succ]
    refine wpAnyH_take (i := 5) (oi := { dst := some 17, op := Go.Op.fieldAddr 68 (Go.Operand.tmp 3) 2, type := 0, pos := "ref.go:60", after := #[], guard := none }) (v := ?v5a) rfl (by kernel_rfl) (by kernel_rfl) (by kernel_rfl) (fun _ _ _ h => h) (Or.inl ⟨by rfl, ?hy5a⟩) (by assumption) ?rest5a
    case hy5a => (intro w hSw; (try dsimp only at hSw); go_simp; try with_reducible rfl)
    try simp only [Act.put, List.setIfInBounds_toArray, List.set_cons_zero, List.set_cons_succ]
    refine wpAnyH_take (i := 6) (oi := { dst := some 18, op := Go.Op.load 9 (Go.Operand.tmp 17), type := 9, pos := "ref.go:60", after := #[{ on := 5, ground := Go.Ground.data }], guard := none }) (v := ?v6a) rfl (by kernel_rfl) (by kernel_rfl) (by kernel_rfl) (fun _ _ _ h => h) (Or.inl ⟨by rfl, ?hy6a⟩) (by assumption) ?rest6a
    case hy6a => (intro w hSw; (try dsimp only at hSw); go_simp; try with_reducible rfl)
    try simp only [Act.put, List.setIfInBounds_toArray, List.set_cons_zero, List.set_cons_succ]
    refine wpAnyH_take (i := 7) (oi := { dst := some 19, op := Go.Op.fieldAddr 68 (Go.Operand.tmp 3) 8, type := 0, pos := "ref.go:60", after := #[], guard := none }) (v := ?v7a) rfl (by kernel_rfl) (by kernel_rfl) (by kernel_rfl) (fun _ _ _ h => h) (Or.inl ⟨by rfl, ?hy7a⟩) (by assumption) ?rest7a
    case hy7a => (intro w hSw; (try dsimp only at hSw); go_simp; try with_reducible rfl)
    try simp only [Act.put, List.setIfInBounds_toArray, List.set_cons_zero, List.set_cons_succ]
    refine wpAnyH_take (i := 8) (oi := { dst := some 20, op := Go.Op.load 5 (Go.Operand.tmp 19), type := 5, pos := "ref.go:60", after := #[{ on := 7, ground := Go.Ground.data }], guard := none }) (v := ?v8a) rfl (by kernel_rfl) (by kernel_rfl) (by kernel_rfl) (fun _ _ _ h => h) (Or.inl ⟨by rfl, ?hy8a⟩) (by assumption) ?rest8a
    case hy8a => (intro w hSw; (try dsimp only at hSw); go_simp; try with_reducible rfl)
    try simp only [Act.put, List.setIfInBounds_toArray, List.set_cons_zero, List.set_cons_succ]
    refine wpAnyH_take (i := 9) (oi := { dst := some 21, op := Go.Op.fieldAddr 68 (Go.Operand.tmp 3) 3, type := 0, pos := "ref.go:60", after := #[], guard := none }) (v := ?v9a) rfl (by kernel_rfl) (by kernel_rfl) (by kernel_rfl) (fun _ _ _ h => h) (Or.inl ⟨by rfl, ?hy9a⟩) (by assumption) ?rest9a
    case hy9a => (intro w hSw; (try dsimp only at hSw); go_simp; try with_reducible rfl)
    try simp only [Act.put, List.setIfInBounds_toArray, List.set_cons_zero, List.set_cons_succ]
    refine wpAnyH_take (i := 10) (oi := { dst := some 22, op := Go.Op.load 3 (Go.Operand.tmp 21), type := 3, pos := "ref.go:60", after := #[{ on := 9, ground := Go.Ground.data }], guard := none }) (v := ?v10a) rfl (by kernel_rfl) (by kernel_rfl) (by kernel_rfl) (fun _ _ _ h => h) (Or.inl ⟨by rfl, ?hy10a⟩) (by assumption) ?rest10a
    case hy10a => (intro w hSw; (try dsimp only at hSw); go_simp; try with_reducible rfl)
    try simp only [Act.put, List.setIfInBounds_toArray, List.set_cons_zero, List.set_cons_succ]
    refine wpAnyH_take (i := 11) (oi := { dst := some 23, op := Go.Op.fieldAddr 68 (Go.Operand.tmp 3) 4, type := 0, pos := "ref.go:60", after := #[], guard := none }) (v := ?v11a) rfl (by kernel_rfl) (by kernel_rfl) (by kernel_rfl) (fun _ _ _ h => h) (Or.inl ⟨by rfl, ?hy11a⟩) (by assumption) ?rest11a
    case hy11a => (intro w hSw; (try dsimp only at hSw); go_simp; try with_reducible rfl)
    try simp only [Act.put, List.setIfInBounds_toArray, List.set_cons_zero, List.set_cons_succ]
    refine wpAnyH_take (i := 12) (oi := { dst := some 24, op := Go.Op.load 3 (Go.Operand.tmp 23), type := 3, pos := "ref.go:60", after := #[{ on := 11, ground := Go.Ground.data }], guard := none }) (v := ?v12a) rfl (by kernel_rfl) (by kernel_rfl) (by kernel_rfl) (fun _ _ _ h => h) (Or.inl ⟨by rfl, ?hy12a⟩) (by assumption) ?rest12a
    case hy12a => (intro w hSw; (try dsimp only at hSw); go_simp; try with_reducible rfl)
    try simp only [Act.put, List.setIfInBounds_toArray, List.set_cons_zero, List.set_cons_succ]
    refine wpAnyH_take (i := 13) (oi := { dst := some 25, op := Go.Op.fieldAddr 68 (Go.Operand.tmp 3) 5, type := 0, pos := "ref.go:60", after := #[], guard := none }) (v := ?v13a) rfl (by kernel_rfl) (by kernel_rfl) (by kernel_rfl) (fun _ _ _ h => h) (Or.inl ⟨by rfl, ?hy13a⟩) (by assumption) ?rest13a
    case hy13a => (intro w hSw; (try dsimp only at hSw); go_simp; try with_reducible rfl)
    try simp only [Act.put, List.setIfInBounds_toArray, List.set_cons_zero, List.set_cons_succ]
    refine wpAnyH_take (i := 14) (oi := { dst := some 26, op := Go.Op.load 3 (Go.Operand.tmp 25), type := 3, pos := "ref.go:60", after := #[{ on := 13, ground := Go.Ground.data }], guard := none }) (v := ?v14a) rfl (by kernel_rfl) (by kernel_rfl) (by kernel_rfl) (fun _ _ _ h => h) (Or.inl ⟨by rfl, ?hy14a⟩) (by assumption) ?rest14a
    case hy14a => (intro w hSw; (try dsimp only at hSw); go_simp; try with_reducible rfl)
    try simp only [Act.put, List.setIfInBounds_toArray, List.set_cons_zero, List.set_cons_succ]
    refine wpAnyH_take (i := 15) (oi := { dst := some 27, op := Go.Op.fieldAddr 68 (Go.Operand.tmp 3) 7, type := 0, pos := "ref.go:60", after := #[], guard := none }) (v := ?v15a) rfl (by kernel_rfl) (by kernel_rfl) (by kernel_rfl) (fun _ _ _ h => h) (Or.inl ⟨by rfl, ?hy15a⟩) (by assumption) ?rest15a
    case hy15a => (intro w hSw; (try dsimp only at hSw); go_simp; try with_reducible rfl)
    try simp only [Act.put, List.setIfInBounds_toArray, List.set_cons_zero, List.set_cons_succ]
    refine wpAnyH_take (i := 16) (oi := { dst := some 28, op := Go.Op.load 3 (Go.Operand.tmp 27), type := 3, pos := "ref.go:60", after := #[{ on := 15, ground := Go.Ground.data }], guard := none }) (v := ?v16a) rfl (by kernel_rfl) (by kernel_rfl) (by kernel_rfl) (fun _ _ _ h => h) (Or.inl ⟨by rfl, ?hy16a⟩) (by assumption) ?rest16a
    case hy16a => (intro w hSw; (try dsimp only at hSw); go_simp; try with_reducible rfl)
    try simp only [Act.put, List.setIfInBounds_toArray, List.set_cons_zero, List.set_cons_succ]
    refine wpAnyH_ready (rs := [4, 18]) (by kernel_rfl) (by simp) ?_
    refine AllReadyH.cons (o := { dst := some 16, op := Go.Op.call { callee := Go.Callee.value (Go.Operand.func 53), args := #[Go.Operand.tmp 13, Go.Operand.tmp 15], argTypes := #[9, 9] }, type := 9, pos := "ref.go:60", after := #[{ on := 1, ground := Go.Ground.data }, { on := 3, ground := Go.Ground.data }], guard := none }) rfl (fun K hK => ?wayc) (AllReadyH.cons (o := { dst := some 7, op := Go.Op.alloc 38, type := 0, pos := "ref.go:60", after := #[], guard := none }) rfl (fun K hK => ?waya) AllReadyH.nil)
    case wayc =>
      go_simp
      refine (Path.rjoin_s h.pre h.name _ HJl.out).mono ?_
      rintro e w6 ⟨rfl, hs⟩
      rw [HJ.out]
      have H6 := Lib.hid (Stp.trans (Head.stp_drew (Stp.refl w1)) hs)
      clear hs
      go_wp2_with fail
      refine hK.out _ _ (Key.out _ (H6.out)) (fun hHeld2 => ?_)
      clear hK K hHeld
      have hHeld := hHeld2
      clear hHeld2
      try simp only [Act.put, List.setIfInBounds_toArray, List.set_cons_zero, List.set_cons_succ]
      refine wpAnyH_take (i := 17) (oi := { dst := some 29, op := Go.Op.build 38 #[(0, Go.Operand.tmp 16), (1, Go.Operand.tmp 18), (2, Go.Operand.tmp 20), (3, Go.Operand.tmp 22), (4, Go.Operand.tmp 24), (5, Go.Operand.tmp 26), (6, Go.Operand.tmp 28)], type := 38, pos := "ref.go:60", after := #[{ on := 4, ground := Go.Ground.data }, { on := 6, ground := Go.Ground.data }, { on := 8, ground := Go.Ground.data }, { on := 10, ground := Go.Ground.data }, { on := 12, ground := Go.Ground.data }, { on := 14, ground := Go.Ground.data }, { on := 16, ground := Go.Ground.data }], guard := none }) (v := ?v17c) rfl (by kernel_rfl) (by kernel_rfl) (by kernel_rfl) (fun _ _ _ h => h) (Or.inl ⟨by rfl, ?hy17c⟩) (by assumption) ?rest17c
      case hy17c => (intro w hSw; (try dsimp only at hSw); go_simp; try with_reducible rfl)
      try simp only [Act.put, List.setIfInBounds_toArray, List.set_cons_zero, List.set_cons_succ]
      refine wpAnyH_ready (rs := [18]) (by kernel_rfl) (by simp) ?_
      refine AllReadyH.cons (o := { dst := some 7, op := Go.Op.alloc 38, type := 0, pos := "ref.go:60", after := #[], guard := none }) rfl (fun K hK => ?_) AllReadyH.nil
      go_simp
      refine hK.out _ _ (Key.out _ (Stp.alloc H6.out _)) (fun hHeld2 => ?_)
      clear hK K hHeld
      have hHeld := hHeld2
      clear hHeld2
      try simp only [Act.put, List.setIfInBounds_toArray, List.set_cons_zero, List.set_cons_succ]
      refine wpAnyH_ready (rs := [19]) (by kernel_rfl) (by simp) ?_
      refine AllReadyH.cons (o := { dst := none, op := Go.Op.store 38 (Go.Operand.tmp 7) (Go.Operand.tmp 29), type := 0, pos := "ref.go:60", after := #[{ on := 18, ground := Go.Ground.data }, { on := 17, ground := Go.Ground.data }, { on := 4, ground := Go.Ground.chain }, { on := 0, ground := Go.Ground.phase }, { on := 1, ground := Go.Ground.phase }, { on := 2, ground := Go.Ground.phase }, { on := 3, ground := Go.Ground.phase }, { on := 4, ground := Go.Ground.phase }, { on := 5, ground := Go.Ground.phase }, { on := 6, ground := Go.Ground.phase }, { on := 7, ground := Go.Ground.phase }, { on := 8, ground := Go.Ground.phase }, { on := 9, ground := Go.Ground.phase }, { on := 10, ground := Go.Ground.phase }, { on := 11, ground := Go.Ground.phase }, { on := 12, ground := Go.Ground.phase }, { on := 13, ground := Go.Ground.phase }, { on := 14, ground := Go.Ground.phase }, { on := 15, ground := Go.Ground.phase }, { on := 16, ground := Go.Ground.phase }, { on := 17, ground := Go.Ground.phase }, { on := 18, ground := Go.Ground.phase }], guard := none }) rfl (fun K hK => ?_) AllReadyH.nil
      go_simp
      refine hK.out _ _ (Key.out _ (Stp.alloc H6.out _)) (fun hHeld2 => ?_)
      clear hK K hHeld
      have hHeld := hHeld2
      clear hHeld2
      try simp only [Act.put, List.setIfInBounds_toArray, List.set_cons_zero, List.set_cons_succ]
      refine wpAnyH_done (by kernel_rfl) ?_ _
      change Exit.then _ _ Exit.normal _ (w6.alloc (.cells (ncells (mkN h J h.link)) 38))
      have hB := Blk.new w6 38 (ncells (mkN h J h.link))
      have hW := Stp.alloc H6.out (.cells (ncells (mkN h J h.link)) 38)
      generalize w6.alloc (.cells (ncells (mkN h J h.link)) 38) = W7 at hB hW ⊢
      have HB := Lib.hid hB
      have HW := Lib.hid hW
      clear hB hW
      go_wp2_with fail
      go_meet
      exact ⟨_, rfl, HB, HW, Lib.hid (H6.out.size)⟩
    case waya =>
      go_simp
      refine hK.out _ _ (Key.out _ (rstp_ad (Head.stp_drew (Stp.refl w1)))) (fun hHeld2 => ?_)
      clear hK K hHeld
      have hHeld := hHeld2
      clear hHeld2
      try simp only [Act.put, List.setIfInBounds_toArray, List.set_cons_zero, List.set_cons_succ]
      refine wpAnyH_ready (rs := [4]) (by kernel_rfl) (by simp) ?_
      refine AllReadyH.cons (o := { dst := some 16, op := Go.Op.call { callee := Go.Callee.value (Go.Operand.func 53), args := #[Go.Operand.tmp 13, Go.Operand.tmp 15], argTypes := #[9, 9] }, type := 9, pos := "ref.go:60", after := #[{ on := 1, ground := Go.Ground.data }, { on := 3, ground := Go.Ground.data }], guard := none }) rfl (fun K hK => ?_) AllReadyH.nil
      go_simp
      refine (Path.rjoin_s h.pre h.name _ HJl.out).mono ?_
      rintro e w6 ⟨rfl, hs⟩
      rw [HJ.out]
      have H6 := Lib.hid (Stp.trans (rstp_ad (Head.stp_drew (Stp.refl w1))) hs)
      have Hz := Lib.hid (rblk_ad w1 38 (ncells zeroN) hs)
      clear hs
      go_wp2_with fail
      refine hK.out _ _ (Key.out _ (H6.out)) (fun hHeld2 => ?_)
      clear hK K hHeld
      have hHeld := hHeld2
      clear hHeld2
      try simp only [Act.put, List.setIfInBounds_toArray, List.set_cons_zero, List.set_cons_succ]
      refine wpAnyH_take (i := 17) (oi := { dst := some 29, op := Go.Op.build 38 #[(0, Go.Operand.tmp 16), (1, Go.Operand.tmp 18), (2, Go.Operand.tmp 20), (3, Go.Operand.tmp 22), (4, Go.Operand.tmp 24), (5, Go.Operand.tmp 26), (6, Go.Operand.tmp 28)], type := 38, pos := "ref.go:60", after := #[{ on := 4, ground := Go.Ground.data }, { on := 6, ground := Go.Ground.data }, { on := 8, ground := Go.Ground.data }, { on := 10, ground := Go.Ground.data }, { on := 12, ground := Go.Ground.data }, { on := 14, ground := Go.Ground.data }, { on := 16, ground := Go.Ground.data }], guard := none }) (v := ?v17d) rfl (by kernel_rfl) (by kernel_rfl) (by kernel_rfl) (fun _ _ _ h => h) (Or.inl ⟨by rfl, ?hy17d⟩) (by assumption) ?rest17d
      case hy17d => (intro w hSw; (try dsimp only at hSw); go_simp; try with_reducible rfl)
      try simp only [Act.put, List.setIfInBounds_toArray, List.set_cons_zero, List.set_cons_succ]
      obtain ⟨⟨z0, z1, z2, z3, z4, z5, z6, z7⟩, y0, y1, y2, y3, y4, y5, y6, y7⟩ := nzy Hz.out
      refine wpAnyH_ready (rs := [19]) (by kernel_rfl) (by simp) ?_
      refine AllReadyH.cons (o := { dst := none, op := Go.Op.store 38 (Go.Operand.tmp 7) (Go.Operand.tmp 29), type := 0, pos := "ref.go:60", after := #[{ on := 18, ground := Go.Ground.data }, { on := 17, ground := Go.Ground.data }, { on := 4, ground := Go.Ground.chain }, { on := 0, ground := Go.Ground.phase }, { on := 1, ground := Go.Ground.phase }, { on := 2, ground := Go.Ground.phase }, { on := 3, ground := Go.Ground.phase }, { on := 4, ground := Go.Ground.phase }, { on := 5, ground := Go.Ground.phase }, { on := 6, ground := Go.Ground.phase }, { on := 7, ground := Go.Ground.phase }, { on := 8, ground := Go.Ground.phase }, { on := 9, ground := Go.Ground.phase }, { on := 10, ground := Go.Ground.phase }, { on := 11, ground := Go.Ground.phase }, { on := 12, ground := Go.Ground.phase }, { on := 13, ground := Go.Ground.phase }, { on := 14, ground := Go.Ground.phase }, { on := 15, ground := Go.Ground.phase }, { on := 16, ground := Go.Ground.phase }, { on := 17, ground := Go.Ground.phase }, { on := 18, ground := Go.Ground.phase }], guard := none }) rfl (fun K hK => ?_) AllReadyH.nil
      go_simp
      refine hK.out _ _ (Key.out _ (filln_stp (mkN h J h.link) H6.out (Nat.le_refl _))) (fun hHeld2 => ?_)
      clear hK K hHeld
      have hHeld := hHeld2
      clear hHeld2
      try simp only [Act.put, List.setIfInBounds_toArray, List.set_cons_zero, List.set_cons_succ]
      clear z0 z1 z2 z3 z4 z5 z6 z7 y0 y1 y2 y3 y4 y5 y6 y7
      refine wpAnyH_done (by kernel_rfl) ?_ _
      change Exit.then _ _ Exit.normal _ (fillN w6 w1.heap.size (mkN h J h.link))
      have hB := filln_blk (mkN h J h.link) Hz.out
      have hW := filln_stp (w := w1) (g := w1.heap.size) (mkN h J h.link) H6.out (Nat.le_refl _)
      generalize fillN w6 w1.heap.size (mkN h J h.link) = W7 at hB hW ⊢
      have HB := Lib.hid hB
      have HW := Lib.hid hW
      clear hB hW
      go_wp2_with fail
      go_meet
      exact ⟨_, rfl, HB, HW, Lib.hid (Nat.le_refl _)⟩
  case rest =>
    obtain ⟨b3, rfl, HB, HW, HLE⟩ := hcut
    clear Key
    have hb3 : g0 + 1 + 1 < b3 := Nat.lt_of_lt_of_le Hr.out.lt HLE.out
    have m1 : b3 ≠ g0 := by omega
    have m2 : b3 ≠ g0 + 1 := by omega
    have m3 : b3 ≠ g0 + 1 + 1 := by omega
    have m4 : g0 ≠ b3 := by omega
    have m5 : g0 + 1 ≠ b3 := by omega
    have m6 : g0 + 1 + 1 ≠ b3 := by omega
    have HLw := Lib.hid (show w.heap.size ≤ b3 by have := HG0.out; omega)
    have HL1 := Lib.hid (show w1.heap.size ≤ b3 from HLE.out)
    obtain ⟨q0, q1, q2, q3, q4, q5, q6, q7, q8, q9, q10, q11, q12, q13⟩ := st_cells (Hs.out.keep HW.out Hs.out.lt)
    obtain ⟨⟨n0, n1, n2, n3, n4, n5, n6, n7⟩, y0, y1, y2, y3, y4, y5, y6, y7⟩ := nzy HB.out
    go_upto_if 32 with fail
    go_cut [7] from 32 to 35 (fun s7 wx => s7 = .pointer (some ⟨b3, 0, none⟩) ∧ Hid (Blk wx b3 38 (ncells (mkN h N h.link))) ∧ Hid (Stp w1 wx))
    case first =>
      go_wp2_with fail
      · have hx : s.name ≠ [] := by
          have hq : (!s.name.isEmpty) = true := by assumption
          intro e
          rw [e] at hq
          cases hq
        have hN2 : N = s.name := by rw [← HN.out, if_neg hx]
        have HBx := Lib.hid (show Blk (wc.setCell ⟨b3, 0, none⟩ (.string ⟨s.name.toArray⟩)) b3 38 (ncells (mkN h N h.link)) by rw [hN2]; exact HB.out.put 0 _)
        have HWx := Lib.hid (show Stp w1 (wc.setCell ⟨b3, 0, none⟩ (.string ⟨s.name.toArray⟩)) from Below.setCell HW.out (p := ⟨b3, 0, none⟩) HL1.out _)
        clear hx hN2
        go_meet
        exact ⟨rfl, HBx, HWx⟩
      · have hx : s.name = [] := by
          have hq : (!s.name.isEmpty) = false := by assumption
          cases hl : s.name with
          | nil => rfl
          | cons a l => rw [hl] at hq; cases hq
        have hN2 : N = J := by rw [← HN.out, if_pos hx]
        have HBx := Lib.hid (show Blk wc b3 38 (ncells (mkN h N h.link)) by rw [hN2]; exact HB.out)
        clear hx hN2
        go_meet
        exact ⟨rfl, HBx, HW⟩
    case rest =>
    obtain ⟨rfl, HB2, HW2⟩ := hcut
    clear q0 q1 q2 q3 q4 q5 q6 q7 q8 q9 q10 q11 q12 q13 n0 n1 n2 n3 n4 n5 n6 n7 y0 y1 y2 y3 y4 y5 y6 y7
    obtain ⟨q0, q1, q2, q3, q4, q5, q6, q7, q8, q9, q10, q11, q12, q13⟩ := st_cells (Hs.out.keep HW2.out Hs.out.lt)
    obtain ⟨⟨n0, n1, n2, n3, n4, n5, n6, n7⟩, y0, y1, y2, y3, y4, y5, y6, y7⟩ := nzy HB2.out
    go_upto_if 38 with fail
    go_cut [7] from 38 to 41 (fun s7 wx => s7 = .pointer (some ⟨b3, 0, none⟩) ∧ Hid (Blk wx b3 38 (ncells (mkN h N M))) ∧ Hid (Stp w1 wx))
    case first =>
      go_wp2_with fail
      · have hx : s.link ≠ [] := by
          have hq : (!s.link.isEmpty) = true := by assumption
          intro e
          rw [e] at hq
          cases hq
        have hN2 : M = s.link := by rw [← HM.out, if_neg hx]
        have HBx := Lib.hid (show Blk (wc.setCell ⟨b3, 1, none⟩ (.string ⟨s.link.toArray⟩)) b3 38 (ncells (mkN h N M)) by rw [hN2]; exact HB2.out.put 1 _)
        have HWx := Lib.hid (show Stp w1 (wc.setCell ⟨b3, 1, none⟩ (.string ⟨s.link.toArray⟩)) from Below.setCell HW2.out (p := ⟨b3, 1, none⟩) HL1.out _)
        clear hx hN2
        go_meet
        exact ⟨rfl, HBx, HWx⟩
      · have hx : s.link = [] := by
          have hq : (!s.link.isEmpty) = false := by assumption
          cases hl : s.link with
          | nil => rfl
          | cons a l => rw [hl] at hq; cases hq
        have hN2 : M = h.link := by rw [← HM.out, if_pos hx]
        have HBx := Lib.hid (show Blk wc b3 38 (ncells (mkN h N M)) by rw [hN2]; exact HB2.out)
        clear hx hN2
        go_meet
        exact ⟨rfl, HBx, HW2⟩
    case rest =>
    obtain ⟨rfl, HB3, HW3⟩ := hcut
    clear q0 q1 q2 q3 q4 q5 q6 q7 q8 q9 q10 q11 q12 q13 n0 n1 n2 n3 n4 n5 n6 n7 y0 y1 y2 y3 y4 y5 y6 y7
    obtain ⟨q0, q1, q2, q3, q4, q5, q6, q7, q8, q9, q10, q11, q12, q13⟩ := st_cells (Hs.out.keep HW3.out Hs.out.lt)
    obtain ⟨c0, c1, c2, c3, c4, c5, c6, c7, c8, c9, c10⟩ := hd_cells (Hh.out.keep HW3.out Hh.out.lt)
    obtain ⟨ca, hca⟩ : ∃ x, decide (h.name = s.name.take 100) = x := ⟨_, rfl⟩
    obtain ⟨fa, hfa⟩ : ∃ x, decide (h.link = s.link.take 100) = x := ⟨_, rfl⟩
    have Hca := Lib.hid hca
    have Hfa := Lib.hid hfa
    clear hca hfa
    go_upto_region 8 with (first
      | (go_at_call 54; (with_reducible refine (rfirst_s h.name s.name Hn1.out _).mono ?_); rintro e w4 ⟨rfl, hs⟩; rw [Hca.out]; have HW4 := Lib.hid (Stp.trans HW3.out hs); have HB4 := Lib.hid (HB3.out.keep hs HB3.out.lt); clear hs q0 q1 q2 q3 q4 q5 q6 q7 q8 q9 q10 q11 q12 q13 c0 c1 c2 c3 c4 c5 c6 c7 c8 c9 c10; obtain ⟨q0, q1, q2, q3, q4, q5, q6, q7, q8, q9, q10, q11, q12, q13⟩ := st_cells (Hs.out.keep HW4.out Hs.out.lt); obtain ⟨c0, c1, c2, c3, c4, c5, c6, c7, c8, c9, c10⟩ := hd_cells (Hh.out.keep HW4.out Hh.out.lt))
      | (go_at_call 54; (with_reducible refine (rfirst_s h.link s.link Hn2.out _).mono ?_); rintro e w5 ⟨rfl, hs⟩; rw [Hfa.out]; have HW5 := Lib.hid (Stp.trans HW4.out hs); have HB5 := Lib.hid (HB4.out.keep hs HB4.out.lt); clear hs q0 q1 q2 q3 q4 q5 q6 q7 q8 q9 q10 q11 q12 q13 c0 c1 c2 c3 c4 c5 c6 c7 c8 c9 c10; obtain ⟨q0, q1, q2, q3, q4, q5, q6, q7, q8, q9, q10, q11, q12, q13⟩ := st_cells (Hs.out.keep HW5.out Hs.out.lt); obtain ⟨c0, c1, c2, c3, c4, c5, c6, c7, c8, c9, c10⟩ := hd_cells (Hh.out.keep HW5.out Hh.out.lt)))
    go_cut [72] from 52 to 72 (fun s72 wx => s72 = .bool (!(partsB s h)) ∧ wx = w5)
    case first =>
      obtain ⟨xa, hxa⟩ : ∃ x, s.name.isEmpty = x := ⟨_, rfl⟩
      obtain ⟨la, hla⟩ : ∃ x, s.link.isEmpty = x := ⟨_, rfl⟩
      obtain ⟨pa, hpa⟩ : ∃ x, h.pre.isEmpty = x := ⟨_, rfl⟩
      have HPB := Lib.hid (show partsB s h = ((xa || (pa && ca)) && (la || fa)) by rw [partsB_is, hxa, hla, hpa, Hca.out, Hfa.out])
      cases xa <;> cases la <;> cases pa <;> cases ca <;> cases fa
      all_goals
        go_wp2_with fail
        go_meet
        exact ⟨by rw [HPB.out]; rfl, rfl⟩
    case rest =>
    obtain ⟨rfl, rfl⟩ := hcut
    clear q0 q1 q2 q3 q4 q5 q6 q7 q8 q9 q10 q11 q12 q13 c0 c1 c2 c3 c4 c5 c6 c7 c8 c9 c10
    have fin : ∀ (t : St) (W0 : World), Blk W0 (g0 + 1 + 1) 50 (scells zeroS) → Stp w W0 → Blk (fillA W0 (g0 + 1 + 1) t) (g0 + 1 + 1) 50 (scells t) ∧ Stp w (fillA W0 (g0 + 1 + 1) t) := fun t W0 h1 h2 => ⟨filla_blk t h1, filla_st t h2 (by have := HG0.out; omega)⟩
    have Fin := Lib.hid fin
    clear fin
    obtain ⟨q0, q1, q2, q3, q4, q5, q6, q7, q8, q9, q10, q11, q12, q13⟩ := st_cells (Hs.out.keep HW5.out Hs.out.lt)
    obtain ⟨r0, r1, r2, r3, r4, r5, r6, r7, r8, r9, r10, r11, r12, r13⟩ := st_cells (Hr.out.keep HW5.out Hr.out.lt)
    have hz := rfree (Hr.out.keep HW5.out Hr.out.lt)
    obtain ⟨n0, n1, n2, n3, n4, n5, n6, n7⟩ := nd_cells HB5.out
    cases hP : partsB s h
    · exact absurd (HK.out.1.symm.trans hP) (by decide)
    have HP := Lib.hid hP
    clear hP
    obtain ⟨mp, hmp⟩ : ∃ x, PathM.mayB N = x := ⟨_, rfl⟩
    obtain ⟨O, hO⟩ : ∃ x, oneB (mkN h N M) = x := ⟨_, rfl⟩
    have Hmp := Lib.hid hmp
    have HO := Lib.hid hO
    have HmpH := Lib.hid (show PathM.mayB (nodeH s h).path = mp by rw [Hmk.out]; exact hmp)
    have HOH := Lib.hid (show oneB (nodeH s h) = O by rw [Hmk.out]; exact hO)
    clear hmp hO
    go_upto_region 11 with (go_at_call 48; (with_reducible refine (Path.rmay_s N _ Hn.out.path).mono ?_); rintro e w6 ⟨rfl, hs⟩; rw [Hmp.out]; have HW6 := Lib.hid (Stp.trans HW5.out hs); have HB6 := Lib.hid (HB5.out.keep hs HB5.out.lt); clear hs q0 q1 q2 q3 q4 q5 q6 q7 q8 q9 q10 q11 q12 q13 r0 r1 r2 r3 r4 r5 r6 r7 r8 r9 r10 r11 r12 r13 n0 n1 n2 n3 n4 n5 n6 n7 hz; obtain ⟨q0, q1, q2, q3, q4, q5, q6, q7, q8, q9, q10, q11, q12, q13⟩ := st_cells (Hs.out.keep HW6.out Hs.out.lt); obtain ⟨r0, r1, r2, r3, r4, r5, r6, r7, r8, r9, r10, r11, r12, r13⟩ := st_cells (Hr.out.keep HW6.out Hr.out.lt); have hz := rfree (Hr.out.keep HW6.out Hr.out.lt); obtain ⟨n0, n1, n2, n3, n4, n5, n6, n7⟩ := nd_cells HB6.out)
    cases mp
    · exact absurd (HK.out.2.1.symm.trans HmpH.out) (by decide)
    go_upto_region 14 with (go_at_call 35; (with_reducible refine (rone_v (mkN h N M) _ rfl Hn.out _).mono ?_); rintro e w8 ⟨rfl, hs⟩; rw [HO.out]; have HW8 := Lib.hid (Stp.trans HW6.out hs); have HB8 := Lib.hid (HB6.out.keep hs HB6.out.lt); clear hs q0 q1 q2 q3 q4 q5 q6 q7 q8 q9 q10 q11 q12 q13 r0 r1 r2 r3 r4 r5 r6 r7 r8 r9 r10 r11 r12 r13 n0 n1 n2 n3 n4 n5 n6 n7 hz; obtain ⟨q0, q1, q2, q3, q4, q5, q6, q7, q8, q9, q10, q11, q12, q13⟩ := st_cells (Hs.out.keep HW8.out Hs.out.lt); obtain ⟨r0, r1, r2, r3, r4, r5, r6, r7, r8, r9, r10, r11, r12, r13⟩ := st_cells (Hr.out.keep HW8.out Hr.out.lt); have hz := rfree (Hr.out.keep HW8.out Hr.out.lt); obtain ⟨n0, n1, n2, n3, n4, n5, n6, n7⟩ := nd_cells HB8.out; obtain ⟨c0, c1, c2, c3, c4, c5, c6, c7, c8, c9, c10⟩ := hd_cells (Hh.out.keep HW8.out Hh.out.lt))
    cases O
    · exact absurd (Or.inl HOH.out) HK.out.2.2.1
    by_cases hbig : 4000 < h.size
    · exact absurd (Or.inr (Or.inl hbig)) HK.out.2.2.1
    have k1 : decide ((4000 : Int) < h.size) = false := decide_eq_false hbig
    by_cases hpos : 0 < h.size
    · exact absurd hpos (by have := HK.out.2.2.2; omega)
    · have k2 : decide ((0 : Int) < h.size) = false := decide_eq_false hpos
      have hsz : h.size = 0 := by have := H0z.out; omega
      have k4 : (h.size == 0) = true := by rw [hsz]; rfl
      have e : rr = (zeroS, [⟨0, mkN h N M, []⟩, ⟨2, zeroN, []⟩], 0) := by
        rw [← HRR.out, nodeS_is, nodeE_0 HP.out HmpH.out (fun q => q.elim (fun q => Bool.noConfusion (HOH.out.symm.trans q)) (fun q => q.elim hbig (fun q => hpos q.1))), if_pos rfl, Hmk.out]
        unfold begT begE
        rw [if_pos hsz, if_pos hsz]
      have He := Lib.hid e
      clear e hsz hpos hbig
      have t1 : w8.heap.size ≠ g0 + 1 + 1 := Nat.ne_of_gt (Hr.out.keep HW8.out Hr.out.lt).lt
      have t2 : w8.heap.size ≠ g0 + 1 := Nat.ne_of_gt (Hh.out.keep HW8.out Hh.out.lt).lt
      have t3 : w8.heap.size ≠ b3 := Nat.ne_of_gt HB8.out.lt
      have t4 := t1.symm
      have t5 := t2.symm
      have t6 := t3.symm
      obtain ⟨u0, u1, u2, u3, u4, u5, u6, u7, u8, u9, u10, u11, u12, u13⟩ := st_cells ((Hr.out.keep HW8.out Hr.out.lt).alloc (.cells (#[.int .i64 0, .string ⟨N.toArray⟩, .string ⟨M.toArray⟩, .int .u8 (h.ty.toNat : Int), .int .i64 h.mode, .int .i64 h.uid, .int .i64 h.gid, .int .i64 h.time, .string ⟨#[]⟩, .string ⟨#[]⟩, .int .i64 2, .string ⟨#[]⟩, .string ⟨#[]⟩, .int .u8 0, .int .i64 0, .int .i64 0, .int .i64 0, .int .i64 0, .string ⟨#[]⟩, .string ⟨#[]⟩]) 40))
      obtain ⟨v0, v1, v2, v3, v4, v5, v6, v7, v8, v9, v10⟩ := hd_cells ((Hh.out.keep HW8.out Hh.out.lt).alloc (.cells (#[.int .i64 0, .string ⟨N.toArray⟩, .string ⟨M.toArray⟩, .int .u8 (h.ty.toNat : Int), .int .i64 h.mode, .int .i64 h.uid, .int .i64 h.gid, .int .i64 h.time, .string ⟨#[]⟩, .string ⟨#[]⟩, .int .i64 2, .string ⟨#[]⟩, .string ⟨#[]⟩, .int .u8 0, .int .i64 0, .int .i64 0, .int .i64 0, .int .i64 0, .string ⟨#[]⟩, .string ⟨#[]⟩]) 40))
      have hz9 := rfree ((Hr.out.keep HW8.out Hr.out.lt).alloc (.cells (#[.int .i64 0, .string ⟨N.toArray⟩, .string ⟨M.toArray⟩, .int .u8 (h.ty.toNat : Int), .int .i64 h.mode, .int .i64 h.uid, .int .i64 h.gid, .int .i64 h.time, .string ⟨#[]⟩, .string ⟨#[]⟩, .int .i64 2, .string ⟨#[]⟩, .string ⟨#[]⟩, .int .u8 0, .int .i64 0, .int .i64 0, .int .i64 0, .int .i64 0, .string ⟨#[]⟩, .string ⟨#[]⟩]) 40))
      obtain ⟨x0, x1, x2, x3, x4, x5, x6, x7⟩ := nd_cells (HB8.out.alloc (.cells (#[.int .i64 0, .string ⟨N.toArray⟩, .string ⟨M.toArray⟩, .int .u8 (h.ty.toNat : Int), .int .i64 h.mode, .int .i64 h.uid, .int .i64 h.gid, .int .i64 h.time, .string ⟨#[]⟩, .string ⟨#[]⟩, .int .i64 2, .string ⟨#[]⟩, .string ⟨#[]⟩, .int .u8 0, .int .i64 0, .int .i64 0, .int .i64 0, .int .i64 0, .string ⟨#[]⟩, .string ⟨#[]⟩]) 40))
      have HE9 := Lib.hid (rdE_lit2 ⟨0, mkN h N M, []⟩ ⟨2, zeroN, []⟩ w8)
      have HW9 := Lib.hid (Stp.alloc HW8.out (.cells (#[.int .i64 0, .string ⟨N.toArray⟩, .string ⟨M.toArray⟩, .int .u8 (h.ty.toNat : Int), .int .i64 h.mode, .int .i64 h.uid, .int .i64 h.gid, .int .i64 h.time, .string ⟨#[]⟩, .string ⟨#[]⟩, .int .i64 2, .string ⟨#[]⟩, .string ⟨#[]⟩, .int .u8 0, .int .i64 0, .int .i64 0, .int .i64 0, .int .i64 0, .string ⟨#[]⟩, .string ⟨#[]⟩]) 40))
      go_wp2_with fail
      go_region
      · change Exit.then _ _ Exit.normal _ (fillA (w8.alloc (.cells (#[.int .i64 0, .string ⟨N.toArray⟩, .string ⟨M.toArray⟩, .int .u8 (h.ty.toNat : Int), .int .i64 h.mode, .int .i64 h.uid, .int .i64 h.gid, .int .i64 h.time, .string ⟨#[]⟩, .string ⟨#[]⟩, .int .i64 2, .string ⟨#[]⟩, .string ⟨#[]⟩, .int .u8 0, .int .i64 0, .int .i64 0, .int .i64 0, .int .i64 0, .string ⟨#[]⟩, .string ⟨#[]⟩]) 40)) (g0 + 1 + 1) zeroS).drew
        have hB0 := (Fin.out zeroS (w8.alloc (.cells (#[.int .i64 0, .string ⟨N.toArray⟩, .string ⟨M.toArray⟩, .int .u8 (h.ty.toNat : Int), .int .i64 h.mode, .int .i64 h.uid, .int .i64 h.gid, .int .i64 h.time, .string ⟨#[]⟩, .string ⟨#[]⟩, .int .i64 2, .string ⟨#[]⟩, .string ⟨#[]⟩, .int .u8 0, .int .i64 0, .int .i64 0, .int .i64 0, .int .i64 0, .string ⟨#[]⟩, .string ⟨#[]⟩]) 40)) ((Hr.out.keep HW8.out Hr.out.lt).alloc (.cells (#[.int .i64 0, .string ⟨N.toArray⟩, .string ⟨M.toArray⟩, .int .u8 (h.ty.toNat : Int), .int .i64 h.mode, .int .i64 h.uid, .int .i64 h.gid, .int .i64 h.time, .string ⟨#[]⟩, .string ⟨#[]⟩, .int .i64 2, .string ⟨#[]⟩, .string ⟨#[]⟩, .int .u8 0, .int .i64 0, .int .i64 0, .int .i64 0, .int .i64 0, .string ⟨#[]⟩, .string ⟨#[]⟩]) 40)) (Stp.trans H0.out HW9.out)).1
        have hW0 := (Fin.out zeroS (w8.alloc (.cells (#[.int .i64 0, .string ⟨N.toArray⟩, .string ⟨M.toArray⟩, .int .u8 (h.ty.toNat : Int), .int .i64 h.mode, .int .i64 h.uid, .int .i64 h.gid, .int .i64 h.time, .string ⟨#[]⟩, .string ⟨#[]⟩, .int .i64 2, .string ⟨#[]⟩, .string ⟨#[]⟩, .int .u8 0, .int .i64 0, .int .i64 0, .int .i64 0, .int .i64 0, .string ⟨#[]⟩, .string ⟨#[]⟩]) 40)) ((Hr.out.keep HW8.out Hr.out.lt).alloc (.cells (#[.int .i64 0, .string ⟨N.toArray⟩, .string ⟨M.toArray⟩, .int .u8 (h.ty.toNat : Int), .int .i64 h.mode, .int .i64 h.uid, .int .i64 h.gid, .int .i64 h.time, .string ⟨#[]⟩, .string ⟨#[]⟩, .int .i64 2, .string ⟨#[]⟩, .string ⟨#[]⟩, .int .u8 0, .int .i64 0, .int .i64 0, .int .i64 0, .int .i64 0, .string ⟨#[]⟩, .string ⟨#[]⟩]) 40)) (Stp.trans H0.out HW9.out)).2
        have hE0 := filla_keepE zeroS (show RdE (w8.alloc (.cells (#[.int .i64 0, .string ⟨N.toArray⟩, .string ⟨M.toArray⟩, .int .u8 (h.ty.toNat : Int), .int .i64 h.mode, .int .i64 h.uid, .int .i64 h.gid, .int .i64 h.time, .string ⟨#[]⟩, .string ⟨#[]⟩, .int .i64 2, .string ⟨#[]⟩, .string ⟨#[]⟩, .int .u8 0, .int .i64 0, .int .i64 0, .int .i64 0, .int .i64 0, .string ⟨#[]⟩, .string ⟨#[]⟩]) 40)) (some ⟨w8.heap.size, 0, none⟩) 2 [⟨0, mkN h N M, []⟩, ⟨2, zeroN, []⟩] from HE9.out) ((Hr.out.keep HW8.out Hr.out.lt).alloc (.cells (#[.int .i64 0, .string ⟨N.toArray⟩, .string ⟨M.toArray⟩, .int .u8 (h.ty.toNat : Int), .int .i64 h.mode, .int .i64 h.uid, .int .i64 h.gid, .int .i64 h.time, .string ⟨#[]⟩, .string ⟨#[]⟩, .int .i64 2, .string ⟨#[]⟩, .string ⟨#[]⟩, .int .u8 0, .int .i64 0, .int .i64 0, .int .i64 0, .int .i64 0, .string ⟨#[]⟩, .string ⟨#[]⟩]) 40))
        generalize fillA (w8.alloc (.cells (#[.int .i64 0, .string ⟨N.toArray⟩, .string ⟨M.toArray⟩, .int .u8 (h.ty.toNat : Int), .int .i64 h.mode, .int .i64 h.uid, .int .i64 h.gid, .int .i64 h.time, .string ⟨#[]⟩, .string ⟨#[]⟩, .int .i64 2, .string ⟨#[]⟩, .string ⟨#[]⟩, .int .u8 0, .int .i64 0, .int .i64 0, .int .i64 0, .int .i64 0, .string ⟨#[]⟩, .string ⟨#[]⟩]) 40)) (g0 + 1 + 1) zeroS = W6 at hB0 hW0 hE0 ⊢
        have hB := Blk.keep hB0 (Head.stp_drew (Stp.refl W6)) hB0.lt
        have hW := Head.stp_drew hW0
        have hE := hE0.keep (Head.stp_drew (Stp.refl W6))
        generalize W6.drew = W7 at hB hW hE ⊢
        clear hB0 hW0 hE0
        clear u0 u1 u2 u3 u4 u5 u6 u7 u8 u9 u10 u11 u12 u13 v0 v1 v2 v3 v4 v5 v6 v7 v8 v9 v10 x0 x1 x2 x3 x4 x5 x6 x7 q0 q1 q2 q3 q4 q5 q6 q7 q8 q9 q10 q11 q12 q13 r0 r1 r2 r3 r4 r5 r6 r7 r8 r9 r10 r11 r12 r13 c0 c1 c2 c3 c4 c5 c6 c7 c8 c9 c10 n0 n1 n2 n3 n4 n5 n6 n7 hz hz9 t1 t2 t3 t4 t5 t6 HE9 HW9
        obtain ⟨e0, he0⟩ : ∃ x, w8.heap.size = x := ⟨_, rfl⟩
        rw [he0] at hE
        try simp only [he0]
        clear he0
        have HB7 := Lib.hid hB
        have HW7 := Lib.hid hW
        have HE7 := Lib.hid hE
        clear hB hW hE
        go_wp2_with fail
        obtain ⟨r0, r1, r2, r3, r4, r5, r6, r7, r8, r9, r10, r11, r12, r13⟩ := st_cells HB7.out
        exact bodyPost_ret (v := .tuple #[sv zeroS, .slice (some ⟨e0, 0, none⟩) 2 2, .int .i64 0]) (by simp [results, Tryz.results37, go_sem, r0, r1, r2, r3, r4, r5, r6, r7, r8, r9, r10, r11, r12, r13]) rfl ⟨some ⟨e0, 0, none⟩, 2, by rw [He.out]; rfl, by rw [He.out]; exact HE7.out, HW7.out⟩
      · change Exit.then _ _ Exit.normal _ ((fillA w8 (g0 + 1 + 1) zeroS).alloc (.cells (#[.int .i64 0, .string ⟨N.toArray⟩, .string ⟨M.toArray⟩, .int .u8 (h.ty.toNat : Int), .int .i64 h.mode, .int .i64 h.uid, .int .i64 h.gid, .int .i64 h.time, .string ⟨#[]⟩, .string ⟨#[]⟩, .int .i64 2, .string ⟨#[]⟩, .string ⟨#[]⟩, .int .u8 0, .int .i64 0, .int .i64 0, .int .i64 0, .int .i64 0, .string ⟨#[]⟩, .string ⟨#[]⟩]) 40)).drew
        have hB0 := (Fin.out zeroS w8 (Hr.out.keep HW8.out Hr.out.lt) (Stp.trans H0.out HW8.out)).1.alloc (.cells (#[.int .i64 0, .string ⟨N.toArray⟩, .string ⟨M.toArray⟩, .int .u8 (h.ty.toNat : Int), .int .i64 h.mode, .int .i64 h.uid, .int .i64 h.gid, .int .i64 h.time, .string ⟨#[]⟩, .string ⟨#[]⟩, .int .i64 2, .string ⟨#[]⟩, .string ⟨#[]⟩, .int .u8 0, .int .i64 0, .int .i64 0, .int .i64 0, .int .i64 0, .string ⟨#[]⟩, .string ⟨#[]⟩]) 40)
        have hW0 := Stp.alloc (Fin.out zeroS w8 (Hr.out.keep HW8.out Hr.out.lt) (Stp.trans H0.out HW8.out)).2 (.cells (#[.int .i64 0, .string ⟨N.toArray⟩, .string ⟨M.toArray⟩, .int .u8 (h.ty.toNat : Int), .int .i64 h.mode, .int .i64 h.uid, .int .i64 h.gid, .int .i64 h.time, .string ⟨#[]⟩, .string ⟨#[]⟩, .int .i64 2, .string ⟨#[]⟩, .string ⟨#[]⟩, .int .u8 0, .int .i64 0, .int .i64 0, .int .i64 0, .int .i64 0, .string ⟨#[]⟩, .string ⟨#[]⟩]) 40)
        have hE0 : RdE ((fillA w8 (g0 + 1 + 1) zeroS).alloc (.cells (#[.int .i64 0, .string ⟨N.toArray⟩, .string ⟨M.toArray⟩, .int .u8 (h.ty.toNat : Int), .int .i64 h.mode, .int .i64 h.uid, .int .i64 h.gid, .int .i64 h.time, .string ⟨#[]⟩, .string ⟨#[]⟩, .int .i64 2, .string ⟨#[]⟩, .string ⟨#[]⟩, .int .u8 0, .int .i64 0, .int .i64 0, .int .i64 0, .int .i64 0, .string ⟨#[]⟩, .string ⟨#[]⟩]) 40)) (some ⟨w8.heap.size, 0, none⟩) 2 [⟨0, mkN h N M, []⟩, ⟨2, zeroN, []⟩] := by
          have hq := rdE_lit2 ⟨0, mkN h N M, []⟩ ⟨2, zeroN, []⟩ (fillA w8 (g0 + 1 + 1) zeroS)
          rw [filla_size] at hq
          exact hq
        generalize (fillA w8 (g0 + 1 + 1) zeroS).alloc (.cells (#[.int .i64 0, .string ⟨N.toArray⟩, .string ⟨M.toArray⟩, .int .u8 (h.ty.toNat : Int), .int .i64 h.mode, .int .i64 h.uid, .int .i64 h.gid, .int .i64 h.time, .string ⟨#[]⟩, .string ⟨#[]⟩, .int .i64 2, .string ⟨#[]⟩, .string ⟨#[]⟩, .int .u8 0, .int .i64 0, .int .i64 0, .int .i64 0, .int .i64 0, .string ⟨#[]⟩, .string ⟨#[]⟩]) 40) = W6 at hB0 hW0 hE0 ⊢
        have hB := Blk.keep hB0 (Head.stp_drew (Stp.refl W6)) hB0.lt
        have hW := Head.stp_drew hW0
        have hE := hE0.keep (Head.stp_drew (Stp.refl W6))
        generalize W6.drew = W7 at hB hW hE ⊢
        clear hB0 hW0 hE0
        clear u0 u1 u2 u3 u4 u5 u6 u7 u8 u9 u10 u11 u12 u13 v0 v1 v2 v3 v4 v5 v6 v7 v8 v9 v10 x0 x1 x2 x3 x4 x5 x6 x7 q0 q1 q2 q3 q4 q5 q6 q7 q8 q9 q10 q11 q12 q13 r0 r1 r2 r3 r4 r5 r6 r7 r8 r9 r10 r11 r12 r13 c0 c1 c2 c3 c4 c5 c6 c7 c8 c9 c10 n0 n1 n2 n3 n4 n5 n6 n7 hz hz9 t1 t2 t3 t4 t5 t6 HE9 HW9
        obtain ⟨e0, he0⟩ : ∃ x, w8.heap.size = x := ⟨_, rfl⟩
        rw [he0] at hE
        try simp only [he0]
        clear he0
        have HB7 := Lib.hid hB
        have HW7 := Lib.hid hW
        have HE7 := Lib.hid hE
        clear hB hW hE
        go_wp2_with fail
        obtain ⟨r0, r1, r2, r3, r4, r5, r6, r7, r8, r9, r10, r11, r12, r13⟩ := st_cells HB7.out
        exact bodyPost_ret (v := .tuple #[sv zeroS, .slice (some ⟨e0, 0, none⟩) 2 2, .int .i64 0]) (by simp [results, Tryz.results37, go_sem, r0, r1, r2, r3, r4, r5, r6, r7, r8, r9, r10, r11, r12, r13]) rfl ⟨some ⟨e0, 0, none⟩, 2, by rw [He.out]; rfl, by rw [He.out]; exact HE7.out, HW7.out⟩
end Go.Proofs.YtgjdbbhfgfodlaaGreat.Parse
