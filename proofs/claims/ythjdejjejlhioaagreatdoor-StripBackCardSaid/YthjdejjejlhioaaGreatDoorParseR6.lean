/-
  The method node of package parse's parser, with a long name, and whole. No statement is proved here.
-/
import Derived.Test.YthjdejjejlhioaaGreatDoorParseR5
namespace Go.Proofs.YthjdejjejlhioaaGreatDoor.Parse
open Go.RowKit Go.Proofs.YthjdejjejlhioaaGreatDoor.Str Go.Proofs.YthjdejjejlhioaaGreatDoor.Base Go.Proofs.YthjdejjejlhioaaGreatDoor.Node Go.Proofs.YthjdejjejlhioaaGreatDoor.Long Go.Proofs.YthjdejjejlhioaaGreatDoor.Head
open Go.Proofs.YthjdejjejlhioaaGreatDoor.Tree (oneB)

set_option maxRecDepth 100000 in
set_option maxHeartbeats 8000000 in
theorem node_b (g lo : Nat) (s : St) (v : Value) (h : Hd) (w : World) (hl : Lies w g lo s v []) (l1 : s.name.length ≤ 400) (l2 : s.link.length ≤ 400) (l3 : h.pre.length ≤ 400) (l4 : h.name.length ≤ 400) (h0 : 0 ≤ h.size) (hn : SmallN (nodeH s h)) (hx : s.name ≠ []) (hy : h.pre = []) :
    Calls Tryz.prog 164 #[.pointer (some ⟨g, 0, none⟩), hv h] w fun e w' => NodeP s h w e w' := by
  obtain ⟨J, hJ⟩ : ∃ x, PathM.joinV h.pre h.name = x := ⟨_, rfl⟩
  obtain ⟨N, hN⟩ : ∃ x, (if s.name = [] then J else s.name) = x := ⟨_, rfl⟩
  obtain ⟨M, hM⟩ : ∃ x, (if s.link = [] then h.link else s.link) = x := ⟨_, rfl⟩
  have hmk : nodeH s h = mkN h N M := by unfold nodeH; rw [hJ, hN, hM]
  have hc : s.name = [] ∨ h.pre = [] := .inr hy
  have HE1 := Lib.hid (show ¬ (s.name = [] ∨ J = s.name.take 100) → nodeE s h = 2 from fun hf => parts_no1 hc (by rw [hJ]; exact hf))
  have HE2 := Lib.hid (show ¬ (s.link = [] ∨ h.link = s.link.take 100) → nodeE s h = 2 from fun hf => parts_no2 hc hf)
  have HP := Lib.hid (show (s.name = [] ∨ J = s.name.take 100) → (s.link = [] ∨ h.link = s.link.take 100) → partsB s h = true from fun h1 h2 => (parts_is hc).2 ⟨by rw [hJ]; exact h1, h2⟩)
  have HJl := Lib.hid (show h.pre.length + h.name.length + 1 ≤ 9223372036854775807 by omega)
  have Hn1 := Lib.hid (show s.name.length ≤ 9223372036854775807 by omega)
  have Hn2 := Lib.hid (show s.link.length ≤ 9223372036854775807 by omega)
  have HJ := Lib.hid hJ
  have HN := Lib.hid hN
  have HM := Lib.hid hM
  have Hmk := Lib.hid hmk
  rw [hmk] at hn
  have Hn := Lib.hid hn
  have H0z := Lib.hid h0
  obtain ⟨mp, hmp⟩ : ∃ x, PathM.mayB N = x := ⟨_, rfl⟩
  obtain ⟨O, hO⟩ : ∃ x, oneB (mkN h N M) = x := ⟨_, rfl⟩
  have Hmp := Lib.hid hmp
  have HO := Lib.hid hO
  have hs1 := Stp.alloc (Stp.alloc (Stp.refl w) (.cells (hcells h) 113)) (.cells (ncells zeroN) 44)
  have H := Lib.hid (hl.keep hs1)
  have H0 := Lib.hid hs1
  have Hb := Lib.hid (Blk.alloc (Blk.new w 113 (hcells h)) (.cells (ncells zeroN) 44))
  have Hr := Lib.hid (Blk.new (w.alloc (.cells (hcells h) 113)) 44 (ncells zeroN))
  rw [World.size_alloc] at Hr
  obtain ⟨b1, hb1⟩ : ∃ x, w.heap.size = x := ⟨_, rfl⟩
  have hb2 : w.heap.size ≤ b1 := Nat.le_of_eq hb1
  have hb3 : w.heap.size ≤ b1 + 1 := by omega
  have HB3 := Lib.hid hb3
  rw [hb1] at Hb Hr
  have hx1 : (s.name == []) = false := beq_eq_false_iff_ne.2 hx
  have hx2 : (h.pre == []) = true := by rw [hy]; rfl
  clear hx hy
  have q12 : ∀ o1 o2 : Obj, ((w.alloc o1).alloc o2).cell? ⟨g, 12, none⟩ = some (.string ⟨s.name.toArray⟩) := fun o1 o2 => by rw [((hl.blk.alloc o1).alloc o2).cell]; rfl
  have c1 : ∀ o2 : Obj, ((w.alloc (.cells (hcells h) 113)).alloc o2).cell? ⟨b1, 1, none⟩ = some (.string ⟨h.pre.toArray⟩) := fun o2 => by rw [← hb1, ((Blk.new w 113 (hcells h)).alloc o2).cell]; rfl
  clear hJ hN hM hmk hmp hO hs1 hl l1 l2 l3 l4 h0 hn hc hb2 hb3
  go_enter Tryz.func164, Tryz.ntmps164
  go_upto_region 2 with (go_at_call 102; (with_reducible refine (must_yes _ _).mono ?_); rintro e w2 ⟨rfl, rfl⟩)
  obtain ⟨w1, hw1⟩ : ∃ x, (w.alloc (.cells (hcells h) 113)).alloc (.cells (ncells zeroN) 44) = x := ⟨_, rfl⟩
  rw [hw1] at H H0 Hb Hr
  change Code.wp _ _ _ _ ((w.alloc (.cells (hcells h) 113)).alloc (.cells (ncells zeroN) 44))
  rw [hw1]
  clear hw1 hb1 q12 c1
  have Key := Lib.hid (show ∀ W, Stp w1 W → (W.cell? ⟨g, 12, none⟩ = some (.string ⟨s.name.toArray⟩) ∧ W.cell? ⟨g, 13, none⟩ = some (.string ⟨s.link.toArray⟩) ∧ W.cell? ⟨b1, 0, none⟩ = some (.string ⟨h.name.toArray⟩) ∧ W.cell? ⟨b1, 1, none⟩ = some (.string ⟨h.pre.toArray⟩) ∧ W.cell? ⟨b1, 2, none⟩ = some (.string ⟨h.link.toArray⟩) ∧ W.cell? ⟨b1, 3, none⟩ = some (.int .i64 h.mode) ∧ W.cell? ⟨b1, 4, none⟩ = some (.int .i64 h.uid) ∧ W.cell? ⟨b1, 5, none⟩ = some (.int .i64 h.gid) ∧ W.cell? ⟨b1, 7, none⟩ = some (.int .i64 h.time) ∧ W.cell? ⟨b1, 8, none⟩ = some (.int .u8 (h.ty.toNat : Int))) from fun W hW => by
    obtain ⟨q0, q1, q2, q3, q4, q5, q6, q7, q8, q9, q10, q11, q12, q13, q14⟩ := (H.out.keep hW).cells
    obtain ⟨c0, c1, c2, c3, c4, c5, c6, c7, c8, c9, c10⟩ := hd_cells (Hb.out.keep hW Hb.out.lt)
    exact ⟨q12, q13, c0, c1, c2, c3, c4, c5, c7, c8⟩)
  go_cut [5] from 18 (fun s5 wx => ∃ b3, s5 = .pointer (some ⟨b3, 0, none⟩) ∧ Hid (Blk wx b3 44 (ncells (mkN h N M))) ∧ Hid (Stp w1 wx) ∧ Hid (s.name = [] ∨ J = s.name.take 100) ∧ Hid (s.link = [] ∨ h.link = s.link.take 100))
  case first =>
    refine wp_region_held_drew (S := fun W : World => W.cell? ⟨g, 12, none⟩ = some (.string ⟨s.name.toArray⟩) ∧ W.cell? ⟨g, 13, none⟩ = some (.string ⟨s.link.toArray⟩) ∧ W.cell? ⟨b1, 0, none⟩ = some (.string ⟨h.name.toArray⟩) ∧ W.cell? ⟨b1, 1, none⟩ = some (.string ⟨h.pre.toArray⟩) ∧ W.cell? ⟨b1, 2, none⟩ = some (.string ⟨h.link.toArray⟩) ∧ W.cell? ⟨b1, 3, none⟩ = some (.int .i64 h.mode) ∧ W.cell? ⟨b1, 4, none⟩ = some (.int .i64 h.uid) ∧ W.cell? ⟨b1, 5, none⟩ = some (.int .i64 h.gid) ∧ W.cell? ⟨b1, 7, none⟩ = some (.int .i64 h.time) ∧ W.cell? ⟨b1, 8, none⟩ = some (.int .u8 (h.ty.toNat : Int))) (by kernel_rfl) (Key.out _ (stp_dr (Stp.refl w1))) (fun hHeld => ?_)
    refine wpAnyH_take (i := 0) (oi := { dst := some 18, op := Go.Op.move (Go.Operand.tmp 0), type := 118, pos := "parse.go:196", after := #[], guard := none }) (v := ?v0b) rfl (by kernel_rfl) (by kernel_rfl) (by kernel_rfl) (fun _ _ _ h => h) (Or.inl ⟨by rfl, ?hy0b⟩) (by assumption) ?rest0b
    case hy0b => (intro w hSw; (try dsimp only at hSw); go_simp; try with_reducible rfl)
    try simp only [Act.put, List.setIfInBounds_toArray, List.set_cons_zero, List.set_cons_succ]
    refine wpAnyH_take (i := 1) (oi := { dst := some 19, op := Go.Op.nilCheck (Go.Operand.tmp 18), type := 0, pos := "parse.go:196", after := #[{ on := 0, ground := Go.Ground.data }], guard := none }) (v := ?v1b) rfl (by kernel_rfl) (by kernel_rfl) (by kernel_rfl) (fun _ _ _ h => h) (Or.inl ⟨by rfl, ?hy1b⟩) (by assumption) ?rest1b
    case hy1b => (intro w hSw; (try dsimp only at hSw); go_simp; try with_reducible rfl)
    try simp only [Act.put, List.setIfInBounds_toArray, List.set_cons_zero, List.set_cons_succ]
    refine wpAnyH_take (i := 2) (oi := { dst := some 20, op := Go.Op.fieldAddr 120 (Go.Operand.tmp 19) 0, type := 0, pos := "parse.go:196", after := #[{ on := 1, ground := Go.Ground.data }], guard := none }) (v := ?v2b) rfl (by kernel_rfl) (by kernel_rfl) (by kernel_rfl) (fun _ _ _ h => h) (Or.inl ⟨by rfl, ?hy2b⟩) (by assumption) ?rest2b
    case hy2b => (intro w hSw; (try dsimp only at hSw); go_simp; try with_reducible rfl)
    try simp only [Act.put, List.setIfInBounds_toArray, List.set_cons_zero, List.set_cons_succ]
    refine wpAnyH_take (i := 3) (oi := { dst := some 21, op := Go.Op.fieldAddr 46 (Go.Operand.tmp 20) 5, type := 0, pos := "parse.go:196", after := #[{ on := 2, ground := Go.Ground.data }], guard := none }) (v := ?v3b) rfl (by kernel_rfl) (by kernel_rfl) (by kernel_rfl) (fun _ _ _ h => h) (Or.inl ⟨by rfl, ?hy3b⟩) (by assumption) ?rest3b
    case hy3b => (intro w hSw; (try dsimp only at hSw); go_simp; try with_reducible rfl)
    try simp only [Act.put, List.setIfInBounds_toArray, List.set_cons_zero, List.set_cons_succ]
    refine wpAnyH_take (i := 4) (oi := { dst := some 22, op := Go.Op.load 9 (Go.Operand.tmp 21), type := 9, pos := "parse.go:196", after := #[{ on := 3, ground := Go.Ground.data }], guard := none }) (v := ?v4b) rfl (by kernel_rfl) (by kernel_rfl) (by kernel_rfl) (fun _ _ _ h => h) (Or.inl ⟨by rfl, ?hy4b⟩) (by assumption) ?rest4b
    case hy4b => (intro w hSw; (try dsimp only at hSw); go_simp; try with_reducible rfl)
    try simp only [Act.put, List.setIfInBounds_toArray, List.set_cons_zero, List.set_cons_succ]
    refine wpAnyH_take (i := 5) (oi := { dst := some 23, op := Go.Op.fieldAddr 113 (Go.Operand.tmp 3) 1, type := 0, pos := "parse.go:196", after := #[], guard := none }) (v := ?v5b) rfl (by kernel_rfl) (by kernel_rfl) (by kernel_rfl) (fun _ _ _ h => h) (Or.inl ⟨by rfl, ?hy5b⟩) (by assumption) ?rest5b
    case hy5b => (intro w hSw; (try dsimp only at hSw); go_simp; try with_reducible rfl)
    try simp only [Act.put, List.setIfInBounds_toArray, List.set_cons_zero, List.set_cons_succ]
    refine wpAnyH_take (i := 6) (oi := { dst := some 24, op := Go.Op.load 9 (Go.Operand.tmp 23), type := 9, pos := "parse.go:196", after := #[{ on := 5, ground := Go.Ground.data }], guard := none }) (v := ?v6b) rfl (by kernel_rfl) (by kernel_rfl) (by kernel_rfl) (fun _ _ _ h => h) (Or.inl ⟨by rfl, ?hy6b⟩) (by assumption) ?rest6b
    case hy6b => (intro w hSw; (try dsimp only at hSw); go_simp; try with_reducible rfl)
    try simp only [Act.put, List.setIfInBounds_toArray, List.set_cons_zero, List.set_cons_succ]
    refine wpAnyH_take (i := 7) (oi := { dst := some 25, op := Go.Op.fieldAddr 113 (Go.Operand.tmp 3) 0, type := 0, pos := "parse.go:196", after := #[], guard := none }) (v := ?v7b) rfl (by kernel_rfl) (by kernel_rfl) (by kernel_rfl) (fun _ _ _ h => h) (Or.inl ⟨by rfl, ?hy7b⟩) (by assumption) ?rest7b
    case hy7b => (intro w hSw; (try dsimp only at hSw); go_simp; try with_reducible rfl)
    try simp only [Act.put, List.setIfInBounds_toArray, List.set_cons_zero, List.set_cons_succ]
    refine wpAnyH_take (i := 8) (oi := { dst := some 26, op := Go.Op.load 9 (Go.Operand.tmp 25), type := 9, pos := "parse.go:196", after := #[{ on := 7, ground := Go.Ground.data }], guard := none }) (v := ?v8b) rfl (by kernel_rfl) (by kernel_rfl) (by kernel_rfl) (fun _ _ _ h => h) (Or.inl ⟨by rfl, ?hy8b⟩) (by assumption) ?rest8b
    case hy8b => (intro w hSw; (try dsimp only at hSw); go_simp; try with_reducible rfl)
    try simp only [Act.put, List.setIfInBounds_toArray, List.set_cons_zero, List.set_cons_succ]
    refine wpAnyH_take (i := 11) (oi := { dst := some 29, op := Go.Op.move (Go.Operand.tmp 0), type := 118, pos := "parse.go:196", after := #[], guard := none }) (v := ?v11b) rfl (by kernel_rfl) (by kernel_rfl) (by kernel_rfl) (fun _ _ _ h => h) (Or.inl ⟨by rfl, ?hy11b⟩) (by assumption) ?rest11b
    case hy11b => (intro w hSw; (try dsimp only at hSw); go_simp; try with_reducible rfl)
    try simp only [Act.put, List.setIfInBounds_toArray, List.set_cons_zero, List.set_cons_succ]
    refine wpAnyH_take (i := 12) (oi := { dst := some 30, op := Go.Op.nilCheck (Go.Operand.tmp 29), type := 0, pos := "parse.go:196", after := #[{ on := 11, ground := Go.Ground.data }], guard := none }) (v := ?v12b) rfl (by kernel_rfl) (by kernel_rfl) (by kernel_rfl) (fun _ _ _ h => h) (Or.inl ⟨by rfl, ?hy12b⟩) (by assumption) ?rest12b
    case hy12b => (intro w hSw; (try dsimp only at hSw); go_simp; try with_reducible rfl)
    try simp only [Act.put, List.setIfInBounds_toArray, List.set_cons_zero, List.set_cons_succ]
    refine wpAnyH_take (i := 13) (oi := { dst := some 31, op := Go.Op.fieldAddr 120 (Go.Operand.tmp 30) 0, type := 0, pos := "parse.go:196", after := #[{ on := 12, ground := Go.Ground.data }], guard := none }) (v := ?v13b) rfl (by kernel_rfl) (by kernel_rfl) (by kernel_rfl) (fun _ _ _ h => h) (Or.inl ⟨by rfl, ?hy13b⟩) (by assumption) ?rest13b
    case hy13b => (intro w hSw; (try dsimp only at hSw); go_simp; try with_reducible rfl)
    try simp only [Act.put, List.setIfInBounds_toArray, List.set_cons_zero, List.set_cons_succ]
    refine wpAnyH_take (i := 14) (oi := { dst := some 32, op := Go.Op.fieldAddr 46 (Go.Operand.tmp 31) 6, type := 0, pos := "parse.go:196", after := #[{ on := 13, ground := Go.Ground.data }], guard := none }) (v := ?v14b) rfl (by kernel_rfl) (by kernel_rfl) (by kernel_rfl) (fun _ _ _ h => h) (Or.inl ⟨by rfl, ?hy14b⟩) (by assumption) ?rest14b
    case hy14b => (intro w hSw; (try dsimp only at hSw); go_simp; try with_reducible rfl)
    try simp only [Act.put, List.setIfInBounds_toArray, List.set_cons_zero, List.set_cons_succ]
    refine wpAnyH_take (i := 15) (oi := { dst := some 33, op := Go.Op.load 9 (Go.Operand.tmp 32), type := 9, pos := "parse.go:196", after := #[{ on := 14, ground := Go.Ground.data }], guard := none }) (v := ?v15b) rfl (by kernel_rfl) (by kernel_rfl) (by kernel_rfl) (fun _ _ _ h => h) (Or.inl ⟨by rfl, ?hy15b⟩) (by assumption) ?rest15b
    case hy15b => (intro w hSw; (try dsimp only at hSw); go_simp; try with_reducible rfl)
    try simp only [Act.put, List.setIfInBounds_toArray, List.set_cons_zero, List.set_cons_succ]
    refine wpAnyH_take (i := 16) (oi := { dst := some 34, op := Go.Op.fieldAddr 113 (Go.Operand.tmp 3) 2, type := 0, pos := "parse.go:196", after := #[], guard := none }) (v := ?v16b) rfl (by kernel_rfl) (by kernel_rfl) (by kernel_rfl) (fun _ _ _ h => h) (Or.inl ⟨by rfl, ?hy16b⟩) (by assumption) ?rest16b
    case hy16b => (intro w hSw; (try dsimp only at hSw); go_simp; try with_reducible rfl)
    try simp only [Act.put, List.setIfInBounds_toArray, List.set_cons_zero, List.set_cons_succ]
    refine wpAnyH_take (i := 17) (oi := { dst := some 35, op := Go.Op.load 9 (Go.Operand.tmp 34), type := 9, pos := "parse.go:196", after := #[{ on := 16, ground := Go.Ground.data }], guard := none }) (v := ?v17b) rfl (by kernel_rfl) (by kernel_rfl) (by kernel_rfl) (fun _ _ _ h => h) (Or.inl ⟨by rfl, ?hy17b⟩) (by assumption) ?rest17b
    case hy17b => (intro w hSw; (try dsimp only at hSw); go_simp; try with_reducible rfl)
    try simp only [Act.put, List.setIfInBounds_toArray, List.set_cons_zero, List.set_cons_succ]
    refine wpAnyH_take (i := 19) (oi := { dst := some 37, op := Go.Op.fieldAddr 113 (Go.Operand.tmp 3) 8, type := 0, pos := "parse.go:196", after := #[], guard := none }) (v := ?v19b) rfl (by kernel_rfl) (by kernel_rfl) (by kernel_rfl) (fun _ _ _ h => h) (Or.inl ⟨by rfl, ?hy19b⟩) (by assumption) ?rest19b
    case hy19b => (intro w hSw; (try dsimp only at hSw); go_simp; try with_reducible rfl)
    try simp only [Act.put, List.setIfInBounds_toArray, List.set_cons_zero, List.set_cons_succ]
    refine wpAnyH_take (i := 20) (oi := { dst := some 38, op := Go.Op.load 5 (Go.Operand.tmp 37), type := 5, pos := "parse.go:196", after := #[{ on := 19, ground := Go.Ground.data }], guard := none }) (v := ?v20b) rfl (by kernel_rfl) (by kernel_rfl) (by kernel_rfl) (fun _ _ _ h => h) (Or.inl ⟨by rfl, ?hy20b⟩) (by assumption) ?rest20b
    case hy20b => (intro w hSw; (try dsimp only at hSw); go_simp; try with_reducible rfl)
    try simp only [Act.put, List.setIfInBounds_toArray, List.set_cons_zero, List.set_cons_succ]
    refine wpAnyH_take (i := 21) (oi := { dst := some 39, op := Go.Op.fieldAddr 113 (Go.Operand.tmp 3) 3, type := 0, pos := "parse.go:196", after := #[], guard := none }) (v := ?v21b) rfl (by kernel_rfl) (by kernel_rfl) (by kernel_rfl) (fun _ _ _ h => h) (Or.inl ⟨by rfl, ?hy21b⟩) (by assumption) ?rest21b
    case hy21b => (intro w hSw; (try dsimp only at hSw); go_simp; try with_reducible rfl)
    try simp only [Act.put, List.setIfInBounds_toArray, List.set_cons_zero, List.set_cons_succ]
    refine wpAnyH_take (i := 22) (oi := { dst := some 40, op := Go.Op.load 3 (Go.Operand.tmp 39), type := 3, pos := "parse.go:196", after := #[{ on := 21, ground := Go.Ground.data }], guard := none }) (v := ?v22b) rfl (by kernel_rfl) (by kernel_rfl) (by kernel_rfl) (fun _ _ _ h => h) (Or.inl ⟨by rfl, ?hy22b⟩) (by assumption) ?rest22b
    case hy22b => (intro w hSw; (try dsimp only at hSw); go_simp; try with_reducible rfl)
    try simp only [Act.put, List.setIfInBounds_toArray, List.set_cons_zero, List.set_cons_succ]
    refine wpAnyH_take (i := 23) (oi := { dst := some 41, op := Go.Op.fieldAddr 113 (Go.Operand.tmp 3) 4, type := 0, pos := "parse.go:196", after := #[], guard := none }) (v := ?v23b) rfl (by kernel_rfl) (by kernel_rfl) (by kernel_rfl) (fun _ _ _ h => h) (Or.inl ⟨by rfl, ?hy23b⟩) (by assumption) ?rest23b
    case hy23b => (intro w hSw; (try dsimp only at hSw); go_simp; try with_reducible rfl)
    try simp only [Act.put, List.setIfInBounds_toArray, List.set_cons_zero, List.set_cons_succ]
    refine wpAnyH_take (i := 24) (oi := { dst := some 42, op := Go.Op.load 3 (Go.Operand.tmp 41), type := 3, pos := "parse.go:196", after := #[{ on := 23, ground := Go.Ground.data }], guard := none }) (v := ?v24b) rfl (by kernel_rfl) (by kernel_rfl) (by kernel_rfl) (fun _ _ _ h => h) (Or.inl ⟨by rfl, ?hy24b⟩) (by assumption) ?rest24b
    case hy24b => (intro w hSw; (try dsimp only at hSw); go_simp; try with_reducible rfl)
    try simp only [Act.put, List.setIfInBounds_toArray, List.set_cons_zero, List.set_cons_succ]
    refine wpAnyH_take (i := 25) (oi := { dst := some 43, op := Go.Op.fieldAddr 113 (Go.Operand.tmp 3) 5, type := 0, pos := "parse.go:196", after := #[], guard := none }) (v := ?v25b) rfl (by kernel_rfl) (by kernel_rfl) (by kernel_rfl) (fun _ _ _ h => h) (Or.inl ⟨by rfl, ?hy25b⟩) (by assumption) ?rest25b
    case hy25b => (intro w hSw; (try dsimp only at hSw); go_simp; try with_reducible rfl)
    try simp only [Act.put, List.setIfInBounds_toArray, List.set_cons_zero, List.set_cons_succ]
    refine wpAnyH_take (i := 26) (oi := { dst := some 44, op := Go.Op.load 3 (Go.Operand.tmp 43), type := 3, pos := "parse.go:196", after := #[{ on := 25, ground := Go.Ground.data }], guard := none }) (v := ?v26b) rfl (by kernel_rfl) (by kernel_rfl) (by kernel_rfl) (fun _ _ _ h => h) (Or.inl ⟨by rfl, ?hy26b⟩) (by assumption) ?rest26b
    case hy26b => (intro w hSw; (try dsimp only at hSw); go_simp; try with_reducible rfl)
    try simp only [Act.put, List.setIfInBounds_toArray, List.set_cons_zero, List.set_cons_succ]
    refine wpAnyH_take (i := 27) (oi := { dst := some 45, op := Go.Op.fieldAddr 113 (Go.Operand.tmp 3) 7, type := 0, pos := "parse.go:196", after := #[], guard := none }) (v := ?v27b) rfl (by kernel_rfl) (by kernel_rfl) (by kernel_rfl) (fun _ _ _ h => h) (Or.inl ⟨by rfl, ?hy27b⟩) (by assumption) ?rest27b
    case hy27b => (intro w hSw; (try dsimp only at hSw); go_simp; try with_reducible rfl)
    try simp only [Act.put, List.setIfInBounds_toArray, List.set_cons_zero, List.set_cons_succ]
    refine wpAnyH_take (i := 28) (oi := { dst := some 46, op := Go.Op.load 3 (Go.Operand.tmp 45), type := 3, pos := "parse.go:196", after := #[{ on := 27, ground := Go.Ground.data }], guard := none }) (v := ?v28b) rfl (by kernel_rfl) (by kernel_rfl) (by kernel_rfl) (fun _ _ _ h => h) (Or.inl ⟨by rfl, ?hy28b⟩) (by assumption) ?rest28b
    case hy28b => (intro w hSw; (try dsimp only at hSw); go_simp; try with_reducible rfl)
    try simp only [Act.put, List.setIfInBounds_toArray, List.set_cons_zero, List.set_cons_succ]
    refine wpAnyH_ready (rs := [9, 30]) (by kernel_rfl) (by simp) ?_
    refine AllReadyH.cons (o := { dst := some 27, op := Go.Op.call { callee := Go.Callee.value (Go.Operand.func 182), args := #[Go.Operand.tmp 24, Go.Operand.tmp 26], argTypes := #[9, 9] }, type := 9, pos := "parse.go:197", after := #[{ on := 6, ground := Go.Ground.data }, { on := 8, ground := Go.Ground.data }], guard := none }) rfl (fun K hK => ?wayc20b) (AllReadyH.cons (o := { dst := some 5, op := Go.Op.alloc 44, type := 0, pos := "parse.go:196", after := #[], guard := none }) rfl (fun K hK => ?waya20b) AllReadyH.nil)
    case wayc20b =>
      go_simp
      refine (Path.join_s h.pre h.name _ HJl.out).mono ?_
      rintro e u21 ⟨rfl, hs⟩
      rw [HJ.out]
      have S21 := Lib.hid (Stp.trans (stp_dr (Stp.refl w1)) hs)
      clear hs
      go_wp2_with fail
      refine hK.out _ _ (Key.out _ (S21.out)) (fun hHeld2 => ?_)
      clear hK K hHeld
      have hHeld := hHeld2
      clear hHeld2
      try simp only [Act.put, List.setIfInBounds_toArray, List.set_cons_zero, List.set_cons_succ]
      refine wpAnyH_ready (rs := [10, 30]) (by kernel_rfl) (by simp) ?_
      refine AllReadyH.cons (o := { dst := some 28, op := Go.Op.call { callee := Go.Callee.value (Go.Operand.func 181), args := #[Go.Operand.tmp 22, Go.Operand.tmp 27], argTypes := #[9, 9] }, type := 9, pos := "parse.go:197", after := #[{ on := 4, ground := Go.Ground.data }, { on := 9, ground := Go.Ground.data }, { on := 9, ground := Go.Ground.chain }], guard := none }) rfl (fun K hK => ?wayc22b) (AllReadyH.cons (o := { dst := some 5, op := Go.Op.alloc 44, type := 0, pos := "parse.go:196", after := #[], guard := none }) rfl (fun K hK => ?waya22b) AllReadyH.nil)
      case wayc22b =>
        go_simp
        refine (whole_p s.name J N HN.out Hn1.out _).mono ?_
        rintro e u23 ⟨⟨hf, rfl⟩ | ⟨hf, rfl⟩, hs⟩
        rotate_left
        · exact ⟨rfl, nodeP_no (HE1.out hf) (Stp.trans H0.out (Stp.trans (S21.out) hs))⟩
        have HF1 := Lib.hid hf
        clear hf
        have S23 := Lib.hid (Stp.trans (S21.out) hs)
        clear hs
        go_wp2_with fail
        refine hK.out _ _ (Key.out _ (S23.out)) (fun hHeld2 => ?_)
        clear hK K hHeld
        have hHeld := hHeld2
        clear hHeld2
        try simp only [Act.put, List.setIfInBounds_toArray, List.set_cons_zero, List.set_cons_succ]
        refine wpAnyH_ready (rs := [18, 30]) (by kernel_rfl) (by simp) ?_
        refine AllReadyH.cons (o := { dst := some 36, op := Go.Op.call { callee := Go.Callee.value (Go.Operand.func 181), args := #[Go.Operand.tmp 33, Go.Operand.tmp 35], argTypes := #[9, 9] }, type := 9, pos := "parse.go:198", after := #[{ on := 15, ground := Go.Ground.data }, { on := 17, ground := Go.Ground.data }, { on := 10, ground := Go.Ground.chain }], guard := none }) rfl (fun K hK => ?wayc24b) (AllReadyH.cons (o := { dst := some 5, op := Go.Op.alloc 44, type := 0, pos := "parse.go:196", after := #[], guard := none }) rfl (fun K hK => ?waya24b) AllReadyH.nil)
        case wayc24b =>
          go_simp
          refine (whole_p s.link h.link M HM.out Hn2.out _).mono ?_
          rintro e u25 ⟨⟨hf, rfl⟩ | ⟨hf, rfl⟩, hs⟩
          rotate_left
          · exact ⟨rfl, nodeP_no (HE2.out hf) (Stp.trans H0.out (Stp.trans (S23.out) hs))⟩
          have HF2 := Lib.hid hf
          clear hf
          have S25 := Lib.hid (Stp.trans (S23.out) hs)
          clear hs
          go_wp2_with fail
          refine hK.out _ _ (Key.out _ (S25.out)) (fun hHeld2 => ?_)
          clear hK K hHeld
          have hHeld := hHeld2
          clear hHeld2
          try simp only [Act.put, List.setIfInBounds_toArray, List.set_cons_zero, List.set_cons_succ]
          refine wpAnyH_take (i := 29) (oi := { dst := some 47, op := Go.Op.build 44 #[(0, Go.Operand.tmp 28), (1, Go.Operand.tmp 36), (2, Go.Operand.tmp 38), (3, Go.Operand.tmp 40), (4, Go.Operand.tmp 42), (5, Go.Operand.tmp 44), (6, Go.Operand.tmp 46)], type := 44, pos := "parse.go:196", after := #[{ on := 10, ground := Go.Ground.data }, { on := 18, ground := Go.Ground.data }, { on := 20, ground := Go.Ground.data }, { on := 22, ground := Go.Ground.data }, { on := 24, ground := Go.Ground.data }, { on := 26, ground := Go.Ground.data }, { on := 28, ground := Go.Ground.data }], guard := none }) (v := ?v29b26) rfl (by kernel_rfl) (by kernel_rfl) (by kernel_rfl) (fun _ _ _ h => h) (Or.inl ⟨by rfl, ?hy29b26⟩) (by assumption) ?rest29b26
          case hy29b26 => (intro w hSw; (try dsimp only at hSw); go_simp; try with_reducible rfl)
          try simp only [Act.put, List.setIfInBounds_toArray, List.set_cons_zero, List.set_cons_succ]
          refine wpAnyH_ready (rs := [30]) (by kernel_rfl) (by simp) ?_
          refine AllReadyH.cons (o := { dst := some 5, op := Go.Op.alloc 44, type := 0, pos := "parse.go:196", after := #[], guard := none }) rfl (fun K hK => ?_) AllReadyH.nil
          go_simp
          refine hK.out _ _ (Key.out _ (Stp.alloc (S25.out) _)) (fun hHeld2 => ?_)
          clear hK K hHeld
          have hHeld := hHeld2
          clear hHeld2
          try simp only [Act.put, List.setIfInBounds_toArray, List.set_cons_zero, List.set_cons_succ]
          refine wpAnyH_ready (rs := [31]) (by kernel_rfl) (by simp) ?_
          refine AllReadyH.cons (o := { dst := none, op := Go.Op.store 44 (Go.Operand.tmp 5) (Go.Operand.tmp 47), type := 0, pos := "parse.go:196", after := #[{ on := 30, ground := Go.Ground.data }, { on := 29, ground := Go.Ground.data }, { on := 18, ground := Go.Ground.chain }, { on := 0, ground := Go.Ground.phase }, { on := 1, ground := Go.Ground.phase }, { on := 2, ground := Go.Ground.phase }, { on := 3, ground := Go.Ground.phase }, { on := 4, ground := Go.Ground.phase }, { on := 5, ground := Go.Ground.phase }, { on := 6, ground := Go.Ground.phase }, { on := 7, ground := Go.Ground.phase }, { on := 8, ground := Go.Ground.phase }, { on := 9, ground := Go.Ground.phase }, { on := 10, ground := Go.Ground.phase }, { on := 11, ground := Go.Ground.phase }, { on := 12, ground := Go.Ground.phase }, { on := 13, ground := Go.Ground.phase }, { on := 14, ground := Go.Ground.phase }, { on := 15, ground := Go.Ground.phase }, { on := 16, ground := Go.Ground.phase }, { on := 17, ground := Go.Ground.phase }, { on := 18, ground := Go.Ground.phase }, { on := 19, ground := Go.Ground.phase }, { on := 20, ground := Go.Ground.phase }, { on := 21, ground := Go.Ground.phase }, { on := 22, ground := Go.Ground.phase }, { on := 23, ground := Go.Ground.phase }, { on := 24, ground := Go.Ground.phase }, { on := 25, ground := Go.Ground.phase }, { on := 26, ground := Go.Ground.phase }, { on := 27, ground := Go.Ground.phase }, { on := 28, ground := Go.Ground.phase }, { on := 29, ground := Go.Ground.phase }, { on := 30, ground := Go.Ground.phase }], guard := none }) rfl (fun K hK => ?_) AllReadyH.nil
          go_simp
          refine hK.out _ _ (Key.out _ (Stp.alloc (S25.out) _)) (fun hHeld2 => ?_)
          clear hK K hHeld
          have hHeld := hHeld2
          clear hHeld2
          try simp only [Act.put, List.setIfInBounds_toArray, List.set_cons_zero, List.set_cons_succ]
          refine wpAnyH_done (by kernel_rfl) ?_ _
          change Exit.then _ _ Exit.normal _ (u25.alloc (.cells (ncells (mkN h N M)) 44))
          have hB := Blk.new u25 44 (ncells (mkN h N M))
          have hW := Stp.alloc (S25.out) (.cells (ncells (mkN h N M)) 44)
          generalize u25.alloc (.cells (ncells (mkN h N M)) 44) = W7 at hB hW ⊢
          go_wp2_with fail
          go_meet
          exact ⟨_, rfl, Lib.hid hB, Lib.hid hW, HF1, HF2⟩
        case waya24b =>
          go_simp
          have S27 := Lib.hid (Stp.alloc (S23.out) (.cells (ncells zeroN) 44))
          have Z27 := Lib.hid (Blk.new u23 44 (ncells zeroN))
          refine hK.out _ _ (Key.out _ (S27.out)) (fun hHeld2 => ?_)
          clear hK K hHeld
          have hHeld := hHeld2
          clear hHeld2
          try simp only [Act.put, List.setIfInBounds_toArray, List.set_cons_zero, List.set_cons_succ]
          refine wpAnyH_ready (rs := [18]) (by kernel_rfl) (by simp) ?_
          refine AllReadyH.cons (o := { dst := some 36, op := Go.Op.call { callee := Go.Callee.value (Go.Operand.func 181), args := #[Go.Operand.tmp 33, Go.Operand.tmp 35], argTypes := #[9, 9] }, type := 9, pos := "parse.go:198", after := #[{ on := 15, ground := Go.Ground.data }, { on := 17, ground := Go.Ground.data }, { on := 10, ground := Go.Ground.chain }], guard := none }) rfl (fun K hK => ?_) AllReadyH.nil
          go_simp
          refine (whole_p s.link h.link M HM.out Hn2.out _).mono ?_
          rintro e u28 ⟨⟨hf, rfl⟩ | ⟨hf, rfl⟩, hs⟩
          rotate_left
          · exact ⟨rfl, nodeP_no (HE2.out hf) (Stp.trans H0.out (Stp.trans (S27.out) hs))⟩
          have HF2 := Lib.hid hf
          clear hf
          have S28 := Lib.hid (Stp.trans (S27.out) hs)
          have Z28 := Lib.hid (Blk.keep (Z27.out) hs (Blk.lt (Z27.out)))
          clear hs
          go_wp2_with fail
          refine hK.out _ _ (Key.out _ (S28.out)) (fun hHeld2 => ?_)
          clear hK K hHeld
          have hHeld := hHeld2
          clear hHeld2
          try simp only [Act.put, List.setIfInBounds_toArray, List.set_cons_zero, List.set_cons_succ]
          refine wpAnyH_take (i := 29) (oi := { dst := some 47, op := Go.Op.build 44 #[(0, Go.Operand.tmp 28), (1, Go.Operand.tmp 36), (2, Go.Operand.tmp 38), (3, Go.Operand.tmp 40), (4, Go.Operand.tmp 42), (5, Go.Operand.tmp 44), (6, Go.Operand.tmp 46)], type := 44, pos := "parse.go:196", after := #[{ on := 10, ground := Go.Ground.data }, { on := 18, ground := Go.Ground.data }, { on := 20, ground := Go.Ground.data }, { on := 22, ground := Go.Ground.data }, { on := 24, ground := Go.Ground.data }, { on := 26, ground := Go.Ground.data }, { on := 28, ground := Go.Ground.data }], guard := none }) (v := ?v29b29) rfl (by kernel_rfl) (by kernel_rfl) (by kernel_rfl) (fun _ _ _ h => h) (Or.inl ⟨by rfl, ?hy29b29⟩) (by assumption) ?rest29b29
          case hy29b29 => (intro w hSw; (try dsimp only at hSw); go_simp; try with_reducible rfl)
          try simp only [Act.put, List.setIfInBounds_toArray, List.set_cons_zero, List.set_cons_succ]
          obtain ⟨⟨z0, z1, z2, z3, z4, z5, z6, z7⟩, y0, y1, y2, y3, y4, y5, y6, y7⟩ := nzy (Z28.out)
          refine wpAnyH_ready (rs := [31]) (by kernel_rfl) (by simp) ?_
          refine AllReadyH.cons (o := { dst := none, op := Go.Op.store 44 (Go.Operand.tmp 5) (Go.Operand.tmp 47), type := 0, pos := "parse.go:196", after := #[{ on := 30, ground := Go.Ground.data }, { on := 29, ground := Go.Ground.data }, { on := 18, ground := Go.Ground.chain }, { on := 0, ground := Go.Ground.phase }, { on := 1, ground := Go.Ground.phase }, { on := 2, ground := Go.Ground.phase }, { on := 3, ground := Go.Ground.phase }, { on := 4, ground := Go.Ground.phase }, { on := 5, ground := Go.Ground.phase }, { on := 6, ground := Go.Ground.phase }, { on := 7, ground := Go.Ground.phase }, { on := 8, ground := Go.Ground.phase }, { on := 9, ground := Go.Ground.phase }, { on := 10, ground := Go.Ground.phase }, { on := 11, ground := Go.Ground.phase }, { on := 12, ground := Go.Ground.phase }, { on := 13, ground := Go.Ground.phase }, { on := 14, ground := Go.Ground.phase }, { on := 15, ground := Go.Ground.phase }, { on := 16, ground := Go.Ground.phase }, { on := 17, ground := Go.Ground.phase }, { on := 18, ground := Go.Ground.phase }, { on := 19, ground := Go.Ground.phase }, { on := 20, ground := Go.Ground.phase }, { on := 21, ground := Go.Ground.phase }, { on := 22, ground := Go.Ground.phase }, { on := 23, ground := Go.Ground.phase }, { on := 24, ground := Go.Ground.phase }, { on := 25, ground := Go.Ground.phase }, { on := 26, ground := Go.Ground.phase }, { on := 27, ground := Go.Ground.phase }, { on := 28, ground := Go.Ground.phase }, { on := 29, ground := Go.Ground.phase }, { on := 30, ground := Go.Ground.phase }], guard := none }) rfl (fun K hK => ?_) AllReadyH.nil
          go_simp
          refine hK.out _ _ (Key.out _ (filln_stp (g := u23.heap.size) (mkN h N M) (S28.out) ((S23.out).size))) (fun hHeld2 => ?_)
          clear hK K hHeld
          have hHeld := hHeld2
          clear hHeld2
          try simp only [Act.put, List.setIfInBounds_toArray, List.set_cons_zero, List.set_cons_succ]
          clear z0 z1 z2 z3 z4 z5 z6 z7 y0 y1 y2 y3 y4 y5 y6 y7
          refine wpAnyH_done (by kernel_rfl) ?_ _
          change Exit.then _ _ Exit.normal _ (fillN u28 u23.heap.size (mkN h N M))
          have hB := filln_blk (mkN h N M) (Z28.out)
          have hW := filln_stp (g := u23.heap.size) (mkN h N M) (S28.out) ((S23.out).size)
          generalize fillN u28 u23.heap.size (mkN h N M) = W7 at hB hW ⊢
          go_wp2_with fail
          go_meet
          exact ⟨_, rfl, Lib.hid hB, Lib.hid hW, HF1, HF2⟩
      case waya22b =>
        go_simp
        have S30 := Lib.hid (Stp.alloc (S21.out) (.cells (ncells zeroN) 44))
        have Z30 := Lib.hid (Blk.new u21 44 (ncells zeroN))
        refine hK.out _ _ (Key.out _ (S30.out)) (fun hHeld2 => ?_)
        clear hK K hHeld
        have hHeld := hHeld2
        clear hHeld2
        try simp only [Act.put, List.setIfInBounds_toArray, List.set_cons_zero, List.set_cons_succ]
        refine wpAnyH_ready (rs := [10]) (by kernel_rfl) (by simp) ?_
        refine AllReadyH.cons (o := { dst := some 28, op := Go.Op.call { callee := Go.Callee.value (Go.Operand.func 181), args := #[Go.Operand.tmp 22, Go.Operand.tmp 27], argTypes := #[9, 9] }, type := 9, pos := "parse.go:197", after := #[{ on := 4, ground := Go.Ground.data }, { on := 9, ground := Go.Ground.data }, { on := 9, ground := Go.Ground.chain }], guard := none }) rfl (fun K hK => ?_) AllReadyH.nil
        go_simp
        refine (whole_p s.name J N HN.out Hn1.out _).mono ?_
        rintro e u31 ⟨⟨hf, rfl⟩ | ⟨hf, rfl⟩, hs⟩
        rotate_left
        · exact ⟨rfl, nodeP_no (HE1.out hf) (Stp.trans H0.out (Stp.trans (S30.out) hs))⟩
        have HF1 := Lib.hid hf
        clear hf
        have S31 := Lib.hid (Stp.trans (S30.out) hs)
        have Z31 := Lib.hid (Blk.keep (Z30.out) hs (Blk.lt (Z30.out)))
        clear hs
        go_wp2_with fail
        refine hK.out _ _ (Key.out _ (S31.out)) (fun hHeld2 => ?_)
        clear hK K hHeld
        have hHeld := hHeld2
        clear hHeld2
        try simp only [Act.put, List.setIfInBounds_toArray, List.set_cons_zero, List.set_cons_succ]
        refine wpAnyH_ready (rs := [18]) (by kernel_rfl) (by simp) ?_
        refine AllReadyH.cons (o := { dst := some 36, op := Go.Op.call { callee := Go.Callee.value (Go.Operand.func 181), args := #[Go.Operand.tmp 33, Go.Operand.tmp 35], argTypes := #[9, 9] }, type := 9, pos := "parse.go:198", after := #[{ on := 15, ground := Go.Ground.data }, { on := 17, ground := Go.Ground.data }, { on := 10, ground := Go.Ground.chain }], guard := none }) rfl (fun K hK => ?_) AllReadyH.nil
        go_simp
        refine (whole_p s.link h.link M HM.out Hn2.out _).mono ?_
        rintro e u32 ⟨⟨hf, rfl⟩ | ⟨hf, rfl⟩, hs⟩
        rotate_left
        · exact ⟨rfl, nodeP_no (HE2.out hf) (Stp.trans H0.out (Stp.trans (S31.out) hs))⟩
        have HF2 := Lib.hid hf
        clear hf
        have S32 := Lib.hid (Stp.trans (S31.out) hs)
        have Z32 := Lib.hid (Blk.keep (Z31.out) hs (Blk.lt (Z31.out)))
        clear hs
        go_wp2_with fail
        refine hK.out _ _ (Key.out _ (S32.out)) (fun hHeld2 => ?_)
        clear hK K hHeld
        have hHeld := hHeld2
        clear hHeld2
        try simp only [Act.put, List.setIfInBounds_toArray, List.set_cons_zero, List.set_cons_succ]
        refine wpAnyH_take (i := 29) (oi := { dst := some 47, op := Go.Op.build 44 #[(0, Go.Operand.tmp 28), (1, Go.Operand.tmp 36), (2, Go.Operand.tmp 38), (3, Go.Operand.tmp 40), (4, Go.Operand.tmp 42), (5, Go.Operand.tmp 44), (6, Go.Operand.tmp 46)], type := 44, pos := "parse.go:196", after := #[{ on := 10, ground := Go.Ground.data }, { on := 18, ground := Go.Ground.data }, { on := 20, ground := Go.Ground.data }, { on := 22, ground := Go.Ground.data }, { on := 24, ground := Go.Ground.data }, { on := 26, ground := Go.Ground.data }, { on := 28, ground := Go.Ground.data }], guard := none }) (v := ?v29b33) rfl (by kernel_rfl) (by kernel_rfl) (by kernel_rfl) (fun _ _ _ h => h) (Or.inl ⟨by rfl, ?hy29b33⟩) (by assumption) ?rest29b33
        case hy29b33 => (intro w hSw; (try dsimp only at hSw); go_simp; try with_reducible rfl)
        try simp only [Act.put, List.setIfInBounds_toArray, List.set_cons_zero, List.set_cons_succ]
        obtain ⟨⟨z0, z1, z2, z3, z4, z5, z6, z7⟩, y0, y1, y2, y3, y4, y5, y6, y7⟩ := nzy (Z32.out)
        refine wpAnyH_ready (rs := [31]) (by kernel_rfl) (by simp) ?_
        refine AllReadyH.cons (o := { dst := none, op := Go.Op.store 44 (Go.Operand.tmp 5) (Go.Operand.tmp 47), type := 0, pos := "parse.go:196", after := #[{ on := 30, ground := Go.Ground.data }, { on := 29, ground := Go.Ground.data }, { on := 18, ground := Go.Ground.chain }, { on := 0, ground := Go.Ground.phase }, { on := 1, ground := Go.Ground.phase }, { on := 2, ground := Go.Ground.phase }, { on := 3, ground := Go.Ground.phase }, { on := 4, ground := Go.Ground.phase }, { on := 5, ground := Go.Ground.phase }, { on := 6, ground := Go.Ground.phase }, { on := 7, ground := Go.Ground.phase }, { on := 8, ground := Go.Ground.phase }, { on := 9, ground := Go.Ground.phase }, { on := 10, ground := Go.Ground.phase }, { on := 11, ground := Go.Ground.phase }, { on := 12, ground := Go.Ground.phase }, { on := 13, ground := Go.Ground.phase }, { on := 14, ground := Go.Ground.phase }, { on := 15, ground := Go.Ground.phase }, { on := 16, ground := Go.Ground.phase }, { on := 17, ground := Go.Ground.phase }, { on := 18, ground := Go.Ground.phase }, { on := 19, ground := Go.Ground.phase }, { on := 20, ground := Go.Ground.phase }, { on := 21, ground := Go.Ground.phase }, { on := 22, ground := Go.Ground.phase }, { on := 23, ground := Go.Ground.phase }, { on := 24, ground := Go.Ground.phase }, { on := 25, ground := Go.Ground.phase }, { on := 26, ground := Go.Ground.phase }, { on := 27, ground := Go.Ground.phase }, { on := 28, ground := Go.Ground.phase }, { on := 29, ground := Go.Ground.phase }, { on := 30, ground := Go.Ground.phase }], guard := none }) rfl (fun K hK => ?_) AllReadyH.nil
        go_simp
        refine hK.out _ _ (Key.out _ (filln_stp (g := u21.heap.size) (mkN h N M) (S32.out) ((S21.out).size))) (fun hHeld2 => ?_)
        clear hK K hHeld
        have hHeld := hHeld2
        clear hHeld2
        try simp only [Act.put, List.setIfInBounds_toArray, List.set_cons_zero, List.set_cons_succ]
        clear z0 z1 z2 z3 z4 z5 z6 z7 y0 y1 y2 y3 y4 y5 y6 y7
        refine wpAnyH_done (by kernel_rfl) ?_ _
        change Exit.then _ _ Exit.normal _ (fillN u32 u21.heap.size (mkN h N M))
        have hB := filln_blk (mkN h N M) (Z32.out)
        have hW := filln_stp (g := u21.heap.size) (mkN h N M) (S32.out) ((S21.out).size)
        generalize fillN u32 u21.heap.size (mkN h N M) = W7 at hB hW ⊢
        go_wp2_with fail
        go_meet
        exact ⟨_, rfl, Lib.hid hB, Lib.hid hW, HF1, HF2⟩
    case waya20b =>
      go_simp
      have S34 := Lib.hid (show Stp w1 (w1.alloc (.cells (ncells zeroN) 44)).drew from stp_dr (Stp.alloc (Stp.refl w1) _))
      have Z34 := Lib.hid (show Blk (w1.alloc (.cells (ncells zeroN) 44)).drew w1.heap.size 44 (ncells zeroN) from Blk.new w1 44 _)
      refine hK.out _ _ (Key.out _ (S34.out)) (fun hHeld2 => ?_)
      clear hK K hHeld
      have hHeld := hHeld2
      clear hHeld2
      try simp only [Act.put, List.setIfInBounds_toArray, List.set_cons_zero, List.set_cons_succ]
      refine wpAnyH_ready (rs := [9]) (by kernel_rfl) (by simp) ?_
      refine AllReadyH.cons (o := { dst := some 27, op := Go.Op.call { callee := Go.Callee.value (Go.Operand.func 182), args := #[Go.Operand.tmp 24, Go.Operand.tmp 26], argTypes := #[9, 9] }, type := 9, pos := "parse.go:197", after := #[{ on := 6, ground := Go.Ground.data }, { on := 8, ground := Go.Ground.data }], guard := none }) rfl (fun K hK => ?_) AllReadyH.nil
      go_simp
      refine (Path.join_s h.pre h.name _ HJl.out).mono ?_
      rintro e u35 ⟨rfl, hs⟩
      rw [HJ.out]
      have S35 := Lib.hid (Stp.trans (S34.out) hs)
      have Z35 := Lib.hid (Blk.keep (Z34.out) hs (Blk.lt (Z34.out)))
      clear hs
      go_wp2_with fail
      refine hK.out _ _ (Key.out _ (S35.out)) (fun hHeld2 => ?_)
      clear hK K hHeld
      have hHeld := hHeld2
      clear hHeld2
      try simp only [Act.put, List.setIfInBounds_toArray, List.set_cons_zero, List.set_cons_succ]
      refine wpAnyH_ready (rs := [10]) (by kernel_rfl) (by simp) ?_
      refine AllReadyH.cons (o := { dst := some 28, op := Go.Op.call { callee := Go.Callee.value (Go.Operand.func 181), args := #[Go.Operand.tmp 22, Go.Operand.tmp 27], argTypes := #[9, 9] }, type := 9, pos := "parse.go:197", after := #[{ on := 4, ground := Go.Ground.data }, { on := 9, ground := Go.Ground.data }, { on := 9, ground := Go.Ground.chain }], guard := none }) rfl (fun K hK => ?_) AllReadyH.nil
      go_simp
      refine (whole_p s.name J N HN.out Hn1.out _).mono ?_
      rintro e u36 ⟨⟨hf, rfl⟩ | ⟨hf, rfl⟩, hs⟩
      rotate_left
      · exact ⟨rfl, nodeP_no (HE1.out hf) (Stp.trans H0.out (Stp.trans (S35.out) hs))⟩
      have HF1 := Lib.hid hf
      clear hf
      have S36 := Lib.hid (Stp.trans (S35.out) hs)
      have Z36 := Lib.hid (Blk.keep (Z35.out) hs (Blk.lt (Z35.out)))
      clear hs
      go_wp2_with fail
      refine hK.out _ _ (Key.out _ (S36.out)) (fun hHeld2 => ?_)
      clear hK K hHeld
      have hHeld := hHeld2
      clear hHeld2
      try simp only [Act.put, List.setIfInBounds_toArray, List.set_cons_zero, List.set_cons_succ]
      refine wpAnyH_ready (rs := [18]) (by kernel_rfl) (by simp) ?_
      refine AllReadyH.cons (o := { dst := some 36, op := Go.Op.call { callee := Go.Callee.value (Go.Operand.func 181), args := #[Go.Operand.tmp 33, Go.Operand.tmp 35], argTypes := #[9, 9] }, type := 9, pos := "parse.go:198", after := #[{ on := 15, ground := Go.Ground.data }, { on := 17, ground := Go.Ground.data }, { on := 10, ground := Go.Ground.chain }], guard := none }) rfl (fun K hK => ?_) AllReadyH.nil
      go_simp
      refine (whole_p s.link h.link M HM.out Hn2.out _).mono ?_
      rintro e u37 ⟨⟨hf, rfl⟩ | ⟨hf, rfl⟩, hs⟩
      rotate_left
      · exact ⟨rfl, nodeP_no (HE2.out hf) (Stp.trans H0.out (Stp.trans (S36.out) hs))⟩
      have HF2 := Lib.hid hf
      clear hf
      have S37 := Lib.hid (Stp.trans (S36.out) hs)
      have Z37 := Lib.hid (Blk.keep (Z36.out) hs (Blk.lt (Z36.out)))
      clear hs
      go_wp2_with fail
      refine hK.out _ _ (Key.out _ (S37.out)) (fun hHeld2 => ?_)
      clear hK K hHeld
      have hHeld := hHeld2
      clear hHeld2
      try simp only [Act.put, List.setIfInBounds_toArray, List.set_cons_zero, List.set_cons_succ]
      refine wpAnyH_take (i := 29) (oi := { dst := some 47, op := Go.Op.build 44 #[(0, Go.Operand.tmp 28), (1, Go.Operand.tmp 36), (2, Go.Operand.tmp 38), (3, Go.Operand.tmp 40), (4, Go.Operand.tmp 42), (5, Go.Operand.tmp 44), (6, Go.Operand.tmp 46)], type := 44, pos := "parse.go:196", after := #[{ on := 10, ground := Go.Ground.data }, { on := 18, ground := Go.Ground.data }, { on := 20, ground := Go.Ground.data }, { on := 22, ground := Go.Ground.data }, { on := 24, ground := Go.Ground.data }, { on := 26, ground := Go.Ground.data }, { on := 28, ground := Go.Ground.data }], guard := none }) (v := ?v29b38) rfl (by kernel_rfl) (by kernel_rfl) (by kernel_rfl) (fun _ _ _ h => h) (Or.inl ⟨by rfl, ?hy29b38⟩) (by assumption) ?rest29b38
      case hy29b38 => (intro w hSw; (try dsimp only at hSw); go_simp; try with_reducible rfl)
      try simp only [Act.put, List.setIfInBounds_toArray, List.set_cons_zero, List.set_cons_succ]
      obtain ⟨⟨z0, z1, z2, z3, z4, z5, z6, z7⟩, y0, y1, y2, y3, y4, y5, y6, y7⟩ := nzy (Z37.out)
      refine wpAnyH_ready (rs := [31]) (by kernel_rfl) (by simp) ?_
      refine AllReadyH.cons (o := { dst := none, op := Go.Op.store 44 (Go.Operand.tmp 5) (Go.Operand.tmp 47), type := 0, pos := "parse.go:196", after := #[{ on := 30, ground := Go.Ground.data }, { on := 29, ground := Go.Ground.data }, { on := 18, ground := Go.Ground.chain }, { on := 0, ground := Go.Ground.phase }, { on := 1, ground := Go.Ground.phase }, { on := 2, ground := Go.Ground.phase }, { on := 3, ground := Go.Ground.phase }, { on := 4, ground := Go.Ground.phase }, { on := 5, ground := Go.Ground.phase }, { on := 6, ground := Go.Ground.phase }, { on := 7, ground := Go.Ground.phase }, { on := 8, ground := Go.Ground.phase }, { on := 9, ground := Go.Ground.phase }, { on := 10, ground := Go.Ground.phase }, { on := 11, ground := Go.Ground.phase }, { on := 12, ground := Go.Ground.phase }, { on := 13, ground := Go.Ground.phase }, { on := 14, ground := Go.Ground.phase }, { on := 15, ground := Go.Ground.phase }, { on := 16, ground := Go.Ground.phase }, { on := 17, ground := Go.Ground.phase }, { on := 18, ground := Go.Ground.phase }, { on := 19, ground := Go.Ground.phase }, { on := 20, ground := Go.Ground.phase }, { on := 21, ground := Go.Ground.phase }, { on := 22, ground := Go.Ground.phase }, { on := 23, ground := Go.Ground.phase }, { on := 24, ground := Go.Ground.phase }, { on := 25, ground := Go.Ground.phase }, { on := 26, ground := Go.Ground.phase }, { on := 27, ground := Go.Ground.phase }, { on := 28, ground := Go.Ground.phase }, { on := 29, ground := Go.Ground.phase }, { on := 30, ground := Go.Ground.phase }], guard := none }) rfl (fun K hK => ?_) AllReadyH.nil
      go_simp
      refine hK.out _ _ (Key.out _ (filln_stp (g := w1.heap.size) (mkN h N M) (S37.out) (Nat.le_refl _))) (fun hHeld2 => ?_)
      clear hK K hHeld
      have hHeld := hHeld2
      clear hHeld2
      try simp only [Act.put, List.setIfInBounds_toArray, List.set_cons_zero, List.set_cons_succ]
      clear z0 z1 z2 z3 z4 z5 z6 z7 y0 y1 y2 y3 y4 y5 y6 y7
      refine wpAnyH_done (by kernel_rfl) ?_ _
      change Exit.then _ _ Exit.normal _ (fillN u37 w1.heap.size (mkN h N M))
      have hB := filln_blk (mkN h N M) (Z37.out)
      have hW := filln_stp (g := w1.heap.size) (mkN h N M) (S37.out) (Nat.le_refl _)
      generalize fillN u37 w1.heap.size (mkN h N M) = W7 at hB hW ⊢
      go_wp2_with fail
      go_meet
      exact ⟨_, rfl, Lib.hid hB, Lib.hid hW, HF1, HF2⟩

  case rest =>
    obtain ⟨b3, rfl, HB, HW, HF1, HF2⟩ := hcut
    have hs := HW.out
    obtain ⟨w2, hw2⟩ : ∃ z, wc = z := ⟨_, rfl⟩
    subst hw2
    replace H0 := Lib.hid (Stp.trans H0.out hs)
    replace Hb := Lib.hid (Hb.out.keep hs Hb.out.lt)
    replace Hr := Lib.hid (Hr.out.keep hs Hr.out.lt)

    have hp := HP.out HF1.out HF2.out
    have HK6 := Lib.hid (show mp = false → nodeE s h = 6 from fun e => nodeE_6 hp (by rw [Hmk.out]; exact Hmp.out.trans e))
    have HK2 := Lib.hid (show mp = true → (O = false ∨ 4000 < h.size ∨ (0 < h.size ∧ h.ty ≠ 48)) → nodeE s h = 2 from fun e ho => nodeE_2' hp (by rw [Hmk.out]; exact Hmp.out.trans e) (by rw [Hmk.out, HO.out]; exact ho))
    have HK0 := Lib.hid (show mp = true → ¬ (O = false ∨ 4000 < h.size ∨ (0 < h.size ∧ h.ty ≠ 48)) → nodeE s h = 0 from fun e ho => nodeE_0 hp (by rw [Hmk.out]; exact Hmp.out.trans e) (by rw [Hmk.out, HO.out]; exact ho))
    have hty := ty_48 h.ty
    have Hty := Lib.hid hty
    clear hs hp hty HP HE1 HE2 Key
    obtain ⟨n0, n1, n2, n3, n4, n5, n6, n7⟩ := mk_cells HB.out
    obtain ⟨c0, c1, c2, c3, c4, c5, c6, c7, c8, c9, c10⟩ := hd_cells Hb.out
    clear c0 c1 c2 c3 c4 c5 c7 c8 c9 c10
    by_cases g1 : h.size ≤ 4000
    · have k1 : decide (h.size ≤ 4000) = true := decide_eq_true g1
      by_cases g2 : h.size = 0
      · have k2 : (h.size == 0) = true := by rw [g2]; rfl
        have G := Lib.hid (show O = true → ¬ (O = false ∨ 4000 < h.size ∨ (0 < h.size ∧ h.ty ≠ 48)) from fun e hn => by rcases hn with hn | hn | hn; · rw [e] at hn; cases hn
                                                                                                                        · omega
                                                                                                                        · omega)
        clear g1 g2
        go_wp2_with (first
          | (go_at_call 78; (with_reducible refine (Path.may_s N _ Hn.out.path).mono ?_); rintro e w4 ⟨rfl, hs⟩; rw [Hmp.out]; replace H0 := Lib.hid (Stp.trans H0.out hs); replace Hb := Lib.hid (Hb.out.keep hs Hb.out.lt); replace Hr := Lib.hid (Hr.out.keep hs Hr.out.lt); replace HB := Lib.hid (HB.out.keep hs HB.out.lt); clear hs n0 n1 n2 n3 n4 n5 n6 n7 c6; obtain ⟨n0, n1, n2, n3, n4, n5, n6, n7⟩ := mk_cells HB.out; obtain ⟨c0, c1, c2, c3, c4, c5, c6, c7, c8, c9, c10⟩ := hd_cells Hb.out; clear c0 c1 c2 c3 c4 c5 c7 c8 c9 c10; rcases mp)
          | (go_at_call 54; (refine (tone_v (mkN h N M) _ (by rfl) Hn.out _).mono ?_); rintro e w5 ⟨rfl, hs⟩; rw [HO.out]; replace H0 := Lib.hid (Stp.trans H0.out hs); replace Hb := Lib.hid (Hb.out.keep hs Hb.out.lt); replace Hr := Lib.hid (Hr.out.keep hs Hr.out.lt); replace HB := Lib.hid (HB.out.keep hs HB.out.lt); clear hs n0 n1 n2 n3 n4 n5 n6 n7 c6; obtain ⟨n0, n1, n2, n3, n4, n5, n6, n7⟩ := mk_cells HB.out; obtain ⟨c0, c1, c2, c3, c4, c5, c6, c7, c8, c9, c10⟩ := hd_cells Hb.out; clear c0 c1 c2 c3 c4 c5 c7 c8 c9 c10; obtain ⟨⟨r0, r1, r2, r3, r4, r5, r6, r7⟩, f0, f1, f2, f3, f4, f5, f6, f7⟩ := nzy Hr.out; rcases O)
          | (go_at_call 102; (with_reducible refine (must_yes _ _).mono ?_); rintro e w6 ⟨rfl, rfl⟩)
          | (go_at_call 102; (with_reducible refine (must_no _ _).mono ?_); rintro e w6 ⟨rfl, rfl⟩))
        · exact ⟨rfl, nodeP_no (HK6.out (by simp)) H0.out⟩
        · exact ⟨rfl, nodeP_no (HK2.out (by simp) (by simp)) H0.out⟩
        · change bodyPost _ _ _ _ _ (fillN w6 (b1 + 1) (mkN h N M))
          have hB := filln_blk (mkN h N M) Hr.out
          have hW := filln_stp (mkN h N M) H0.out HB3.out
          generalize fillN w6 (b1 + 1) (mkN h N M) = W7 at hB hW ⊢
          clear r0 r1 r2 r3 r4 r5 r6 r7 f0 f1 f2 f3 f4 f5 f6 f7 n0 n1 n2 n3 n4 n5 n6 n7 c6
          obtain ⟨r0, r1, r2, r3, r4, r5, r6, r7⟩ := mk_cells hB
          have hP : NodeP s h w (.returned (nv (mkN h N M))) W7 := nodeP_go (HK0.out (by simp) (G.out (by simp))) Hmk.out hW
          clear hB hW
          refine bodyPost_ret (v := nv (mkN h N M)) ?_ rfl hP
          simp [results, Tryz.results164, go_sem, r0, r1, r2, r3, r4, r5, r6, r7]
      · have k2 : (h.size == 0) = false := beq_eq_false_iff_ne.2 g2
        by_cases g3 : h.ty = 48
        · have k3 : ((h.ty.toNat : Int) == 48) = true := by rw [Hty.out, decide_eq_true g3]
          have G := Lib.hid (show O = true → ¬ (O = false ∨ 4000 < h.size ∨ (0 < h.size ∧ h.ty ≠ 48)) from fun e hn => by rcases hn with hn | hn | hn; · rw [e] at hn; cases hn
                                                                                                                          · omega
                                                                                                                          · exact hn.2 g3)
          clear g1 g2 g3
          go_wp2_with (first
            | (go_at_call 78; (with_reducible refine (Path.may_s N _ Hn.out.path).mono ?_); rintro e w4 ⟨rfl, hs⟩; rw [Hmp.out]; replace H0 := Lib.hid (Stp.trans H0.out hs); replace Hb := Lib.hid (Hb.out.keep hs Hb.out.lt); replace Hr := Lib.hid (Hr.out.keep hs Hr.out.lt); replace HB := Lib.hid (HB.out.keep hs HB.out.lt); clear hs n0 n1 n2 n3 n4 n5 n6 n7 c6; obtain ⟨n0, n1, n2, n3, n4, n5, n6, n7⟩ := mk_cells HB.out; obtain ⟨c0, c1, c2, c3, c4, c5, c6, c7, c8, c9, c10⟩ := hd_cells Hb.out; clear c0 c1 c2 c3 c4 c5 c7 c8 c9 c10; rcases mp)
            | (go_at_call 54; (refine (tone_v (mkN h N M) _ (by rfl) Hn.out _).mono ?_); rintro e w5 ⟨rfl, hs⟩; rw [HO.out]; replace H0 := Lib.hid (Stp.trans H0.out hs); replace Hb := Lib.hid (Hb.out.keep hs Hb.out.lt); replace Hr := Lib.hid (Hr.out.keep hs Hr.out.lt); replace HB := Lib.hid (HB.out.keep hs HB.out.lt); clear hs n0 n1 n2 n3 n4 n5 n6 n7 c6; obtain ⟨n0, n1, n2, n3, n4, n5, n6, n7⟩ := mk_cells HB.out; obtain ⟨c0, c1, c2, c3, c4, c5, c6, c7, c8, c9, c10⟩ := hd_cells Hb.out; clear c0 c1 c2 c3 c4 c5 c7 c8 c9 c10; obtain ⟨⟨r0, r1, r2, r3, r4, r5, r6, r7⟩, f0, f1, f2, f3, f4, f5, f6, f7⟩ := nzy Hr.out; rcases O)
            | (go_at_call 102; (with_reducible refine (must_yes _ _).mono ?_); rintro e w6 ⟨rfl, rfl⟩)
            | (go_at_call 102; (with_reducible refine (must_no _ _).mono ?_); rintro e w6 ⟨rfl, rfl⟩))
          · exact ⟨rfl, nodeP_no (HK6.out (by simp)) H0.out⟩
          · exact ⟨rfl, nodeP_no (HK2.out (by simp) (by simp)) H0.out⟩
          · change bodyPost _ _ _ _ _ (fillN w6 (b1 + 1) (mkN h N M))
            have hB := filln_blk (mkN h N M) Hr.out
            have hW := filln_stp (mkN h N M) H0.out HB3.out
            generalize fillN w6 (b1 + 1) (mkN h N M) = W7 at hB hW ⊢
            clear r0 r1 r2 r3 r4 r5 r6 r7 f0 f1 f2 f3 f4 f5 f6 f7 n0 n1 n2 n3 n4 n5 n6 n7 c6
            obtain ⟨r0, r1, r2, r3, r4, r5, r6, r7⟩ := mk_cells hB
            have hP : NodeP s h w (.returned (nv (mkN h N M))) W7 := nodeP_go (HK0.out (by simp) (G.out (by simp))) Hmk.out hW
            clear hB hW
            refine bodyPost_ret (v := nv (mkN h N M)) ?_ rfl hP
            simp [results, Tryz.results164, go_sem, r0, r1, r2, r3, r4, r5, r6, r7]
        · have k3 : ((h.ty.toNat : Int) == 48) = false := by rw [Hty.out, decide_eq_false g3]
          have N2 := Lib.hid (show O = false ∨ 4000 < h.size ∨ (0 < h.size ∧ h.ty ≠ 48) from .inr (.inr ⟨by have := H0z.out; omega, g3⟩))
          clear g1 g2 g3
          go_wp2_with (first
            | (go_at_call 78; (with_reducible refine (Path.may_s N _ Hn.out.path).mono ?_); rintro e w4 ⟨rfl, hs⟩; rw [Hmp.out]; replace H0 := Lib.hid (Stp.trans H0.out hs); replace Hb := Lib.hid (Hb.out.keep hs Hb.out.lt); replace Hr := Lib.hid (Hr.out.keep hs Hr.out.lt); replace HB := Lib.hid (HB.out.keep hs HB.out.lt); clear hs n0 n1 n2 n3 n4 n5 n6 n7 c6; obtain ⟨n0, n1, n2, n3, n4, n5, n6, n7⟩ := mk_cells HB.out; obtain ⟨c0, c1, c2, c3, c4, c5, c6, c7, c8, c9, c10⟩ := hd_cells Hb.out; clear c0 c1 c2 c3 c4 c5 c7 c8 c9 c10; rcases mp)
            | (go_at_call 54; (refine (tone_v (mkN h N M) _ (by rfl) Hn.out _).mono ?_); rintro e w5 ⟨rfl, hs⟩; rw [HO.out]; replace H0 := Lib.hid (Stp.trans H0.out hs); replace Hb := Lib.hid (Hb.out.keep hs Hb.out.lt); replace Hr := Lib.hid (Hr.out.keep hs Hr.out.lt); replace HB := Lib.hid (HB.out.keep hs HB.out.lt); clear hs n0 n1 n2 n3 n4 n5 n6 n7 c6; obtain ⟨n0, n1, n2, n3, n4, n5, n6, n7⟩ := mk_cells HB.out; obtain ⟨c0, c1, c2, c3, c4, c5, c6, c7, c8, c9, c10⟩ := hd_cells Hb.out; clear c0 c1 c2 c3 c4 c5 c7 c8 c9 c10; obtain ⟨⟨r0, r1, r2, r3, r4, r5, r6, r7⟩, f0, f1, f2, f3, f4, f5, f6, f7⟩ := nzy Hr.out; rcases O)
            | (go_at_call 102; (with_reducible refine (must_yes _ _).mono ?_); rintro e w6 ⟨rfl, rfl⟩)
            | (go_at_call 102; (with_reducible refine (must_no _ _).mono ?_); rintro e w6 ⟨rfl, rfl⟩))
          · exact ⟨rfl, nodeP_no (HK6.out (by simp)) H0.out⟩
          · exact ⟨rfl, nodeP_no (HK2.out (by simp) (by simp)) H0.out⟩
          · exact ⟨rfl, nodeP_no (HK2.out (by simp) (by first | exact N2.out | simpa using N2.out)) H0.out⟩
    · have k1 : decide (h.size ≤ 4000) = false := decide_eq_false g1
      have N2 := Lib.hid (show O = false ∨ 4000 < h.size ∨ (0 < h.size ∧ h.ty ≠ 48) from .inr (.inl (by omega)))
      clear g1
      go_wp2_with (first
        | (go_at_call 78; (with_reducible refine (Path.may_s N _ Hn.out.path).mono ?_); rintro e w4 ⟨rfl, hs⟩; rw [Hmp.out]; replace H0 := Lib.hid (Stp.trans H0.out hs); replace Hb := Lib.hid (Hb.out.keep hs Hb.out.lt); replace Hr := Lib.hid (Hr.out.keep hs Hr.out.lt); replace HB := Lib.hid (HB.out.keep hs HB.out.lt); clear hs n0 n1 n2 n3 n4 n5 n6 n7 c6; obtain ⟨n0, n1, n2, n3, n4, n5, n6, n7⟩ := mk_cells HB.out; obtain ⟨c0, c1, c2, c3, c4, c5, c6, c7, c8, c9, c10⟩ := hd_cells Hb.out; clear c0 c1 c2 c3 c4 c5 c7 c8 c9 c10; rcases mp)
        | (go_at_call 54; (refine (tone_v (mkN h N M) _ (by rfl) Hn.out _).mono ?_); rintro e w5 ⟨rfl, hs⟩; rw [HO.out]; replace H0 := Lib.hid (Stp.trans H0.out hs); replace Hb := Lib.hid (Hb.out.keep hs Hb.out.lt); replace Hr := Lib.hid (Hr.out.keep hs Hr.out.lt); replace HB := Lib.hid (HB.out.keep hs HB.out.lt); clear hs n0 n1 n2 n3 n4 n5 n6 n7 c6; obtain ⟨n0, n1, n2, n3, n4, n5, n6, n7⟩ := mk_cells HB.out; obtain ⟨c0, c1, c2, c3, c4, c5, c6, c7, c8, c9, c10⟩ := hd_cells Hb.out; clear c0 c1 c2 c3 c4 c5 c7 c8 c9 c10; obtain ⟨⟨r0, r1, r2, r3, r4, r5, r6, r7⟩, f0, f1, f2, f3, f4, f5, f6, f7⟩ := nzy Hr.out; rcases O)
        | (go_at_call 102; (with_reducible refine (must_yes _ _).mono ?_); rintro e w6 ⟨rfl, rfl⟩)
        | (go_at_call 102; (with_reducible refine (must_no _ _).mono ?_); rintro e w6 ⟨rfl, rfl⟩))
      · exact ⟨rfl, nodeP_no (HK6.out (by simp)) H0.out⟩
      · exact ⟨rfl, nodeP_no (HK2.out (by simp) (by simp)) H0.out⟩
      · exact ⟨rfl, nodeP_no (HK2.out (by simp) (by first | exact N2.out | simpa using N2.out)) H0.out⟩
set_option maxRecDepth 100000 in
set_option maxHeartbeats 1000000 in
theorem node_c (g lo : Nat) (s : St) (v : Value) (h : Hd) (w : World) (hl : Lies w g lo s v []) (hx : s.name ≠ []) (hy : h.pre ≠ []) :
    Calls Tryz.prog 164 #[.pointer (some ⟨g, 0, none⟩), hv h] w fun e w' => NodeP s h w e w' := by
  have HE := Lib.hid (show nodeE s h = 2 from nodeE_2 (by unfold partsB; simp [hx, hy]))
  have H0 := Lib.hid (Stp.alloc (Stp.alloc (Stp.refl w) (.cells (hcells h) 113)) (.cells (ncells zeroN) 44))
  obtain ⟨b1, hb1⟩ : ∃ x, w.heap.size = x := ⟨_, rfl⟩
  have q12 : ∀ o1 o2 : Obj, ((w.alloc o1).alloc o2).cell? ⟨g, 12, none⟩ = some (.string ⟨s.name.toArray⟩) := fun o1 o2 => by rw [((hl.blk.alloc o1).alloc o2).cell]; rfl
  have c1 : ∀ o2 : Obj, ((w.alloc (.cells (hcells h) 113)).alloc o2).cell? ⟨b1, 1, none⟩ = some (.string ⟨h.pre.toArray⟩) := fun o2 => by rw [← hb1, ((Blk.new w 113 (hcells h)).alloc o2).cell]; rfl
  have hx1 : (s.name == []) = false := beq_eq_false_iff_ne.2 hx
  have hx2 : (h.pre == []) = false := beq_eq_false_iff_ne.2 hy
  clear hx hy hl
  go_enter Tryz.func164, Tryz.ntmps164
  go_wp2_with (go_at_call 102; (with_reducible refine (must_no _ _).mono ?_); rintro e w2 ⟨rfl, rfl⟩)
  exact ⟨rfl, nodeP_no HE.out H0.out⟩
theorem node_p (g lo : Nat) (s : St) (v : Value) (h : Hd) (w : World) (hl : Lies w g lo s v []) (l1 : s.name.length ≤ 400) (l2 : s.link.length ≤ 400) (l3 : h.pre.length ≤ 400) (l4 : h.name.length ≤ 400) (h0 : 0 ≤ h.size) (hn : SmallN (nodeH s h)) :
    Calls Tryz.prog 164 #[.pointer (some ⟨g, 0, none⟩), hv h] w fun e w' => NodeP s h w e w' := by
  by_cases hx : s.name = []
  · exact node_a g lo s v h w hl l1 l2 l3 l4 h0 hn hx
  · by_cases hy : h.pre = []
    · exact node_b g lo s v h w hl l1 l2 l3 l4 h0 hn hx hy
    · exact node_c g lo s v h w hl hx hy
end Go.Proofs.YthjdejjejlhioaaGreatDoor.Parse
