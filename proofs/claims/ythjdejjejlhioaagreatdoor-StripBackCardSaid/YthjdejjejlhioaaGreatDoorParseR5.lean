/-
  The method node of package parse's parser, without a long name. No statement is proved here.
-/
import Derived.Test.YthjdejjejlhioaaGreatDoorParseR4
namespace Go.Proofs.YthjdejjejlhioaaGreatDoor.Parse
open Go.RowKit Go.Proofs.YthjdejjejlhioaaGreatDoor.Str Go.Proofs.YthjdejjejlhioaaGreatDoor.Base Go.Proofs.YthjdejjejlhioaaGreatDoor.Node Go.Proofs.YthjdejjejlhioaaGreatDoor.Long Go.Proofs.YthjdejjejlhioaaGreatDoor.Head
open Go.Proofs.YthjdejjejlhioaaGreatDoor.Tree (oneB)

/-- What goes wrong with a node's header; 0: nothing. -/
def nodeE (s : St) (h : Hd) : Int :=
  if partsB s h = false then 2 else if PathM.mayB (nodeH s h).path = false then 6 else if oneB (nodeH s h) = false ∨ 4000 < h.size ∨ (0 < h.size ∧ h.ty ≠ 48) then 2 else 0
theorem nodeS_is (s : St) (h : Hd) : nodeS s h = if nodeE s h = 0 then (begT (nodeH s h) h.size, begE (nodeH s h) h.size, 0) else (s, [], nodeE s h) := by
  unfold nodeS nodeE begT begE
  split
  · rw [if_neg (by decide)]
  split
  · rw [if_neg (by decide)]
  split
  · rw [if_neg (by decide)]
  · rw [if_pos rfl]
    split <;> rfl
def NodeP (s : St) (h : Hd) (w : World) (e : Ending) (w' : World) : Prop :=
  ((nodeE s h = 0 ∧ e = .returned (nv (nodeH s h))) ∨ (nodeE s h ≠ 0 ∧ e = .panicked [pe (nodeE s h)])) ∧ Stp w w'
theorem nodeP_no {s : St} {h : Hd} {w w' : World} {k : Int} (hk : nodeE s h = k) (hs : Stp w w') (h0 : k ≠ 0 := by decide) : NodeP s h w (.panicked [pe k]) w' := ⟨.inr ⟨by rw [hk]; exact h0, by rw [hk]⟩, hs⟩
theorem nodeP_go {s : St} {h : Hd} {w w' : World} {n : Nd} (hk : nodeE s h = 0) (hn : nodeH s h = n) (hs : Stp w w') : NodeP s h w (.returned (nv n)) w' := ⟨.inl ⟨hk, by rw [hn]⟩, hs⟩
theorem nodeE_2 {s : St} {h : Hd} (hp : partsB s h = false) : nodeE s h = 2 := by unfold nodeE; rw [if_pos hp]
theorem nodeE_6 {s : St} {h : Hd} (hp : partsB s h = true) (hm : PathM.mayB (nodeH s h).path = false) : nodeE s h = 6 := by unfold nodeE; rw [if_neg (by simp [hp]), if_pos hm]
theorem nodeE_2' {s : St} {h : Hd} (hp : partsB s h = true) (hm : PathM.mayB (nodeH s h).path = true) (ho : oneB (nodeH s h) = false ∨ 4000 < h.size ∨ (0 < h.size ∧ h.ty ≠ 48)) : nodeE s h = 2 := by unfold nodeE; rw [if_neg (by simp [hp]), if_neg (by simp [hm]), if_pos ho]
theorem nodeE_0 {s : St} {h : Hd} (hp : partsB s h = true) (hm : PathM.mayB (nodeH s h).path = true) (ho : ¬ (oneB (nodeH s h) = false ∨ 4000 < h.size ∨ (0 < h.size ∧ h.ty ≠ 48))) : nodeE s h = 0 := by unfold nodeE; rw [if_neg (by simp [hp]), if_neg (by simp [hm]), if_neg ho]
theorem ty_48 (x : UInt8) : ((x.toNat : Int) == 48) = decide (x = 48) := by
  rw [Bool.eq_iff_iff, beq_iff_eq, decide_eq_true_eq]
  exact ⟨fun e => UInt8.toNat_inj.1 (by show x.toNat = 48; omega), fun e => by rw [e]; rfl⟩
theorem tone_v (n : Nd) (v : Value) (hv : v = nv n) (hn : SmallN n) (w : World) :
    Calls Tryz.prog 54 #[v] w fun e w' => e = .returned (.bool (oneB n)) ∧ Stp w w' := by
  subst hv
  exact Tree.tone_s n hn w
@[reducible] def mkN (h : Hd) (N M : L) : Nd := ⟨N, M, h.ty, h.mode, h.uid, h.gid, h.time, []⟩
theorem mk_cells {w : World} {b : Nat} {t : TypeId} {h : Hd} {N M : L} (hb : Blk w b t (ncells (mkN h N M))) : w.cell? ⟨b, 0, none⟩ = some (.string ⟨N.toArray⟩) ∧ w.cell? ⟨b, 1, none⟩ = some (.string ⟨M.toArray⟩) ∧ w.cell? ⟨b, 2, none⟩ = some (.int .u8 (h.ty.toNat : Int)) ∧ w.cell? ⟨b, 3, none⟩ = some (.int .i64 h.mode) ∧
    w.cell? ⟨b, 4, none⟩ = some (.int .i64 h.uid) ∧ w.cell? ⟨b, 5, none⟩ = some (.int .i64 h.gid) ∧ w.cell? ⟨b, 6, none⟩ = some (.int .i64 h.time) ∧ w.cell? ⟨b, 7, none⟩ = some (.string ⟨([] : L).toArray⟩) := nd_cells' hb
theorem parts_is {s : St} {h : Hd} (hc : s.name = [] ∨ h.pre = []) : partsB s h = true ↔ (s.name = [] ∨ PathM.joinV h.pre h.name = s.name.take 100) ∧ (s.link = [] ∨ h.link = s.link.take 100) := by
  unfold partsB
  simp only [Bool.and_eq_true, Bool.or_eq_true, decide_eq_true_eq]
  by_cases h1 : s.name = []
  · simp [h1]
  · have h2 : h.pre = [] := hc.resolve_left h1
    simp [h1, h2, PathM.joinV]
theorem parts_no1 {s : St} {h : Hd} (hc : s.name = [] ∨ h.pre = []) (hf : ¬ (s.name = [] ∨ PathM.joinV h.pre h.name = s.name.take 100)) : nodeE s h = 2 := nodeE_2 (by rw [Bool.eq_false_iff]; intro hp; exact hf ((parts_is hc).1 hp).1)
theorem parts_no2 {s : St} {h : Hd} (hc : s.name = [] ∨ h.pre = []) (hf : ¬ (s.link = [] ∨ h.link = s.link.take 100)) : nodeE s h = 2 := nodeE_2 (by rw [Bool.eq_false_iff]; intro hp; exact hf ((parts_is hc).1 hp).2)

set_option maxRecDepth 100000 in
set_option maxHeartbeats 8000000 in
theorem node_a (g lo : Nat) (s : St) (v : Value) (h : Hd) (w : World) (hl : Lies w g lo s v []) (l1 : s.name.length ≤ 400) (l2 : s.link.length ≤ 400) (l3 : h.pre.length ≤ 400) (l4 : h.name.length ≤ 400) (h0 : 0 ≤ h.size) (hn : SmallN (nodeH s h)) (hx : s.name = []) :
    Calls Tryz.prog 164 #[.pointer (some ⟨g, 0, none⟩), hv h] w fun e w' => NodeP s h w e w' := by
  obtain ⟨J, hJ⟩ : ∃ x, PathM.joinV h.pre h.name = x := ⟨_, rfl⟩
  obtain ⟨N, hN⟩ : ∃ x, (if s.name = [] then J else s.name) = x := ⟨_, rfl⟩
  obtain ⟨M, hM⟩ : ∃ x, (if s.link = [] then h.link else s.link) = x := ⟨_, rfl⟩
  have hmk : nodeH s h = mkN h N M := by unfold nodeH; rw [hJ, hN, hM]
  have hc : s.name = [] ∨ h.pre = [] := .inl hx
  have HE1 := Lib.hid (show ¬ (s.name = [] ∨ J = s.name.take 100) → nodeE s h = 2 from fun hf => parts_no1 hc (by rw [hJ]; exact hf))
  have HE2 := Lib.hid (show ¬ (s.link = [] ∨ h.link = s.link.take 100) → nodeE s h = 2 from fun hf => parts_no2 hc hf)
  have HP := Lib.hid (show (s.name = [] ∨ J = s.name.take 100) → (s.link = [] ∨ h.link = s.link.take 100) → partsB s h = true from fun h1 h2 => (parts_is hc).2 ⟨by rw [hJ]; exact h1, h2⟩)
  have HJl := Lib.hid (show h.pre.length + h.name.length + 1 ≤ 9223372036854775807 by omega)
  have Hn1 := Lib.hid (show s.name.length ≤ 9223372036854775807 by omega)
  have Hn2 := Lib.hid (show s.link.length ≤ 9223372036854775807 by omega)
  have HJ := Lib.hid hJ
  have HN := Lib.hid hN
  have HM := Lib.hid hM
  have Hmk := Lib.hid hmk
  rw [hmk] at hn
  have Hn := Lib.hid hn
  have H0z := Lib.hid h0
  obtain ⟨mp, hmp⟩ : ∃ x, PathM.mayB N = x := ⟨_, rfl⟩
  obtain ⟨O, hO⟩ : ∃ x, oneB (mkN h N M) = x := ⟨_, rfl⟩
  have Hmp := Lib.hid hmp
  have HO := Lib.hid hO
  have hs1 := Stp.alloc (Stp.alloc (Stp.refl w) (.cells (hcells h) 113)) (.cells (ncells zeroN) 44)
  have H := Lib.hid (hl.keep hs1)
  have H0 := Lib.hid hs1
  have Hb := Lib.hid (Blk.alloc (Blk.new w 113 (hcells h)) (.cells (ncells zeroN) 44))
  have Hr := Lib.hid (Blk.new (w.alloc (.cells (hcells h) 113)) 44 (ncells zeroN))
  rw [World.size_alloc] at Hr
  obtain ⟨b1, hb1⟩ : ∃ x, w.heap.size = x := ⟨_, rfl⟩
  have hb2 : w.heap.size ≤ b1 := Nat.le_of_eq hb1
  have hb3 : w.heap.size ≤ b1 + 1 := by omega
  have HB3 := Lib.hid hb3
  rw [hb1] at Hb Hr
  have hx1 : (s.name == []) = true := by rw [hx]; rfl
  clear hx
  have q12 : ∀ o1 o2 : Obj, ((w.alloc o1).alloc o2).cell? ⟨g, 12, none⟩ = some (.string ⟨s.name.toArray⟩) := fun o1 o2 => by rw [((hl.blk.alloc o1).alloc o2).cell]; rfl
  have c1 : ∀ o2 : Obj, ((w.alloc (.cells (hcells h) 113)).alloc o2).cell? ⟨b1, 1, none⟩ = some (.string ⟨h.pre.toArray⟩) := fun o2 => by rw [← hb1, ((Blk.new w 113 (hcells h)).alloc o2).cell]; rfl
  clear hJ hN hM hmk hmp hO hs1 hl l1 l2 l3 l4 h0 hn hc hb2 hb3
  go_enter Tryz.func164, Tryz.ntmps164
  go_upto_region 2 with (go_at_call 102; (with_reducible refine (must_yes _ _).mono ?_); rintro e w2 ⟨rfl, rfl⟩)
  obtain ⟨w1, hw1⟩ : ∃ x, (w.alloc (.cells (hcells h) 113)).alloc (.cells (ncells zeroN) 44) = x := ⟨_, rfl⟩
  rw [hw1] at H H0 Hb Hr
  change Code.wp _ _ _ _ ((w.alloc (.cells (hcells h) 113)).alloc (.cells (ncells zeroN) 44))
  rw [hw1]
  clear hw1 hb1 q12 c1
  have Key := Lib.hid (show ∀ W, Stp w1 W → (W.cell? ⟨g, 12, none⟩ = some (.string ⟨s.name.toArray⟩) ∧ W.cell? ⟨g, 13, none⟩ = some (.string ⟨s.link.toArray⟩) ∧ W.cell? ⟨b1, 0, none⟩ = some (.string ⟨h.name.toArray⟩) ∧ W.cell? ⟨b1, 1, none⟩ = some (.string ⟨h.pre.toArray⟩) ∧ W.cell? ⟨b1, 2, none⟩ = some (.string ⟨h.link.toArray⟩) ∧ W.cell? ⟨b1, 3, none⟩ = some (.int .i64 h.mode) ∧ W.cell? ⟨b1, 4, none⟩ = some (.int .i64 h.uid) ∧ W.cell? ⟨b1, 5, none⟩ = some (.int .i64 h.gid) ∧ W.cell? ⟨b1, 7, none⟩ = some (.int .i64 h.time) ∧ W.cell? ⟨b1, 8, none⟩ = some (.int .u8 (h.ty.toNat : Int))) from fun W hW => by
    obtain ⟨q0, q1, q2, q3, q4, q5, q6, q7, q8, q9, q10, q11, q12, q13, q14⟩ := (H.out.keep hW).cells
    obtain ⟨c0, c1, c2, c3, c4, c5, c6, c7, c8, c9, c10⟩ := hd_cells (Hb.out.keep hW Hb.out.lt)
    exact ⟨q12, q13, c0, c1, c2, c3, c4, c5, c7, c8⟩)
  go_cut [5] from 18 (fun s5 wx => ∃ b3, s5 = .pointer (some ⟨b3, 0, none⟩) ∧ Hid (Blk wx b3 44 (ncells (mkN h N M))) ∧ Hid (Stp w1 wx) ∧ Hid (s.name = [] ∨ J = s.name.take 100) ∧ Hid (s.link = [] ∨ h.link = s.link.take 100))
  case first =>
    refine wp_region_held_drew (S := fun W : World => W.cell? ⟨g, 12, none⟩ = some (.string ⟨s.name.toArray⟩) ∧ W.cell? ⟨g, 13, none⟩ = some (.string ⟨s.link.toArray⟩) ∧ W.cell? ⟨b1, 0, none⟩ = some (.string ⟨h.name.toArray⟩) ∧ W.cell? ⟨b1, 1, none⟩ = some (.string ⟨h.pre.toArray⟩) ∧ W.cell? ⟨b1, 2, none⟩ = some (.string ⟨h.link.toArray⟩) ∧ W.cell? ⟨b1, 3, none⟩ = some (.int .i64 h.mode) ∧ W.cell? ⟨b1, 4, none⟩ = some (.int .i64 h.uid) ∧ W.cell? ⟨b1, 5, none⟩ = some (.int .i64 h.gid) ∧ W.cell? ⟨b1, 7, none⟩ = some (.int .i64 h.time) ∧ W.cell? ⟨b1, 8, none⟩ = some (.int .u8 (h.ty.toNat : Int))) (by kernel_rfl) (Key.out _ (stp_dr (Stp.refl w1))) (fun hHeld => ?_)
    refine wpAnyH_take (i := 0) (oi := { dst := some 18, op := Go.Op.move (Go.Operand.tmp 0), type := 118, pos := "parse.go:196", after := #[], guard := none }) (v := ?v0a) rfl (by kernel_rfl) (by kernel_rfl) (by kernel_rfl) (fun _ _ _ h => h) (Or.inl ⟨by rfl, ?hy0a⟩) (by assumption) ?rest0a
    case hy0a => (intro w hSw; (try dsimp only at hSw); go_simp; try with_reducible rfl)
    try simp only [Act.put, List.setIfInBounds_toArray, List.set_cons_zero, List.set_cons_succ]
    refine wpAnyH_take (i := 1) (oi := { dst := some 19, op := Go.Op.nilCheck (Go.Operand.tmp 18), type := 0, pos := "parse.go:196", after := #[{ on := 0, ground := Go.Ground.data }], guard := none }) (v := ?v1a) rfl (by kernel_rfl) (by kernel_rfl) (by kernel_rfl) (fun _ _ _ h => h) (Or.inl ⟨by rfl, ?hy1a⟩) (by assumption) ?rest1a
    case hy1a => (intro w hSw; (try dsimp only at hSw); go_simp; try with_reducible rfl)
    try simp only [Act.put, List.setIfInBounds_toArray, List.set_cons_zero, List.set_cons_succ]
    refine wpAnyH_take (i := 2) (oi := { dst := some 20, op := Go.Op.fieldAddr 120 (Go.Operand.tmp 19) 0, type := 0, pos := "parse.go:196", after := #[{ on := 1, ground := Go.Ground.data }], guard := none }) (v := ?v2a) rfl (by kernel_rfl) (by kernel_rfl) (by kernel_rfl) (fun _ _ _ h => h) (Or.inl ⟨by rfl, ?hy2a⟩) (by assumption) ?rest2a
    case hy2a => (intro w hSw; (try dsimp only at hSw); go_simp; try with_reducible rfl)
    try simp only [Act.put, List.setIfInBounds_toArray, List.set_cons_zero, List.set_cons_succ]
    refine wpAnyH_take (i := 3) (oi := { dst := some 21, op := Go.Op.fieldAddr 46 (Go.Operand.tmp 20) 5, type := 0, pos := "parse.go:196", after := #[{ on := 2, ground := Go.Ground.data }], guard := none }) (v := ?v3a) rfl (by kernel_rfl) (by kernel_rfl) (by kernel_rfl) (fun _ _ _ h => h) (Or.inl ⟨by rfl, ?hy3a⟩) (by assumption) ?rest3a
    case hy3a => (intro w hSw; (try dsimp only at hSw); go_simp; try with_reducible rfl)
    try simp only [Act.put, List.setIfInBounds_toArray, List.set_cons_zero, List.set_cons_succ]
    refine wpAnyH_take (i := 4) (oi := { dst := some 22, op := Go.Op.load 9 (Go.Operand.tmp 21), type := 9, pos := "parse.go:196", after := #[{ on := 3, ground := Go.Ground.data }], guard := none }) (v := ?v4a) rfl (by kernel_rfl) (by kernel_rfl) (by kernel_rfl) (fun _ _ _ h => h) (Or.inl ⟨by rfl, ?hy4a⟩) (by assumption) ?rest4a
    case hy4a => (intro w hSw; (try dsimp only at hSw); go_simp; try with_reducible rfl)
    try simp only [Act.put, List.setIfInBounds_toArray, List.set_cons_zero, List.set_cons_succ]
    refine wpAnyH_take (i := 5) (oi := { dst := some 23, op := Go.Op.fieldAddr 113 (Go.Operand.tmp 3) 1, type := 0, pos := "parse.go:196", after := #[], guard := none }) (v := ?v5a) rfl (by kernel_rfl) (by kernel_rfl) (by kernel_rfl) (fun _ _ _ h => h) (Or.inl ⟨by rfl, ?hy5a⟩) (by assumption) ?rest5a
    case hy5a => (intro w hSw; (try dsimp only at hSw); go_simp; try with_reducible rfl)
    try simp only [Act.put, List.setIfInBounds_toArray, List.set_cons_zero, List.set_cons_succ]
    refine wpAnyH_take (i := 6) (oi := { dst := some 24, op := Go.Op.load 9 (Go.Operand.tmp 23), type := 9, pos := "parse.go:196", after := #[{ on := 5, ground := Go.Ground.data }], guard := none }) (v := ?v6a) rfl (by kernel_rfl) (by kernel_rfl) (by kernel_rfl) (fun _ _ _ h => h) (Or.inl ⟨by rfl, ?hy6a⟩) (by assumption) ?rest6a
    case hy6a => (intro w hSw; (try dsimp only at hSw); go_simp; try with_reducible rfl)
    try simp only [Act.put, List.setIfInBounds_toArray, List.set_cons_zero, List.set_cons_succ]
    refine wpAnyH_take (i := 7) (oi := { dst := some 25, op := Go.Op.fieldAddr 113 (Go.Operand.tmp 3) 0, type := 0, pos := "parse.go:196", after := #[], guard := none }) (v := ?v7a) rfl (by kernel_rfl) (by kernel_rfl) (by kernel_rfl) (fun _ _ _ h => h) (Or.inl ⟨by rfl, ?hy7a⟩) (by assumption) ?rest7a
    case hy7a => (intro w hSw; (try dsimp only at hSw); go_simp; try with_reducible rfl)
    try simp only [Act.put, List.setIfInBounds_toArray, List.set_cons_zero, List.set_cons_succ]
    refine wpAnyH_take (i := 8) (oi := { dst := some 26, op := Go.Op.load 9 (Go.Operand.tmp 25), type := 9, pos := "parse.go:196", after := #[{ on := 7, ground := Go.Ground.data }], guard := none }) (v := ?v8a) rfl (by kernel_rfl) (by kernel_rfl) (by kernel_rfl) (fun _ _ _ h => h) (Or.inl ⟨by rfl, ?hy8a⟩) (by assumption) ?rest8a
    case hy8a => (intro w hSw; (try dsimp only at hSw); go_simp; try with_reducible rfl)
    try simp only [Act.put, List.setIfInBounds_toArray, List.set_cons_zero, List.set_cons_succ]
    refine wpAnyH_take (i := 11) (oi := { dst := some 29, op := Go.Op.move (Go.Operand.tmp 0), type := 118, pos := "parse.go:196", after := #[], guard := none }) (v := ?v11a) rfl (by kernel_rfl) (by kernel_rfl) (by kernel_rfl) (fun _ _ _ h => h) (Or.inl ⟨by rfl, ?hy11a⟩) (by assumption) ?rest11a
    case hy11a => (intro w hSw; (try dsimp only at hSw); go_simp; try with_reducible rfl)
    try simp only [Act.put, List.setIfInBounds_toArray, List.set_cons_zero, List.set_cons_succ]
    refine wpAnyH_take (i := 12) (oi := { dst := some 30, op := Go.Op.nilCheck (Go.Operand.tmp 29), type := 0, pos := "parse.go:196", after := #[{ on := 11, ground := Go.Ground.data }], guard := none }) (v := ?v12a) rfl (by kernel_rfl) (by kernel_rfl) (by kernel_rfl) (fun _ _ _ h => h) (Or.inl ⟨by rfl, ?hy12a⟩) (by assumption) ?rest12a
    case hy12a => (intro w hSw; (try dsimp only at hSw); go_simp; try with_reducible rfl)
    try simp only [Act.put, List.setIfInBounds_toArray, List.set_cons_zero, List.set_cons_succ]
    refine wpAnyH_take (i := 13) (oi := { dst := some 31, op := Go.Op.fieldAddr 120 (Go.Operand.tmp 30) 0, type := 0, pos := "parse.go:196", after := #[{ on := 12, ground := Go.Ground.data }], guard := none }) (v := ?v13a) rfl (by kernel_rfl) (by kernel_rfl) (by kernel_rfl) (fun _ _ _ h => h) (Or.inl ⟨by rfl, ?hy13a⟩) (by assumption) ?rest13a
    case hy13a => (intro w hSw; (try dsimp only at hSw); go_simp; try with_reducible rfl)
    try simp only [Act.put, List.setIfInBounds_toArray, List.set_cons_zero, List.set_cons_succ]
    refine wpAnyH_take (i := 14) (oi := { dst := some 32, op := Go.Op.fieldAddr 46 (Go.Operand.tmp 31) 6, type := 0, pos := "parse.go:196", after := #[{ on := 13, ground := Go.Ground.data }], guard := none }) (v := ?v14a) rfl (by kernel_rfl) (by kernel_rfl) (by kernel_rfl) (fun _ _ _ h => h) (Or.inl ⟨by rfl, ?hy14a⟩) (by assumption) ?rest14a
    case hy14a => (intro w hSw; (try dsimp only at hSw); go_simp; try with_reducible rfl)
    try simp only [Act.put, List.setIfInBounds_toArray, List.set_cons_zero, List.set_cons_succ]
    refine wpAnyH_take (i := 15) (oi := { dst := some 33, op := Go.Op.load 9 (Go.Operand.tmp 32), type := 9, pos := "parse.go:196", after := #[{ on := 14, ground := Go.Ground.data }], guard := none }) (v := ?v15a) rfl (by kernel_rfl) (by kernel_rfl) (by kernel_rfl) (fun _ _ _ h => h) (Or.inl ⟨by rfl, ?hy15a⟩) (by assumption) ?rest15a
    case hy15a => (intro w hSw; (try dsimp only at hSw); go_simp; try with_reducible rfl)
    try simp only [Act.put, List.setIfInBounds_toArray, List.set_cons_zero, List.set_cons_succ]
    refine wpAnyH_take (i := 16) (oi := { dst := some 34, op := Go.Op.fieldAddr 113 (Go.Operand.tmp 3) 2, type := 0, pos := "parse.go:196", after := #[], guard := none }) (v := ?v16a) rfl (by kernel_rfl) (by kernel_rfl) (by kernel_rfl) (fun _ _ _ h => h) (Or.inl ⟨by rfl, ?hy16a⟩) (by assumption) ?rest16a
    case hy16a => (intro w hSw; (try dsimp only at hSw); go_simp; try with_reducible rfl)
    try simp only [Act.put, List.setIfInBounds_toArray, List.set_cons_zero, List.set_cons_succ]
    refine wpAnyH_take (i := 17) (oi := { dst := some 35, op := Go.Op.load 9 (Go.Operand.tmp 34), type := 9, pos := "parse.go:196", after := #[{ on := 16, ground := Go.Ground.data }], guard := none }) (v := ?v17a) rfl (by kernel_rfl) (by kernel_rfl) (by kernel_rfl) (fun _ _ _ h => h) (Or.inl ⟨by rfl, ?hy17a⟩) (by assumption) ?rest17a
    case hy17a => (intro w hSw; (try dsimp only at hSw); go_simp; try with_reducible rfl)
    try simp only [Act.put, List.setIfInBounds_toArray, List.set_cons_zero, List.set_cons_succ]
    refine wpAnyH_take (i := 19) (oi := { dst := some 37, op := Go.Op.fieldAddr 113 (Go.Operand.tmp 3) 8, type := 0, pos := "parse.go:196", after := #[], guard := none }) (v := ?v19a) rfl (by kernel_rfl) (by kernel_rfl) (by kernel_rfl) (fun _ _ _ h => h) (Or.inl ⟨by rfl, ?hy19a⟩) (by assumption) ?rest19a
    case hy19a => (intro w hSw; (try dsimp only at hSw); go_simp; try with_reducible rfl)
    try simp only [Act.put, List.setIfInBounds_toArray, List.set_cons_zero, List.set_cons_succ]
    refine wpAnyH_take (i := 20) (oi := { dst := some 38, op := Go.Op.load 5 (Go.Operand.tmp 37), type := 5, pos := "parse.go:196", after := #[{ on := 19, ground := Go.Ground.data }], guard := none }) (v := ?v20a) rfl (by kernel_rfl) (by kernel_rfl) (by kernel_rfl) (fun _ _ _ h => h) (Or.inl ⟨by rfl, ?hy20a⟩) (by assumption) ?rest20a
    case hy20a => (intro w hSw; (try dsimp only at hSw); go_simp; try with_reducible rfl)
    try simp only [Act.put, List.setIfInBounds_toArray, List.set_cons_zero, List.set_cons_succ]
    refine wpAnyH_take (i := 21) (oi := { dst := some 39, op := Go.Op.fieldAddr 113 (Go.Operand.tmp 3) 3, type := 0, pos := "parse.go:196", after := #[], guard := none }) (v := ?v21a) rfl (by kernel_rfl) (by kernel_rfl) (by kernel_rfl) (fun _ _ _ h => h) (Or.inl ⟨by rfl, ?hy21a⟩) (by assumption) ?rest21a
    case hy21a => (intro w hSw; (try dsimp only at hSw); go_simp; try with_reducible rfl)
    try simp only [Act.put, List.setIfInBounds_toArray, List.set_cons_zero, List.set_cons_succ]
    refine wpAnyH_take (i := 22) (oi := { dst := some 40, op := Go.Op.load 3 (Go.Operand.tmp 39), type := 3, pos := "parse.go:196", after := #[{ on := 21, ground := Go.Ground.data }], guard := none }) (v := ?v22a) rfl (by kernel_rfl) (by kernel_rfl) (by kernel_rfl) (fun _ _ _ h => h) (Or.inl ⟨by rfl, ?hy22a⟩) (by assumption) ?rest22a
    case hy22a => (intro w hSw; (try dsimp only at hSw); go_simp; try with_reducible rfl)
    try simp only [Act.put, List.setIfInBounds_toArray, List.set_cons_zero, List.set_cons_succ]
    refine wpAnyH_take (i := 23) (oi := { dst := some 41, op := Go.Op.fieldAddr 113 (Go.Operand.tmp 3) 4, type := 0, pos := "parse.go:196", after := #[], guard := none }) (v := ?v23a) rfl (by kernel_rfl) (by kernel_rfl) (by kernel_rfl) (fun _ _ _ h => h) (Or.inl ⟨by rfl, ?hy23a⟩) (by assumption) ?rest23a
    case hy23a => (intro w hSw; (try dsimp only at hSw); go_simp; try with_reducible rfl)
    try simp only [Act.put, List.setIfInBounds_toArray, List.set_cons_zero, List.set_cons_succ]
    refine wpAnyH_take (i := 24) (oi := { dst := some 42, op := Go.Op.load 3 (Go.Operand.tmp 41), type := 3, pos := "parse.go:196", after := #[{ on := 23, ground := Go.Ground.data }], guard := none }) (v := ?v24a) rfl (by kernel_rfl) (by kernel_rfl) (by kernel_rfl) (fun _ _ _ h => h) (Or.inl ⟨by rfl, ?hy24a⟩) (by assumption) ?rest24a
    case hy24a => (intro w hSw; (try dsimp only at hSw); go_simp; try with_reducible rfl)
    try simp only [Act.put, List.setIfInBounds_toArray, List.set_cons_zero, List.set_cons_succ]
    refine wpAnyH_take (i := 25) (oi := { dst := some 43, op := Go.Op.fieldAddr 113 (Go.Operand.tmp 3) 5, type := 0, pos := "parse.go:196", after := #[], guard := none }) (v := ?v25a) rfl (by kernel_rfl) (by kernel_rfl) (by kernel_rfl) (fun _ _ _ h => h) (Or.inl ⟨by rfl, ?hy25a⟩) (by assumption) ?rest25a
    case hy25a => (intro w hSw; (try dsimp only at hSw); go_simp; try with_reducible rfl)
    try simp only [Act.put, List.setIfInBounds_toArray, List.set_cons_zero, List.set_cons_succ]
    refine wpAnyH_take (i := 26) (oi := { dst := some 44, op := Go.Op.load 3 (Go.Operand.tmp 43), type := 3, pos := "parse.go:196", after := #[{ on := 25, ground := Go.Ground.data }], guard := none }) (v := ?v26a) rfl (by kernel_rfl) (by kernel_rfl) (by kernel_rfl) (fun _ _ _ h => h) (Or.inl ⟨by rfl, ?hy26a⟩) (by assumption) ?rest26a
    case hy26a => (intro w hSw; (try dsimp only at hSw); go_simp; try with_reducible rfl)
    try simp only [Act.put, List.setIfInBounds_toArray, List.set_cons_zero, List.set_cons_succ]
    refine wpAnyH_take (i := 27) (oi := { dst := some 45, op := Go.Op.fieldAddr 113 (Go.Operand.tmp 3) 7, type := 0, pos := "parse.go:196", after := #[], guard := none }) (v := ?v27a) rfl (by kernel_rfl) (by kernel_rfl) (by kernel_rfl) (fun _ _ _ h => h) (Or.inl ⟨by rfl, ?hy27a⟩) (by assumption) ?rest27a
    case hy27a => (intro w hSw; (try dsimp only at hSw); go_simp; try with_reducible rfl)
    try simp only [Act.put, List.setIfInBounds_toArray, List.set_cons_zero, List.set_cons_succ]
    refine wpAnyH_take (i := 28) (oi := { dst := some 46, op := Go.Op.load 3 (Go.Operand.tmp 45), type := 3, pos := "parse.go:196", after := #[{ on := 27, ground := Go.Ground.data }], guard := none }) (v := ?v28a) rfl (by kernel_rfl) (by kernel_rfl) (by kernel_rfl) (fun _ _ _ h => h) (Or.inl ⟨by rfl, ?hy28a⟩) (by assumption) ?rest28a
    case hy28a => (intro w hSw; (try dsimp only at hSw); go_simp; try with_reducible rfl)
    try simp only [Act.put, List.setIfInBounds_toArray, List.set_cons_zero, List.set_cons_succ]
    refine wpAnyH_ready (rs := [9, 30]) (by kernel_rfl) (by simp) ?_
    refine AllReadyH.cons (o := { dst := some 27, op := Go.Op.call { callee := Go.Callee.value (Go.Operand.func 182), args := #[Go.Operand.tmp 24, Go.Operand.tmp 26], argTypes := #[9, 9] }, type := 9, pos := "parse.go:197", after := #[{ on := 6, ground := Go.Ground.data }, { on := 8, ground := Go.Ground.data }], guard := none }) rfl (fun K hK => ?wayc1a) (AllReadyH.cons (o := { dst := some 5, op := Go.Op.alloc 44, type := 0, pos := "parse.go:196", after := #[], guard := none }) rfl (fun K hK => ?waya1a) AllReadyH.nil)
    case wayc1a =>
      go_simp
      refine (Path.join_s h.pre h.name _ HJl.out).mono ?_
      rintro e u2 ⟨rfl, hs⟩
      rw [HJ.out]
      have S2 := Lib.hid (Stp.trans (stp_dr (Stp.refl w1)) hs)
      clear hs
      go_wp2_with fail
      refine hK.out _ _ (Key.out _ (S2.out)) (fun hHeld2 => ?_)
      clear hK K hHeld
      have hHeld := hHeld2
      clear hHeld2
      try simp only [Act.put, List.setIfInBounds_toArray, List.set_cons_zero, List.set_cons_succ]
      refine wpAnyH_ready (rs := [10, 30]) (by kernel_rfl) (by simp) ?_
      refine AllReadyH.cons (o := { dst := some 28, op := Go.Op.call { callee := Go.Callee.value (Go.Operand.func 181), args := #[Go.Operand.tmp 22, Go.Operand.tmp 27], argTypes := #[9, 9] }, type := 9, pos := "parse.go:197", after := #[{ on := 4, ground := Go.Ground.data }, { on := 9, ground := Go.Ground.data }, { on := 9, ground := Go.Ground.chain }], guard := none }) rfl (fun K hK => ?wayc3a) (AllReadyH.cons (o := { dst := some 5, op := Go.Op.alloc 44, type := 0, pos := "parse.go:196", after := #[], guard := none }) rfl (fun K hK => ?waya3a) AllReadyH.nil)
      case wayc3a =>
        go_simp
        refine (whole_p s.name J N HN.out Hn1.out _).mono ?_
        rintro e u4 ⟨⟨hf, rfl⟩ | ⟨hf, rfl⟩, hs⟩
        rotate_left
        · exact ⟨rfl, nodeP_no (HE1.out hf) (Stp.trans H0.out (Stp.trans (S2.out) hs))⟩
        have HF1 := Lib.hid hf
        clear hf
        have S4 := Lib.hid (Stp.trans (S2.out) hs)
        clear hs
        go_wp2_with fail
        refine hK.out _ _ (Key.out _ (S4.out)) (fun hHeld2 => ?_)
        clear hK K hHeld
        have hHeld := hHeld2
        clear hHeld2
        try simp only [Act.put, List.setIfInBounds_toArray, List.set_cons_zero, List.set_cons_succ]
        refine wpAnyH_ready (rs := [18, 30]) (by kernel_rfl) (by simp) ?_
        refine AllReadyH.cons (o := { dst := some 36, op := Go.Op.call { callee := Go.Callee.value (Go.Operand.func 181), args := #[Go.Operand.tmp 33, Go.Operand.tmp 35], argTypes := #[9, 9] }, type := 9, pos := "parse.go:198", after := #[{ on := 15, ground := Go.Ground.data }, { on := 17, ground := Go.Ground.data }, { on := 10, ground := Go.Ground.chain }], guard := none }) rfl (fun K hK => ?wayc5a) (AllReadyH.cons (o := { dst := some 5, op := Go.Op.alloc 44, type := 0, pos := "parse.go:196", after := #[], guard := none }) rfl (fun K hK => ?waya5a) AllReadyH.nil)
        case wayc5a =>
          go_simp
          refine (whole_p s.link h.link M HM.out Hn2.out _).mono ?_
          rintro e u6 ⟨⟨hf, rfl⟩ | ⟨hf, rfl⟩, hs⟩
          rotate_left
          · exact ⟨rfl, nodeP_no (HE2.out hf) (Stp.trans H0.out (Stp.trans (S4.out) hs))⟩
          have HF2 := Lib.hid hf
          clear hf
          have S6 := Lib.hid (Stp.trans (S4.out) hs)
          clear hs
          go_wp2_with fail
          refine hK.out _ _ (Key.out _ (S6.out)) (fun hHeld2 => ?_)
          clear hK K hHeld
          have hHeld := hHeld2
          clear hHeld2
          try simp only [Act.put, List.setIfInBounds_toArray, List.set_cons_zero, List.set_cons_succ]
          refine wpAnyH_take (i := 29) (oi := { dst := some 47, op := Go.Op.build 44 #[(0, Go.Operand.tmp 28), (1, Go.Operand.tmp 36), (2, Go.Operand.tmp 38), (3, Go.Operand.tmp 40), (4, Go.Operand.tmp 42), (5, Go.Operand.tmp 44), (6, Go.Operand.tmp 46)], type := 44, pos := "parse.go:196", after := #[{ on := 10, ground := Go.Ground.data }, { on := 18, ground := Go.Ground.data }, { on := 20, ground := Go.Ground.data }, { on := 22, ground := Go.Ground.data }, { on := 24, ground := Go.Ground.data }, { on := 26, ground := Go.Ground.data }, { on := 28, ground := Go.Ground.data }], guard := none }) (v := ?v29a7) rfl (by kernel_rfl) (by kernel_rfl) (by kernel_rfl) (fun _ _ _ h => h) (Or.inl ⟨by rfl, ?hy29a7⟩) (by assumption) ?rest29a7
          case hy29a7 => (intro w hSw; (try dsimp only at hSw); go_simp; try with_reducible rfl)
          try simp only [Act.put, List.setIfInBounds_toArray, List.set_cons_zero, List.set_cons_succ]
          refine wpAnyH_ready (rs := [30]) (by kernel_rfl) (by simp) ?_
          refine AllReadyH.cons (o := { dst := some 5, op := Go.Op.alloc 44, type := 0, pos := "parse.go:196", after := #[], guard := none }) rfl (fun K hK => ?_) AllReadyH.nil
          go_simp
          refine hK.out _ _ (Key.out _ (Stp.alloc (S6.out) _)) (fun hHeld2 => ?_)
          clear hK K hHeld
          have hHeld := hHeld2
          clear hHeld2
          try simp only [Act.put, List.setIfInBounds_toArray, List.set_cons_zero, List.set_cons_succ]
          refine wpAnyH_ready (rs := [31]) (by kernel_rfl) (by simp) ?_
          refine AllReadyH.cons (o := { dst := none, op := Go.Op.store 44 (Go.Operand.tmp 5) (Go.Operand.tmp 47), type := 0, pos := "parse.go:196", after := #[{ on := 30, ground := Go.Ground.data }, { on := 29, ground := Go.Ground.data }, { on := 18, ground := Go.Ground.chain }, { on := 0, ground := Go.Ground.phase }, { on := 1, ground := Go.Ground.phase }, { on := 2, ground := Go.Ground.phase }, { on := 3, ground := Go.Ground.phase }, { on := 4, ground := Go.Ground.phase }, { on := 5, ground := Go.Ground.phase }, { on := 6, ground := Go.Ground.phase }, { on := 7, ground := Go.Ground.phase }, { on := 8, ground := Go.Ground.phase }, { on := 9, ground := Go.Ground.phase }, { on := 10, ground := Go.Ground.phase }, { on := 11, ground := Go.Ground.phase }, { on := 12, ground := Go.Ground.phase }, { on := 13, ground := Go.Ground.phase }, { on := 14, ground := Go.Ground.phase }, { on := 15, ground := Go.Ground.phase }, { on := 16, ground := Go.Ground.phase }, { on := 17, ground := Go.Ground.phase }, { on := 18, ground := Go.Ground.phase }, { on := 19, ground := Go.Ground.phase }, { on := 20, ground := Go.Ground.phase }, { on := 21, ground := Go.Ground.phase }, { on := 22, ground := Go.Ground.phase }, { on := 23, ground := Go.Ground.phase }, { on := 24, ground := Go.Ground.phase }, { on := 25, ground := Go.Ground.phase }, { on := 26, ground := Go.Ground.phase }, { on := 27, ground := Go.Ground.phase }, { on := 28, ground := Go.Ground.phase }, { on := 29, ground := Go.Ground.phase }, { on := 30, ground := Go.Ground.phase }], guard := none }) rfl (fun K hK => ?_) AllReadyH.nil
          go_simp
          refine hK.out _ _ (Key.out _ (Stp.alloc (S6.out) _)) (fun hHeld2 => ?_)
          clear hK K hHeld
          have hHeld := hHeld2
          clear hHeld2
          try simp only [Act.put, List.setIfInBounds_toArray, List.set_cons_zero, List.set_cons_succ]
          refine wpAnyH_done (by kernel_rfl) ?_ _
          change Exit.then _ _ Exit.normal _ (u6.alloc (.cells (ncells (mkN h N M)) 44))
          have hB := Blk.new u6 44 (ncells (mkN h N M))
          have hW := Stp.alloc (S6.out) (.cells (ncells (mkN h N M)) 44)
          generalize u6.alloc (.cells (ncells (mkN h N M)) 44) = W7 at hB hW ⊢
          go_wp2_with fail
          go_meet
          exact ⟨_, rfl, Lib.hid hB, Lib.hid hW, HF1, HF2⟩
        case waya5a =>
          go_simp
          have S8 := Lib.hid (Stp.alloc (S4.out) (.cells (ncells zeroN) 44))
          have Z8 := Lib.hid (Blk.new u4 44 (ncells zeroN))
          refine hK.out _ _ (Key.out _ (S8.out)) (fun hHeld2 => ?_)
          clear hK K hHeld
          have hHeld := hHeld2
          clear hHeld2
          try simp only [Act.put, List.setIfInBounds_toArray, List.set_cons_zero, List.set_cons_succ]
          refine wpAnyH_ready (rs := [18]) (by kernel_rfl) (by simp) ?_
          refine AllReadyH.cons (o := { dst := some 36, op := Go.Op.call { callee := Go.Callee.value (Go.Operand.func 181), args := #[Go.Operand.tmp 33, Go.Operand.tmp 35], argTypes := #[9, 9] }, type := 9, pos := "parse.go:198", after := #[{ on := 15, ground := Go.Ground.data }, { on := 17, ground := Go.Ground.data }, { on := 10, ground := Go.Ground.chain }], guard := none }) rfl (fun K hK => ?_) AllReadyH.nil
          go_simp
          refine (whole_p s.link h.link M HM.out Hn2.out _).mono ?_
          rintro e u9 ⟨⟨hf, rfl⟩ | ⟨hf, rfl⟩, hs⟩
          rotate_left
          · exact ⟨rfl, nodeP_no (HE2.out hf) (Stp.trans H0.out (Stp.trans (S8.out) hs))⟩
          have HF2 := Lib.hid hf
          clear hf
          have S9 := Lib.hid (Stp.trans (S8.out) hs)
          have Z9 := Lib.hid (Blk.keep (Z8.out) hs (Blk.lt (Z8.out)))
          clear hs
          go_wp2_with fail
          refine hK.out _ _ (Key.out _ (S9.out)) (fun hHeld2 => ?_)
          clear hK K hHeld
          have hHeld := hHeld2
          clear hHeld2
          try simp only [Act.put, List.setIfInBounds_toArray, List.set_cons_zero, List.set_cons_succ]
          refine wpAnyH_take (i := 29) (oi := { dst := some 47, op := Go.Op.build 44 #[(0, Go.Operand.tmp 28), (1, Go.Operand.tmp 36), (2, Go.Operand.tmp 38), (3, Go.Operand.tmp 40), (4, Go.Operand.tmp 42), (5, Go.Operand.tmp 44), (6, Go.Operand.tmp 46)], type := 44, pos := "parse.go:196", after := #[{ on := 10, ground := Go.Ground.data }, { on := 18, ground := Go.Ground.data }, { on := 20, ground := Go.Ground.data }, { on := 22, ground := Go.Ground.data }, { on := 24, ground := Go.Ground.data }, { on := 26, ground := Go.Ground.data }, { on := 28, ground := Go.Ground.data }], guard := none }) (v := ?v29a10) rfl (by kernel_rfl) (by kernel_rfl) (by kernel_rfl) (fun _ _ _ h => h) (Or.inl ⟨by rfl, ?hy29a10⟩) (by assumption) ?rest29a10
          case hy29a10 => (intro w hSw; (try dsimp only at hSw); go_simp; try with_reducible rfl)
          try simp only [Act.put, List.setIfInBounds_toArray, List.set_cons_zero, List.set_cons_succ]
          obtain ⟨⟨z0, z1, z2, z3, z4, z5, z6, z7⟩, y0, y1, y2, y3, y4, y5, y6, y7⟩ := nzy (Z9.out)
          refine wpAnyH_ready (rs := [31]) (by kernel_rfl) (by simp) ?_
          refine AllReadyH.cons (o := { dst := none, op := Go.Op.store 44 (Go.Operand.tmp 5) (Go.Operand.tmp 47), type := 0, pos := "parse.go:196", after := #[{ on := 30, ground := Go.Ground.data }, { on := 29, ground := Go.Ground.data }, { on := 18, ground := Go.Ground.chain }, { on := 0, ground := Go.Ground.phase }, { on := 1, ground := Go.Ground.phase }, { on := 2, ground := Go.Ground.phase }, { on := 3, ground := Go.Ground.phase }, { on := 4, ground := Go.Ground.phase }, { on := 5, ground := Go.Ground.phase }, { on := 6, ground := Go.Ground.phase }, { on := 7, ground := Go.Ground.phase }, { on := 8, ground := Go.Ground.phase }, { on := 9, ground := Go.Ground.phase }, { on := 10, ground := Go.Ground.phase }, { on := 11, ground := Go.Ground.phase }, { on := 12, ground := Go.Ground.phase }, { on := 13, ground := Go.Ground.phase }, { on := 14, ground := Go.Ground.phase }, { on := 15, ground := Go.Ground.phase }, { on := 16, ground := Go.Ground.phase }, { on := 17, ground := Go.Ground.phase }, { on := 18, ground := Go.Ground.phase }, { on := 19, ground := Go.Ground.phase }, { on := 20, ground := Go.Ground.phase }, { on := 21, ground := Go.Ground.phase }, { on := 22, ground := Go.Ground.phase }, { on := 23, ground := Go.Ground.phase }, { on := 24, ground := Go.Ground.phase }, { on := 25, ground := Go.Ground.phase }, { on := 26, ground := Go.Ground.phase }, { on := 27, ground := Go.Ground.phase }, { on := 28, ground := Go.Ground.phase }, { on := 29, ground := Go.Ground.phase }, { on := 30, ground := Go.Ground.phase }], guard := none }) rfl (fun K hK => ?_) AllReadyH.nil
          go_simp
          refine hK.out _ _ (Key.out _ (filln_stp (g := u4.heap.size) (mkN h N M) (S9.out) ((S4.out).size))) (fun hHeld2 => ?_)
          clear hK K hHeld
          have hHeld := hHeld2
          clear hHeld2
          try simp only [Act.put, List.setIfInBounds_toArray, List.set_cons_zero, List.set_cons_succ]
          clear z0 z1 z2 z3 z4 z5 z6 z7 y0 y1 y2 y3 y4 y5 y6 y7
          refine wpAnyH_done (by kernel_rfl) ?_ _
          change Exit.then _ _ Exit.normal _ (fillN u9 u4.heap.size (mkN h N M))
          have hB := filln_blk (mkN h N M) (Z9.out)
          have hW := filln_stp (g := u4.heap.size) (mkN h N M) (S9.out) ((S4.out).size)
          generalize fillN u9 u4.heap.size (mkN h N M) = W7 at hB hW ⊢
          go_wp2_with fail
          go_meet
          exact ⟨_, rfl, Lib.hid hB, Lib.hid hW, HF1, HF2⟩
      case waya3a =>
        go_simp
        have S11 := Lib.hid (Stp.alloc (S2.out) (.cells (ncells zeroN) 44))
        have Z11 := Lib.hid (Blk.new u2 44 (ncells zeroN))
        refine hK.out _ _ (Key.out _ (S11.out)) (fun hHeld2 => ?_)
        clear hK K hHeld
        have hHeld := hHeld2
        clear hHeld2
        try simp only [Act.put, List.setIfInBounds_toArray, List.set_cons_zero, List.set_cons_succ]
        refine wpAnyH_ready (rs := [10]) (by kernel_rfl) (by simp) ?_
        refine AllReadyH.cons (o := { dst := some 28, op := Go.Op.call { callee := Go.Callee.value (Go.Operand.func 181), args := #[Go.Operand.tmp 22, Go.Operand.tmp 27], argTypes := #[9, 9] }, type := 9, pos := "parse.go:197", after := #[{ on := 4, ground := Go.Ground.data }, { on := 9, ground := Go.Ground.data }, { on := 9, ground := Go.Ground.chain }], guard := none }) rfl (fun K hK => ?_) AllReadyH.nil
        go_simp
        refine (whole_p s.name J N HN.out Hn1.out _).mono ?_
        rintro e u12 ⟨⟨hf, rfl⟩ | ⟨hf, rfl⟩, hs⟩
        rotate_left
        · exact ⟨rfl, nodeP_no (HE1.out hf) (Stp.trans H0.out (Stp.trans (S11.out) hs))⟩
        have HF1 := Lib.hid hf
        clear hf
        have S12 := Lib.hid (Stp.trans (S11.out) hs)
        have Z12 := Lib.hid (Blk.keep (Z11.out) hs (Blk.lt (Z11.out)))
        clear hs
        go_wp2_with fail
        refine hK.out _ _ (Key.out _ (S12.out)) (fun hHeld2 => ?_)
        clear hK K hHeld
        have hHeld := hHeld2
        clear hHeld2
        try simp only [Act.put, List.setIfInBounds_toArray, List.set_cons_zero, List.set_cons_succ]
        refine wpAnyH_ready (rs := [18]) (by kernel_rfl) (by simp) ?_
        refine AllReadyH.cons (o := { dst := some 36, op := Go.Op.call { callee := Go.Callee.value (Go.Operand.func 181), args := #[Go.Operand.tmp 33, Go.Operand.tmp 35], argTypes := #[9, 9] }, type := 9, pos := "parse.go:198", after := #[{ on := 15, ground := Go.Ground.data }, { on := 17, ground := Go.Ground.data }, { on := 10, ground := Go.Ground.chain }], guard := none }) rfl (fun K hK => ?_) AllReadyH.nil
        go_simp
        refine (whole_p s.link h.link M HM.out Hn2.out _).mono ?_
        rintro e u13 ⟨⟨hf, rfl⟩ | ⟨hf, rfl⟩, hs⟩
        rotate_left
        · exact ⟨rfl, nodeP_no (HE2.out hf) (Stp.trans H0.out (Stp.trans (S12.out) hs))⟩
        have HF2 := Lib.hid hf
        clear hf
        have S13 := Lib.hid (Stp.trans (S12.out) hs)
        have Z13 := Lib.hid (Blk.keep (Z12.out) hs (Blk.lt (Z12.out)))
        clear hs
        go_wp2_with fail
        refine hK.out _ _ (Key.out _ (S13.out)) (fun hHeld2 => ?_)
        clear hK K hHeld
        have hHeld := hHeld2
        clear hHeld2
        try simp only [Act.put, List.setIfInBounds_toArray, List.set_cons_zero, List.set_cons_succ]
        refine wpAnyH_take (i := 29) (oi := { dst := some 47, op := Go.Op.build 44 #[(0, Go.Operand.tmp 28), (1, Go.Operand.tmp 36), (2, Go.Operand.tmp 38), (3, Go.Operand.tmp 40), (4, Go.Operand.tmp 42), (5, Go.Operand.tmp 44), (6, Go.Operand.tmp 46)], type := 44, pos := "parse.go:196", after := #[{ on := 10, ground := Go.Ground.data }, { on := 18, ground := Go.Ground.data }, { on := 20, ground := Go.Ground.data }, { on := 22, ground := Go.Ground.data }, { on := 24, ground := Go.Ground.data }, { on := 26, ground := Go.Ground.data }, { on := 28, ground := Go.Ground.data }], guard := none }) (v := ?v29a14) rfl (by kernel_rfl) (by kernel_rfl) (by kernel_rfl) (fun _ _ _ h => h) (Or.inl ⟨by rfl, ?hy29a14⟩) (by assumption) ?rest29a14
        case hy29a14 => (intro w hSw; (try dsimp only at hSw); go_simp; try with_reducible rfl)
        try simp only [Act.put, List.setIfInBounds_toArray, List.set_cons_zero, List.set_cons_succ]
        obtain ⟨⟨z0, z1, z2, z3, z4, z5, z6, z7⟩, y0, y1, y2, y3, y4, y5, y6, y7⟩ := nzy (Z13.out)
        refine wpAnyH_ready (rs := [31]) (by kernel_rfl) (by simp) ?_
        refine AllReadyH.cons (o := { dst := none, op := Go.Op.store 44 (Go.Operand.tmp 5) (Go.Operand.tmp 47), type := 0, pos := "parse.go:196", after := #[{ on := 30, ground := Go.Ground.data }, { on := 29, ground := Go.Ground.data }, { on := 18, ground := Go.Ground.chain }, { on := 0, ground := Go.Ground.phase }, { on := 1, ground := Go.Ground.phase }, { on := 2, ground := Go.Ground.phase }, { on := 3, ground := Go.Ground.phase }, { on := 4, ground := Go.Ground.phase }, { on := 5, ground := Go.Ground.phase }, { on := 6, ground := Go.Ground.phase }, { on := 7, ground := Go.Ground.phase }, { on := 8, ground := Go.Ground.phase }, { on := 9, ground := Go.Ground.phase }, { on := 10, ground := Go.Ground.phase }, { on := 11, ground := Go.Ground.phase }, { on := 12, ground := Go.Ground.phase }, { on := 13, ground := Go.Ground.phase }, { on := 14, ground := Go.Ground.phase }, { on := 15, ground := Go.Ground.phase }, { on := 16, ground := Go.Ground.phase }, { on := 17, ground := Go.Ground.phase }, { on := 18, ground := Go.Ground.phase }, { on := 19, ground := Go.Ground.phase }, { on := 20, ground := Go.Ground.phase }, { on := 21, ground := Go.Ground.phase }, { on := 22, ground := Go.Ground.phase }, { on := 23, ground := Go.Ground.phase }, { on := 24, ground := Go.Ground.phase }, { on := 25, ground := Go.Ground.phase }, { on := 26, ground := Go.Ground.phase }, { on := 27, ground := Go.Ground.phase }, { on := 28, ground := Go.Ground.phase }, { on := 29, ground := Go.Ground.phase }, { on := 30, ground := Go.Ground.phase }], guard := none }) rfl (fun K hK => ?_) AllReadyH.nil
        go_simp
        refine hK.out _ _ (Key.out _ (filln_stp (g := u2.heap.size) (mkN h N M) (S13.out) ((S2.out).size))) (fun hHeld2 => ?_)
        clear hK K hHeld
        have hHeld := hHeld2
        clear hHeld2
        try simp only [Act.put, List.setIfInBounds_toArray, List.set_cons_zero, List.set_cons_succ]
        clear z0 z1 z2 z3 z4 z5 z6 z7 y0 y1 y2 y3 y4 y5 y6 y7
        refine wpAnyH_done (by kernel_rfl) ?_ _
        change Exit.then _ _ Exit.normal _ (fillN u13 u2.heap.size (mkN h N M))
        have hB := filln_blk (mkN h N M) (Z13.out)
        have hW := filln_stp (g := u2.heap.size) (mkN h N M) (S13.out) ((S2.out).size)
        generalize fillN u13 u2.heap.size (mkN h N M) = W7 at hB hW ⊢
        go_wp2_with fail
        go_meet
        exact ⟨_, rfl, Lib.hid hB, Lib.hid hW, HF1, HF2⟩
    case waya1a =>
      go_simp
      have S15 := Lib.hid (show Stp w1 (w1.alloc (.cells (ncells zeroN) 44)).drew from stp_dr (Stp.alloc (Stp.refl w1) _))
      have Z15 := Lib.hid (show Blk (w1.alloc (.cells (ncells zeroN) 44)).drew w1.heap.size 44 (ncells zeroN) from Blk.new w1 44 _)
      refine hK.out _ _ (Key.out _ (S15.out)) (fun hHeld2 => ?_)
      clear hK K hHeld
      have hHeld := hHeld2
      clear hHeld2
      try simp only [Act.put, List.setIfInBounds_toArray, List.set_cons_zero, List.set_cons_succ]
      refine wpAnyH_ready (rs := [9]) (by kernel_rfl) (by simp) ?_
      refine AllReadyH.cons (o := { dst := some 27, op := Go.Op.call { callee := Go.Callee.value (Go.Operand.func 182), args := #[Go.Operand.tmp 24, Go.Operand.tmp 26], argTypes := #[9, 9] }, type := 9, pos := "parse.go:197", after := #[{ on := 6, ground := Go.Ground.data }, { on := 8, ground := Go.Ground.data }], guard := none }) rfl (fun K hK => ?_) AllReadyH.nil
      go_simp
      refine (Path.join_s h.pre h.name _ HJl.out).mono ?_
      rintro e u16 ⟨rfl, hs⟩
      rw [HJ.out]
      have S16 := Lib.hid (Stp.trans (S15.out) hs)
      have Z16 := Lib.hid (Blk.keep (Z15.out) hs (Blk.lt (Z15.out)))
      clear hs
      go_wp2_with fail
      refine hK.out _ _ (Key.out _ (S16.out)) (fun hHeld2 => ?_)
      clear hK K hHeld
      have hHeld := hHeld2
      clear hHeld2
      try simp only [Act.put, List.setIfInBounds_toArray, List.set_cons_zero, List.set_cons_succ]
      refine wpAnyH_ready (rs := [10]) (by kernel_rfl) (by simp) ?_
      refine AllReadyH.cons (o := { dst := some 28, op := Go.Op.call { callee := Go.Callee.value (Go.Operand.func 181), args := #[Go.Operand.tmp 22, Go.Operand.tmp 27], argTypes := #[9, 9] }, type := 9, pos := "parse.go:197", after := #[{ on := 4, ground := Go.Ground.data }, { on := 9, ground := Go.Ground.data }, { on := 9, ground := Go.Ground.chain }], guard := none }) rfl (fun K hK => ?_) AllReadyH.nil
      go_simp
      refine (whole_p s.name J N HN.out Hn1.out _).mono ?_
      rintro e u17 ⟨⟨hf, rfl⟩ | ⟨hf, rfl⟩, hs⟩
      rotate_left
      · exact ⟨rfl, nodeP_no (HE1.out hf) (Stp.trans H0.out (Stp.trans (S16.out) hs))⟩
      have HF1 := Lib.hid hf
      clear hf
      have S17 := Lib.hid (Stp.trans (S16.out) hs)
      have Z17 := Lib.hid (Blk.keep (Z16.out) hs (Blk.lt (Z16.out)))
      clear hs
      go_wp2_with fail
      refine hK.out _ _ (Key.out _ (S17.out)) (fun hHeld2 => ?_)
      clear hK K hHeld
      have hHeld := hHeld2
      clear hHeld2
      try simp only [Act.put, List.setIfInBounds_toArray, List.set_cons_zero, List.set_cons_succ]
      refine wpAnyH_ready (rs := [18]) (by kernel_rfl) (by simp) ?_
      refine AllReadyH.cons (o := { dst := some 36, op := Go.Op.call { callee := Go.Callee.value (Go.Operand.func 181), args := #[Go.Operand.tmp 33, Go.Operand.tmp 35], argTypes := #[9, 9] }, type := 9, pos := "parse.go:198", after := #[{ on := 15, ground := Go.Ground.data }, { on := 17, ground := Go.Ground.data }, { on := 10, ground := Go.Ground.chain }], guard := none }) rfl (fun K hK => ?_) AllReadyH.nil
      go_simp
      refine (whole_p s.link h.link M HM.out Hn2.out _).mono ?_
      rintro e u18 ⟨⟨hf, rfl⟩ | ⟨hf, rfl⟩, hs⟩
      rotate_left
      · exact ⟨rfl, nodeP_no (HE2.out hf) (Stp.trans H0.out (Stp.trans (S17.out) hs))⟩
      have HF2 := Lib.hid hf
      clear hf
      have S18 := Lib.hid (Stp.trans (S17.out) hs)
      have Z18 := Lib.hid (Blk.keep (Z17.out) hs (Blk.lt (Z17.out)))
      clear hs
      go_wp2_with fail
      refine hK.out _ _ (Key.out _ (S18.out)) (fun hHeld2 => ?_)
      clear hK K hHeld
      have hHeld := hHeld2
      clear hHeld2
      try simp only [Act.put, List.setIfInBounds_toArray, List.set_cons_zero, List.set_cons_succ]
      refine wpAnyH_take (i := 29) (oi := { dst := some 47, op := Go.Op.build 44 #[(0, Go.Operand.tmp 28), (1, Go.Operand.tmp 36), (2, Go.Operand.tmp 38), (3, Go.Operand.tmp 40), (4, Go.Operand.tmp 42), (5, Go.Operand.tmp 44), (6, Go.Operand.tmp 46)], type := 44, pos := "parse.go:196", after := #[{ on := 10, ground := Go.Ground.data }, { on := 18, ground := Go.Ground.data }, { on := 20, ground := Go.Ground.data }, { on := 22, ground := Go.Ground.data }, { on := 24, ground := Go.Ground.data }, { on := 26, ground := Go.Ground.data }, { on := 28, ground := Go.Ground.data }], guard := none }) (v := ?v29a19) rfl (by kernel_rfl) (by kernel_rfl) (by kernel_rfl) (fun _ _ _ h => h) (Or.inl ⟨by rfl, ?hy29a19⟩) (by assumption) ?rest29a19
      case hy29a19 => (intro w hSw; (try dsimp only at hSw); go_simp; try with_reducible rfl)
      try simp only [Act.put, List.setIfInBounds_toArray, List.set_cons_zero, List.set_cons_succ]
      obtain ⟨⟨z0, z1, z2, z3, z4, z5, z6, z7⟩, y0, y1, y2, y3, y4, y5, y6, y7⟩ := nzy (Z18.out)
      refine wpAnyH_ready (rs := [31]) (by kernel_rfl) (by simp) ?_
      refine AllReadyH.cons (o := { dst := none, op := Go.Op.store 44 (Go.Operand.tmp 5) (Go.Operand.tmp 47), type := 0, pos := "parse.go:196", after := #[{ on := 30, ground := Go.Ground.data }, { on := 29, ground := Go.Ground.data }, { on := 18, ground := Go.Ground.chain }, { on := 0, ground := Go.Ground.phase }, { on := 1, ground := Go.Ground.phase }, { on := 2, ground := Go.Ground.phase }, { on := 3, ground := Go.Ground.phase }, { on := 4, ground := Go.Ground.phase }, { on := 5, ground := Go.Ground.phase }, { on := 6, ground := Go.Ground.phase }, { on := 7, ground := Go.Ground.phase }, { on := 8, ground := Go.Ground.phase }, { on := 9, ground := Go.Ground.phase }, { on := 10, ground := Go.Ground.phase }, { on := 11, ground := Go.Ground.phase }, { on := 12, ground := Go.Ground.phase }, { on := 13, ground := Go.Ground.phase }, { on := 14, ground := Go.Ground.phase }, { on := 15, ground := Go.Ground.phase }, { on := 16, ground := Go.Ground.phase }, { on := 17, ground := Go.Ground.phase }, { on := 18, ground := Go.Ground.phase }, { on := 19, ground := Go.Ground.phase }, { on := 20, ground := Go.Ground.phase }, { on := 21, ground := Go.Ground.phase }, { on := 22, ground := Go.Ground.phase }, { on := 23, ground := Go.Ground.phase }, { on := 24, ground := Go.Ground.phase }, { on := 25, ground := Go.Ground.phase }, { on := 26, ground := Go.Ground.phase }, { on := 27, ground := Go.Ground.phase }, { on := 28, ground := Go.Ground.phase }, { on := 29, ground := Go.Ground.phase }, { on := 30, ground := Go.Ground.phase }], guard := none }) rfl (fun K hK => ?_) AllReadyH.nil
      go_simp
      refine hK.out _ _ (Key.out _ (filln_stp (g := w1.heap.size) (mkN h N M) (S18.out) (Nat.le_refl _))) (fun hHeld2 => ?_)
      clear hK K hHeld
      have hHeld := hHeld2
      clear hHeld2
      try simp only [Act.put, List.setIfInBounds_toArray, List.set_cons_zero, List.set_cons_succ]
      clear z0 z1 z2 z3 z4 z5 z6 z7 y0 y1 y2 y3 y4 y5 y6 y7
      refine wpAnyH_done (by kernel_rfl) ?_ _
      change Exit.then _ _ Exit.normal _ (fillN u18 w1.heap.size (mkN h N M))
      have hB := filln_blk (mkN h N M) (Z18.out)
      have hW := filln_stp (g := w1.heap.size) (mkN h N M) (S18.out) (Nat.le_refl _)
      generalize fillN u18 w1.heap.size (mkN h N M) = W7 at hB hW ⊢
      go_wp2_with fail
      go_meet
      exact ⟨_, rfl, Lib.hid hB, Lib.hid hW, HF1, HF2⟩

  case rest =>
    obtain ⟨b3, rfl, HB, HW, HF1, HF2⟩ := hcut
    have hs := HW.out
    obtain ⟨w2, hw2⟩ : ∃ z, wc = z := ⟨_, rfl⟩
    subst hw2
    replace H0 := Lib.hid (Stp.trans H0.out hs)
    replace Hb := Lib.hid (Hb.out.keep hs Hb.out.lt)
    replace Hr := Lib.hid (Hr.out.keep hs Hr.out.lt)

    have hp := HP.out HF1.out HF2.out
    have HK6 := Lib.hid (show mp = false → nodeE s h = 6 from fun e => nodeE_6 hp (by rw [Hmk.out]; exact Hmp.out.trans e))
    have HK2 := Lib.hid (show mp = true → (O = false ∨ 4000 < h.size ∨ (0 < h.size ∧ h.ty ≠ 48)) → nodeE s h = 2 from fun e ho => nodeE_2' hp (by rw [Hmk.out]; exact Hmp.out.trans e) (by rw [Hmk.out, HO.out]; exact ho))
    have HK0 := Lib.hid (show mp = true → ¬ (O = false ∨ 4000 < h.size ∨ (0 < h.size ∧ h.ty ≠ 48)) → nodeE s h = 0 from fun e ho => nodeE_0 hp (by rw [Hmk.out]; exact Hmp.out.trans e) (by rw [Hmk.out, HO.out]; exact ho))
    have hty := ty_48 h.ty
    have Hty := Lib.hid hty
    clear hs hp hty HP HE1 HE2 Key
    obtain ⟨n0, n1, n2, n3, n4, n5, n6, n7⟩ := mk_cells HB.out
    obtain ⟨c0, c1, c2, c3, c4, c5, c6, c7, c8, c9, c10⟩ := hd_cells Hb.out
    clear c0 c1 c2 c3 c4 c5 c7 c8 c9 c10
    by_cases g1 : h.size ≤ 4000
    · have k1 : decide (h.size ≤ 4000) = true := decide_eq_true g1
      by_cases g2 : h.size = 0
      · have k2 : (h.size == 0) = true := by rw [g2]; rfl
        have G := Lib.hid (show O = true → ¬ (O = false ∨ 4000 < h.size ∨ (0 < h.size ∧ h.ty ≠ 48)) from fun e hn => by rcases hn with hn | hn | hn; · rw [e] at hn; cases hn
                                                                                                                        · omega
                                                                                                                        · omega)
        clear g1 g2
        go_wp2_with (first
          | (go_at_call 78; (with_reducible refine (Path.may_s N _ Hn.out.path).mono ?_); rintro e w4 ⟨rfl, hs⟩; rw [Hmp.out]; replace H0 := Lib.hid (Stp.trans H0.out hs); replace Hb := Lib.hid (Hb.out.keep hs Hb.out.lt); replace Hr := Lib.hid (Hr.out.keep hs Hr.out.lt); replace HB := Lib.hid (HB.out.keep hs HB.out.lt); clear hs n0 n1 n2 n3 n4 n5 n6 n7 c6; obtain ⟨n0, n1, n2, n3, n4, n5, n6, n7⟩ := mk_cells HB.out; obtain ⟨c0, c1, c2, c3, c4, c5, c6, c7, c8, c9, c10⟩ := hd_cells Hb.out; clear c0 c1 c2 c3 c4 c5 c7 c8 c9 c10; rcases mp)
          | (go_at_call 54; (refine (tone_v (mkN h N M) _ (by rfl) Hn.out _).mono ?_); rintro e w5 ⟨rfl, hs⟩; rw [HO.out]; replace H0 := Lib.hid (Stp.trans H0.out hs); replace Hb := Lib.hid (Hb.out.keep hs Hb.out.lt); replace Hr := Lib.hid (Hr.out.keep hs Hr.out.lt); replace HB := Lib.hid (HB.out.keep hs HB.out.lt); clear hs n0 n1 n2 n3 n4 n5 n6 n7 c6; obtain ⟨n0, n1, n2, n3, n4, n5, n6, n7⟩ := mk_cells HB.out; obtain ⟨c0, c1, c2, c3, c4, c5, c6, c7, c8, c9, c10⟩ := hd_cells Hb.out; clear c0 c1 c2 c3 c4 c5 c7 c8 c9 c10; obtain ⟨⟨r0, r1, r2, r3, r4, r5, r6, r7⟩, f0, f1, f2, f3, f4, f5, f6, f7⟩ := nzy Hr.out; rcases O)
          | (go_at_call 102; (with_reducible refine (must_yes _ _).mono ?_); rintro e w6 ⟨rfl, rfl⟩)
          | (go_at_call 102; (with_reducible refine (must_no _ _).mono ?_); rintro e w6 ⟨rfl, rfl⟩))
        · exact ⟨rfl, nodeP_no (HK6.out (by simp)) H0.out⟩
        · exact ⟨rfl, nodeP_no (HK2.out (by simp) (by simp)) H0.out⟩
        · change bodyPost _ _ _ _ _ (fillN w6 (b1 + 1) (mkN h N M))
          have hB := filln_blk (mkN h N M) Hr.out
          have hW := filln_stp (mkN h N M) H0.out HB3.out
          generalize fillN w6 (b1 + 1) (mkN h N M) = W7 at hB hW ⊢
          clear r0 r1 r2 r3 r4 r5 r6 r7 f0 f1 f2 f3 f4 f5 f6 f7 n0 n1 n2 n3 n4 n5 n6 n7 c6
          obtain ⟨r0, r1, r2, r3, r4, r5, r6, r7⟩ := mk_cells hB
          have hP : NodeP s h w (.returned (nv (mkN h N M))) W7 := nodeP_go (HK0.out (by simp) (G.out (by simp))) Hmk.out hW
          clear hB hW
          refine bodyPost_ret (v := nv (mkN h N M)) ?_ rfl hP
          simp [results, Tryz.results164, go_sem, r0, r1, r2, r3, r4, r5, r6, r7]
      · have k2 : (h.size == 0) = false := beq_eq_false_iff_ne.2 g2
        by_cases g3 : h.ty = 48
        · have k3 : ((h.ty.toNat : Int) == 48) = true := by rw [Hty.out, decide_eq_true g3]
          have G := Lib.hid (show O = true → ¬ (O = false ∨ 4000 < h.size ∨ (0 < h.size ∧ h.ty ≠ 48)) from fun e hn => by rcases hn with hn | hn | hn; · rw [e] at hn; cases hn
                                                                                                                          · omega
                                                                                                                          · exact hn.2 g3)
          clear g1 g2 g3
          go_wp2_with (first
            | (go_at_call 78; (with_reducible refine (Path.may_s N _ Hn.out.path).mono ?_); rintro e w4 ⟨rfl, hs⟩; rw [Hmp.out]; replace H0 := Lib.hid (Stp.trans H0.out hs); replace Hb := Lib.hid (Hb.out.keep hs Hb.out.lt); replace Hr := Lib.hid (Hr.out.keep hs Hr.out.lt); replace HB := Lib.hid (HB.out.keep hs HB.out.lt); clear hs n0 n1 n2 n3 n4 n5 n6 n7 c6; obtain ⟨n0, n1, n2, n3, n4, n5, n6, n7⟩ := mk_cells HB.out; obtain ⟨c0, c1, c2, c3, c4, c5, c6, c7, c8, c9, c10⟩ := hd_cells Hb.out; clear c0 c1 c2 c3 c4 c5 c7 c8 c9 c10; rcases mp)
            | (go_at_call 54; (refine (tone_v (mkN h N M) _ (by rfl) Hn.out _).mono ?_); rintro e w5 ⟨rfl, hs⟩; rw [HO.out]; replace H0 := Lib.hid (Stp.trans H0.out hs); replace Hb := Lib.hid (Hb.out.keep hs Hb.out.lt); replace Hr := Lib.hid (Hr.out.keep hs Hr.out.lt); replace HB := Lib.hid (HB.out.keep hs HB.out.lt); clear hs n0 n1 n2 n3 n4 n5 n6 n7 c6; obtain ⟨n0, n1, n2, n3, n4, n5, n6, n7⟩ := mk_cells HB.out; obtain ⟨c0, c1, c2, c3, c4, c5, c6, c7, c8, c9, c10⟩ := hd_cells Hb.out; clear c0 c1 c2 c3 c4 c5 c7 c8 c9 c10; obtain ⟨⟨r0, r1, r2, r3, r4, r5, r6, r7⟩, f0, f1, f2, f3, f4, f5, f6, f7⟩ := nzy Hr.out; rcases O)
            | (go_at_call 102; (with_reducible refine (must_yes _ _).mono ?_); rintro e w6 ⟨rfl, rfl⟩)
            | (go_at_call 102; (with_reducible refine (must_no _ _).mono ?_); rintro e w6 ⟨rfl, rfl⟩))
          · exact ⟨rfl, nodeP_no (HK6.out (by simp)) H0.out⟩
          · exact ⟨rfl, nodeP_no (HK2.out (by simp) (by simp)) H0.out⟩
          · change bodyPost _ _ _ _ _ (fillN w6 (b1 + 1) (mkN h N M))
            have hB := filln_blk (mkN h N M) Hr.out
            have hW := filln_stp (mkN h N M) H0.out HB3.out
            generalize fillN w6 (b1 + 1) (mkN h N M) = W7 at hB hW ⊢
            clear r0 r1 r2 r3 r4 r5 r6 r7 f0 f1 f2 f3 f4 f5 f6 f7 n0 n1 n2 n3 n4 n5 n6 n7 c6
            obtain ⟨r0, r1, r2, r3, r4, r5, r6, r7⟩ := mk_cells hB
            have hP : NodeP s h w (.returned (nv (mkN h N M))) W7 := nodeP_go (HK0.out (by simp) (G.out (by simp))) Hmk.out hW
            clear hB hW
            refine bodyPost_ret (v := nv (mkN h N M)) ?_ rfl hP
            simp [results, Tryz.results164, go_sem, r0, r1, r2, r3, r4, r5, r6, r7]
        · have k3 : ((h.ty.toNat : Int) == 48) = false := by rw [Hty.out, decide_eq_false g3]
          have N2 := Lib.hid (show O = false ∨ 4000 < h.size ∨ (0 < h.size ∧ h.ty ≠ 48) from .inr (.inr ⟨by have := H0z.out; omega, g3⟩))
          clear g1 g2 g3
          go_wp2_with (first
            | (go_at_call 78; (with_reducible refine (Path.may_s N _ Hn.out.path).mono ?_); rintro e w4 ⟨rfl, hs⟩; rw [Hmp.out]; replace H0 := Lib.hid (Stp.trans H0.out hs); replace Hb := Lib.hid (Hb.out.keep hs Hb.out.lt); replace Hr := Lib.hid (Hr.out.keep hs Hr.out.lt); replace HB := Lib.hid (HB.out.keep hs HB.out.lt); clear hs n0 n1 n2 n3 n4 n5 n6 n7 c6; obtain ⟨n0, n1, n2, n3, n4, n5, n6, n7⟩ := mk_cells HB.out; obtain ⟨c0, c1, c2, c3, c4, c5, c6, c7, c8, c9, c10⟩ := hd_cells Hb.out; clear c0 c1 c2 c3 c4 c5 c7 c8 c9 c10; rcases mp)
            | (go_at_call 54; (refine (tone_v (mkN h N M) _ (by rfl) Hn.out _).mono ?_); rintro e w5 ⟨rfl, hs⟩; rw [HO.out]; replace H0 := Lib.hid (Stp.trans H0.out hs); replace Hb := Lib.hid (Hb.out.keep hs Hb.out.lt); replace Hr := Lib.hid (Hr.out.keep hs Hr.out.lt); replace HB := Lib.hid (HB.out.keep hs HB.out.lt); clear hs n0 n1 n2 n3 n4 n5 n6 n7 c6; obtain ⟨n0, n1, n2, n3, n4, n5, n6, n7⟩ := mk_cells HB.out; obtain ⟨c0, c1, c2, c3, c4, c5, c6, c7, c8, c9, c10⟩ := hd_cells Hb.out; clear c0 c1 c2 c3 c4 c5 c7 c8 c9 c10; obtain ⟨⟨r0, r1, r2, r3, r4, r5, r6, r7⟩, f0, f1, f2, f3, f4, f5, f6, f7⟩ := nzy Hr.out; rcases O)
            | (go_at_call 102; (with_reducible refine (must_yes _ _).mono ?_); rintro e w6 ⟨rfl, rfl⟩)
            | (go_at_call 102; (with_reducible refine (must_no _ _).mono ?_); rintro e w6 ⟨rfl, rfl⟩))
          · exact ⟨rfl, nodeP_no (HK6.out (by simp)) H0.out⟩
          · exact ⟨rfl, nodeP_no (HK2.out (by simp) (by simp)) H0.out⟩
          · exact ⟨rfl, nodeP_no (HK2.out (by simp) (by first | exact N2.out | simpa using N2.out)) H0.out⟩
    · have k1 : decide (h.size ≤ 4000) = false := decide_eq_false g1
      have N2 := Lib.hid (show O = false ∨ 4000 < h.size ∨ (0 < h.size ∧ h.ty ≠ 48) from .inr (.inl (by omega)))
      clear g1
      go_wp2_with (first
        | (go_at_call 78; (with_reducible refine (Path.may_s N _ Hn.out.path).mono ?_); rintro e w4 ⟨rfl, hs⟩; rw [Hmp.out]; replace H0 := Lib.hid (Stp.trans H0.out hs); replace Hb := Lib.hid (Hb.out.keep hs Hb.out.lt); replace Hr := Lib.hid (Hr.out.keep hs Hr.out.lt); replace HB := Lib.hid (HB.out.keep hs HB.out.lt); clear hs n0 n1 n2 n3 n4 n5 n6 n7 c6; obtain ⟨n0, n1, n2, n3, n4, n5, n6, n7⟩ := mk_cells HB.out; obtain ⟨c0, c1, c2, c3, c4, c5, c6, c7, c8, c9, c10⟩ := hd_cells Hb.out; clear c0 c1 c2 c3 c4 c5 c7 c8 c9 c10; rcases mp)
        | (go_at_call 54; (refine (tone_v (mkN h N M) _ (by rfl) Hn.out _).mono ?_); rintro e w5 ⟨rfl, hs⟩; rw [HO.out]; replace H0 := Lib.hid (Stp.trans H0.out hs); replace Hb := Lib.hid (Hb.out.keep hs Hb.out.lt); replace Hr := Lib.hid (Hr.out.keep hs Hr.out.lt); replace HB := Lib.hid (HB.out.keep hs HB.out.lt); clear hs n0 n1 n2 n3 n4 n5 n6 n7 c6; obtain ⟨n0, n1, n2, n3, n4, n5, n6, n7⟩ := mk_cells HB.out; obtain ⟨c0, c1, c2, c3, c4, c5, c6, c7, c8, c9, c10⟩ := hd_cells Hb.out; clear c0 c1 c2 c3 c4 c5 c7 c8 c9 c10; obtain ⟨⟨r0, r1, r2, r3, r4, r5, r6, r7⟩, f0, f1, f2, f3, f4, f5, f6, f7⟩ := nzy Hr.out; rcases O)
        | (go_at_call 102; (with_reducible refine (must_yes _ _).mono ?_); rintro e w6 ⟨rfl, rfl⟩)
        | (go_at_call 102; (with_reducible refine (must_no _ _).mono ?_); rintro e w6 ⟨rfl, rfl⟩))
      · exact ⟨rfl, nodeP_no (HK6.out (by simp)) H0.out⟩
      · exact ⟨rfl, nodeP_no (HK2.out (by simp) (by simp)) H0.out⟩
      · exact ⟨rfl, nodeP_no (HK2.out (by simp) (by first | exact N2.out | simpa using N2.out)) H0.out⟩
end Go.Proofs.YthjdejjejlhioaaGreatDoor.Parse
