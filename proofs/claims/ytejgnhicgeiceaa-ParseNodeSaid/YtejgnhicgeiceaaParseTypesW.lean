/-
  The walk of the statement ParseTypes over package parse's contracts: the statement itself is proved in a text of its own.
-/
import Derived.Test.YtejgnhicgeiceaaParseStaysW
namespace Go.Proofs.Ytejgnhicgeiceaa.Parse
open Go.RowKit Go.Proofs.Ytejgnhicgeiceaa.Str Go.Proofs.Ytejgnhicgeiceaa.Base Go.Proofs.Ytejgnhicgeiceaa.Node Go.Proofs.Ytejgnhicgeiceaa.Long Go.Proofs.Ytejgnhicgeiceaa.Entry
open Go.Proofs.Ytejgnhicgeiceaa.Tree (oneB)

/-- What the walks ask of package entry. -/
structure PutI : Prop where
  put : ∀ (n : Nd) (v : Value), v = nv n → SmallN n → ∀ w : World, Calls Try.prog 15 #[v] w fun e w' => ∃ A cap, e = .returned (.tuple #[.slice A (putE n).length cap, .bool (oneB n)]) ∧ RdL w' A cap (putE n) ∧ Stp w w'
theorem long_split {p : L} (hl : 256 < p.length) : PathM.splB p = false := by
  cases e : PathM.splB p
  · rfl
  · obtain ⟨-, e1, e2, e3, -⟩ := PathM.split_facts e
    have := congrArg List.length e1
    unfold PathM.joinV at this
    split at this
    · omega
    · simp only [List.length_append, List.length_cons] at this
      omega
theorem types_step {s : St} {n : Nd} (hp : s.phase = 0) (hne : s.name ≠ []) (hm : mayS s = true) (ho : oneB n = true) (hpl : 256 < n.path.length) (hll : n.link.length ≤ 100) : ∃ b, (putE n)[0]? = some b ∧ b.length = 512 ∧ stepS s b = (s, [], 5) := by
  have hN : needN n = true := by
    unfold needN
    rw [one_path ho, long_split hpl]
    rfl
  have hL : needL n = false := by unfold needL; exact decide_eq_false (by omega)
  have hk := name_ok hN
  obtain ⟨m1, m2, m3⟩ := llH_ok hk
  refine ⟨Head.blk (llH 76 n.path), ?_, Head.blk_length m1 m2, ?_⟩
  · rw [putE_first ho]
    unfold firstH
    rw [if_neg (by simp [hL]), if_pos hN]
  · rw [step_head hm hp m1 m2, if_pos]
    unfold typeB
    rw [m3]
    simp [hne]

theorem rda_ad {w : World} {A : Option Addr} {c : Nat} {xs : List Value} (o : Obj) (h : RdA w.drew A c xs) : RdA (w.alloc o).drew A c xs := h.keep (Stp.alloc (Stp.refl w.drew) o)
theorem stp_ad {v w : World} {o : Obj} (h : Stp v w.drew) : Stp v (w.alloc o).drew := Stp.alloc h o
theorem blk_ad (w : World) (t : TypeId) (cs : Array Value) {X : World} (hs : Stp (w.alloc (.cells cs t)).drew X) : Blk X w.heap.size t cs := Blk.keep (show Blk (w.alloc (.cells cs t)).drew w.heap.size t cs from Blk.new w t cs) hs (Blk.lt (Blk.new w t cs))
theorem blk_ad2 {w X : World} {g : Nat} {t : TypeId} {cs : Array Value} (o : Obj) (h : Blk w.drew g t cs) (hs : Stp (w.alloc o).drew X) : Blk X g t cs := Blk.keep (show Blk (w.alloc o).drew g t cs from Blk.alloc h o) hs (Blk.lt (Blk.alloc h o))
theorem st_free {w : World} {g : Nat} {t : TypeId} {cs : Array Value} (hb : Blk w g t cs) :
    w.frozen? ⟨g, 0, none⟩ = false ∧ w.frozen? ⟨g, 1, none⟩ = false ∧ w.frozen? ⟨g, 2, none⟩ = false ∧ w.frozen? ⟨g, 3, none⟩ = false ∧ w.frozen? ⟨g, 4, none⟩ = false ∧ w.frozen? ⟨g, 5, none⟩ = false ∧ w.frozen? ⟨g, 6, none⟩ = false ∧ w.frozen? ⟨g, 7, none⟩ = false ∧ w.frozen? ⟨g, 8, none⟩ = false ∧ w.frozen? ⟨g, 9, none⟩ = false ∧ w.frozen? ⟨g, 10, none⟩ = false ∧ w.frozen? ⟨g, 11, none⟩ = false ∧ w.frozen? ⟨g, 12, none⟩ = false ∧ w.frozen? ⟨g, 13, none⟩ = false :=
  ⟨hb.free 0, hb.free 1, hb.free 2, hb.free 3, hb.free 4, hb.free 5, hb.free 6, hb.free 7, hb.free 8, hb.free 9, hb.free 10, hb.free 11, hb.free 12, hb.free 13⟩

/-- A state's cells, stored one behind another. -/
abbrev fillS (w : World) (g : Nat) (s : St) : World := ((((((((((((((w.setCell ⟨g, 0, none⟩ (.int .i64 s.phase)).setCell ⟨g, 1, none⟩ (.string ⟨s.node.path.toArray⟩)).setCell ⟨g, 2, none⟩ (.string ⟨s.node.link.toArray⟩)).setCell ⟨g, 3, none⟩ (.int .u8 (s.node.kind.toNat : Int))).setCell ⟨g, 4, none⟩ (.int .i64 s.node.mode)).setCell ⟨g, 5, none⟩ (.int .i64 s.node.uid)).setCell ⟨g, 6, none⟩ (.int .i64 s.node.gid)).setCell ⟨g, 7, none⟩ (.int .i64 s.node.time)).setCell ⟨g, 8, none⟩ (.string ⟨s.node.data.toArray⟩)).setCell ⟨g, 9, none⟩ (.int .i64 s.size)).setCell ⟨g, 10, none⟩ (.int .i64 s.left)).setCell ⟨g, 11, none⟩ (.string ⟨s.text.toArray⟩)).setCell ⟨g, 12, none⟩ (.string ⟨s.name.toArray⟩)).setCell ⟨g, 13, none⟩ (.string ⟨s.link.toArray⟩))
theorem fills_blk {w : World} {g : Nat} {t : TypeId} {z : St} (s : St) (h : Blk w g t (scells z)) : Blk (fillS w g s) g t (scells s) := fillC_all (scells s).toList h rfl
theorem fills_stp {w w1 : World} {g : Nat} (s : St) (h : Stp w w1) (hg : w.heap.size ≤ g) : Stp w (fillS w1 g s) := fillC_stp hg (scells s).toList 0 w1 h
theorem put_pos' {n : Nd} (h : oneB n = true) : 0 < (putE n).length := by rw [putE_length h]; omega
set_option maxRecDepth 100000 in
set_option maxHeartbeats 4000000 in
theorem types_a (I : ParseI) (E : PutI) (s : St) (hs : SmallS s) (n : Nd) (hn : SmallN n) (w : World) (hgo : fewS s = true ∧ fewN n = true ∧ s.phase = 0 ∧ s.name ≠ [] ∧ mayS s = true ∧ oneB n = true ∧ 256 < n.path.length ∧ n.link.length ≤ 100) :
    Calls Try.prog 9 #[sv s, nv n] w fun e w' => e = .returned (.bool true) ∧ Stp w w' := by
  have h0 : Stp w ((w.alloc (.cells (scells s) 25)).alloc (.cells (ncells n) 23)) := Stp.alloc (Stp.alloc (Stp.refl w) _) _
  have Hb := Lib.hid ((Blk.new w 25 (scells s)).alloc (.cells (ncells n) 23))
  have Hd := Lib.hid (Blk.new (w.alloc (.cells (scells s) 25)) 23 (ncells n))
  rw [World.size_alloc] at Hd
  obtain ⟨q0, q1, q2, q3, q4, q5, q6, q7, q8, q9, q10, q11, q12, q13⟩ := st_cells Hb.out
  obtain ⟨p0, p1, p2, p3, p4, p5, p6, p7⟩ := nd_cells Hd.out
  have HI := Lib.hid I
  have HE := Lib.hid E
  have Hs := Lib.hid hs
  have Hn := Lib.hid hn
  obtain ⟨F, hF⟩ : ∃ x, fewS s = x := ⟨_, rfl⟩
  obtain ⟨G, hG⟩ : ∃ x, fewN n = x := ⟨_, rfl⟩
  obtain ⟨M, hM⟩ : ∃ x, mayS s = x := ⟨_, rfl⟩
  obtain ⟨O, hO⟩ : ∃ x, oneB n = x := ⟨_, rfl⟩
  obtain ⟨P, hP⟩ : ∃ x, (putE n).length = x := ⟨_, rfl⟩
  have HF := Lib.hid hF
  have HG := Lib.hid hG
  have HM := Lib.hid hM
  have HO := Lib.hid hO
  have HP := Lib.hid hP
  rw [hF, hG, hM, hO] at hgo
  clear I E hs hn hF hG hM hO hP
  obtain ⟨rfl, rfl, hp, hne, rfl, rfl, hpl, hll⟩ := hgo
  have g1 : (s.phase != 0) = false := by rw [hp]; rfl
  have g2 : (s.name == []) = false := by rw [beq_eq_false_iff_ne]; exact hne
  obtain ⟨b0, hb0, hb5, hst⟩ := types_step hp hne HM.out HO.out hpl hll
  have g3 : ¬ (n.path.length : Int) ≤ 256 := by omega
  have g4 : decide ((n.path.length : Int) ≤ 256) = false := decide_eq_false g3
  have g5 : ¬ (100 : Int) < (n.link.length : Int) := by omega
  have g6 : decide ((100 : Int) < (n.link.length : Int)) = false := decide_eq_false g5
  have hPpos : 0 < P := by rw [← HP.out]; exact (List.getElem?_eq_some_iff.1 hb0).1
  have g7 : ((P : Int) == 0) = false := by rw [beq_eq_false_iff_ne]; omega
  have g8 : (0 : Int) < (P : Int) := by omega
  have heq : ∀ w, (Op.equalIn 10000 25 (sv s) (sv s)).run Try.prog w = .ok true w := fun w => by rw [eq_states]; simp
  have hng := eq_states_free
  have Hl0 := Lib.hid (show ([] : List Evt).length = 0 from rfl)
  have Hb0 := Lib.hid hb0
  have Hb5 := Lib.hid hb5
  have Hst := Lib.hid hst
  clear hp hne hpl hll hb0 hb5 hst g3 g5
  go_enter Try.func9, Try.ntmps9
  go_wp2_with (first
      | (go_at_call 10; (with_reducible refine (awake_s HI.out _).mono ?_); rintro e w1 ⟨rfl, hs⟩; replace Hb := Lib.hid (Hb.out.keep hs Hb.out.lt); replace Hd := Lib.hid (Hd.out.keep hs Hd.out.lt); replace h0 := Stp.trans h0 hs; clear hs q0 q1 q2 q3 q4 q5 q6 q7 q8 q9 q10 q11 q12 q13 p0 p1 p2 p3 p4 p5 p6 p7; obtain ⟨q0, q1, q2, q3, q4, q5, q6, q7, q8, q9, q10, q11, q12, q13⟩ := st_cells Hb.out; obtain ⟨p0, p1, p2, p3, p4, p5, p6, p7⟩ := nd_cells Hd.out)
      | (go_at_call 11; (with_reducible refine (fews_s s _).mono ?_); rintro e w2 ⟨rfl, hs⟩; rw [HF.out]; replace Hb := Lib.hid (Hb.out.keep hs Hb.out.lt); replace Hd := Lib.hid (Hd.out.keep hs Hd.out.lt); replace h0 := Stp.trans h0 hs; clear hs q0 q1 q2 q3 q4 q5 q6 q7 q8 q9 q10 q11 q12 q13 p0 p1 p2 p3 p4 p5 p6 p7; obtain ⟨q0, q1, q2, q3, q4, q5, q6, q7, q8, q9, q10, q11, q12, q13⟩ := st_cells Hb.out; obtain ⟨p0, p1, p2, p3, p4, p5, p6, p7⟩ := nd_cells Hd.out)
      | (go_at_call 14; (with_reducible refine (Long.few_s n _).mono ?_); rintro e w3 ⟨rfl, hs⟩; rw [HG.out]; replace Hb := Lib.hid (Hb.out.keep hs Hb.out.lt); replace Hd := Lib.hid (Hd.out.keep hs Hd.out.lt); replace h0 := Stp.trans h0 hs; clear hs q0 q1 q2 q3 q4 q5 q6 q7 q8 q9 q10 q11 q12 q13 p0 p1 p2 p3 p4 p5 p6 p7; obtain ⟨q0, q1, q2, q3, q4, q5, q6, q7, q8, q9, q10, q11, q12, q13⟩ := st_cells Hb.out; obtain ⟨p0, p1, p2, p3, p4, p5, p6, p7⟩ := nd_cells Hd.out)
      | (go_at_call 13; (with_reducible refine (HI.out.may s _ rfl Hs.out _).mono ?_); rintro e w4 ⟨rfl, hs⟩; rw [HM.out]; replace Hb := Lib.hid (Hb.out.keep hs Hb.out.lt); replace Hd := Lib.hid (Hd.out.keep hs Hd.out.lt); replace h0 := Stp.trans h0 hs; clear hs q0 q1 q2 q3 q4 q5 q6 q7 q8 q9 q10 q11 q12 q13 p0 p1 p2 p3 p4 p5 p6 p7; obtain ⟨q0, q1, q2, q3, q4, q5, q6, q7, q8, q9, q10, q11, q12, q13⟩ := st_cells Hb.out; obtain ⟨p0, p1, p2, p3, p4, p5, p6, p7⟩ := nd_cells Hd.out)
      | (go_at_call 15; (with_reducible refine (HE.out.put n _ rfl Hn.out _).mono ?_); rintro e w5 ⟨B5, d5, rfl, hr, hs⟩; rw [HO.out, HP.out]; have Hr := Lib.hid (show RdL w5 B5 d5 (putE n) from hr); clear hr; replace Hb := Lib.hid (Hb.out.keep hs Hb.out.lt); replace Hd := Lib.hid (Hd.out.keep hs Hd.out.lt); replace h0 := Stp.trans h0 hs; clear hs q0 q1 q2 q3 q4 q5 q6 q7 q8 q9 q10 q11 q12 q13 p0 p1 p2 p3 p4 p5 p6 p7; obtain ⟨q0, q1, q2, q3, q4, q5, q6, q7, q8, q9, q10, q11, q12, q13⟩ := st_cells Hb.out; obtain ⟨p0, p1, p2, p3, p4, p5, p6, p7⟩ := nd_cells Hd.out))
  obtain ⟨bb, oo, A1, c1, rfl, x0, hr0⟩ := Hr.out.at_ Hb0.out
  rw [Hb5.out, Nat.add_zero] at x0
  have hbb : bb < w5.heap.size := World.block_lt_of_cell? _ _ x0
  have key : ∀ W, Stp w5 W → (Stp w5 W ∧ (W.cell? ⟨w.heap.size, 0, none⟩ = some (.int .i64 s.phase) ∧ W.cell? ⟨w.heap.size, 1, none⟩ = some (.string ⟨s.node.path.toArray⟩) ∧ W.cell? ⟨w.heap.size, 2, none⟩ = some (.string ⟨s.node.link.toArray⟩) ∧ W.cell? ⟨w.heap.size, 3, none⟩ = some (.int .u8 (s.node.kind.toNat : Int)) ∧ W.cell? ⟨w.heap.size, 4, none⟩ = some (.int .i64 s.node.mode) ∧ W.cell? ⟨w.heap.size, 5, none⟩ = some (.int .i64 s.node.uid) ∧ W.cell? ⟨w.heap.size, 6, none⟩ = some (.int .i64 s.node.gid) ∧ W.cell? ⟨w.heap.size, 7, none⟩ = some (.int .i64 s.node.time) ∧ W.cell? ⟨w.heap.size, 8, none⟩ = some (.string ⟨s.node.data.toArray⟩) ∧ W.cell? ⟨w.heap.size, 9, none⟩ = some (.int .i64 s.size) ∧ W.cell? ⟨w.heap.size, 10, none⟩ = some (.int .i64 s.left) ∧ W.cell? ⟨w.heap.size, 11, none⟩ = some (.string ⟨s.text.toArray⟩) ∧ W.cell? ⟨w.heap.size, 12, none⟩ = some (.string ⟨s.name.toArray⟩) ∧ W.cell? ⟨w.heap.size, 13, none⟩ = some (.string ⟨s.link.toArray⟩)) ∧ W.cell? ⟨bb, oo, none⟩ = some (.slice A1 512 c1)) := fun W hW => ⟨hW, st_cells (Hb.out.keep hW Hb.out.lt), (hW.cell (p := ⟨bb, oo, none⟩) hbb).trans x0⟩
  have Key := Lib.hid key
  have Hr0 := Lib.hid hr0
  have H0 := Lib.hid h0
  have Hbb := Lib.hid hbb
  clear q0 q1 q2 q3 q4 q5 q6 q7 q8 q9 q10 q11 q12 q13 p0 p1 p2 p3 p4 p5 p6 p7 key hr0 x0 hbb h0
  refine wp_region_held_drew (S := fun W : World => Stp w5 W ∧ (W.cell? ⟨w.heap.size, 0, none⟩ = some (.int .i64 s.phase) ∧ W.cell? ⟨w.heap.size, 1, none⟩ = some (.string ⟨s.node.path.toArray⟩) ∧ W.cell? ⟨w.heap.size, 2, none⟩ = some (.string ⟨s.node.link.toArray⟩) ∧ W.cell? ⟨w.heap.size, 3, none⟩ = some (.int .u8 (s.node.kind.toNat : Int)) ∧ W.cell? ⟨w.heap.size, 4, none⟩ = some (.int .i64 s.node.mode) ∧ W.cell? ⟨w.heap.size, 5, none⟩ = some (.int .i64 s.node.uid) ∧ W.cell? ⟨w.heap.size, 6, none⟩ = some (.int .i64 s.node.gid) ∧ W.cell? ⟨w.heap.size, 7, none⟩ = some (.int .i64 s.node.time) ∧ W.cell? ⟨w.heap.size, 8, none⟩ = some (.string ⟨s.node.data.toArray⟩) ∧ W.cell? ⟨w.heap.size, 9, none⟩ = some (.int .i64 s.size) ∧ W.cell? ⟨w.heap.size, 10, none⟩ = some (.int .i64 s.left) ∧ W.cell? ⟨w.heap.size, 11, none⟩ = some (.string ⟨s.text.toArray⟩) ∧ W.cell? ⟨w.heap.size, 12, none⟩ = some (.string ⟨s.name.toArray⟩) ∧ W.cell? ⟨w.heap.size, 13, none⟩ = some (.string ⟨s.link.toArray⟩)) ∧ W.cell? ⟨bb, oo, none⟩ = some (.slice A1 512 c1)) (by kernel_rfl) (Key.out _ (Head.stp_drew (Stp.refl _))) (fun hHeld => ?_)
  refine wpAnyH_take (i := 0) (oi := { dst := some 69, op := Go.Op.load 25 (Go.Operand.tmp 2), type := 25, pos := "more.go:55", after := #[], guard := none }) (v := ?v0a) rfl (by kernel_rfl) (by kernel_rfl) (by kernel_rfl) (fun _ _ _ h => h) (Or.inl ⟨by rfl, ?hy0a⟩) (by assumption) ?rest0a
  case hy0a => (intro w hSw; (try dsimp only at hSw); go_simp; try with_reducible rfl)
  try simp only [Act.put, List.setIfInBounds_toArray, List.set_cons_zero, List.set_cons_succ]
  refine wpAnyH_take (i := 1) (oi := { dst := some 70, op := Go.Op.move (Go.Operand.tmp 8), type := 35, pos := "more.go:55", after := #[], guard := none }) (v := ?v1a) rfl (by kernel_rfl) (by kernel_rfl) (by kernel_rfl) (fun _ _ _ h => h) (Or.inl ⟨by rfl, ?hy1a⟩) (by assumption) ?rest1a
  case hy1a => (intro w hSw; (try dsimp only at hSw); go_simp; try with_reducible rfl)
  try simp only [Act.put, List.setIfInBounds_toArray, List.set_cons_zero, List.set_cons_succ]
  refine wpAnyH_take (i := 2) (oi := { dst := some 71, op := Go.Op.indexAddr 35 (Go.Operand.tmp 70) (Go.Operand.const (Go.Value.int Go.IntKind.i64 0)), type := 0, pos := "more.go:55", after := #[{ on := 1, ground := Go.Ground.data }], guard := none }) (v := ?v2a) rfl (by kernel_rfl) (by kernel_rfl) (by kernel_rfl) (fun _ _ _ h => h) (Or.inl ⟨by rfl, ?hy2a⟩) (by assumption) ?rest2a
  case hy2a => (intro w hSw; (try dsimp only at hSw); go_simp; try with_reducible rfl)
  try simp only [Act.put, List.setIfInBounds_toArray, List.set_cons_zero, List.set_cons_succ]
  refine wpAnyH_take (i := 3) (oi := { dst := some 72, op := Go.Op.load 26 (Go.Operand.tmp 71), type := 26, pos := "more.go:55", after := #[{ on := 2, ground := Go.Ground.data }], guard := none }) (v := ?v3a) rfl (by kernel_rfl) (by kernel_rfl) (by kernel_rfl) (fun _ _ _ h => h) (Or.inl ⟨by rfl, ?hy3a⟩) (by assumption) ?rest3a
  case hy3a => (intro w hSw; (try dsimp only at hSw); go_simp; try with_reducible rfl)
  try simp only [Act.put, List.setIfInBounds_toArray, List.set_cons_zero, List.set_cons_succ]
  refine wpAnyH_ready (rs := [4, 9]) (by kernel_rfl) (by simp) ?_
  refine AllReadyH.cons (o := { dst := some 73, op := Go.Op.call { callee := Go.Callee.value (Go.Operand.func 12), args := #[Go.Operand.tmp 69, Go.Operand.tmp 72], argTypes := #[25, 26] }, type := 31, pos := "more.go:55", after := #[{ on := 0, ground := Go.Ground.data }, { on := 3, ground := Go.Ground.data }], guard := none }) rfl (fun K hK => ?wayc) (AllReadyH.cons (o := { dst := some 10, op := Go.Op.alloc 25, type := 0, pos := "more.go:55", after := #[], guard := none }) rfl (fun K hK => ?waya) AllReadyH.nil)
  case wayc =>
    go_simp
    refine (HI.out.step s _ rfl Hs.out b0 512 Hb5.out (by omega) s [] 0 5 Hst.out Hl0.out _ _ _ (Hr0.out.keep (Head.stp_drew (Stp.refl w5)))).mono ?_
    rintro e w6 ⟨B6, d6, rfl, -, hs⟩
    have H6 := Lib.hid (Stp.trans (Head.stp_drew (Stp.refl w5)) hs)
    clear hs
    go_wp2_with fail
    refine hK.out _ _ (Key.out _ (H6.out)) (fun hHeld2 => ?_)
    clear hK K hHeld
    have hHeld := hHeld2
    clear hHeld2
    try simp only [Act.put, List.setIfInBounds_toArray, List.set_cons_zero, List.set_cons_succ]
    refine wpAnyH_take (i := 5) (oi := { dst := some 68, op := Go.Op.move (Go.Operand.tmp 73), type := 31, pos := "more.go:55", after := #[{ on := 4, ground := Go.Ground.data }], guard := none }) (v := ?v5c) rfl (by kernel_rfl) (by kernel_rfl) (by kernel_rfl) (fun _ _ _ h => h) (Or.inl ⟨by rfl, ?hy5c⟩) (by assumption) ?rest5c
    case hy5c => (intro w hSw; (try dsimp only at hSw); go_simp; try with_reducible rfl)
    try simp only [Act.put, List.setIfInBounds_toArray, List.set_cons_zero, List.set_cons_succ]
    refine wpAnyH_take (i := 6) (oi := { dst := some 74, op := Go.Op.extract (Go.Operand.tmp 68) 0, type := 25, pos := "more.go:55", after := #[{ on := 5, ground := Go.Ground.data }], guard := none }) (v := ?v6c) rfl (by kernel_rfl) (by kernel_rfl) (by kernel_rfl) (fun _ _ _ h => h) (Or.inl ⟨by rfl, ?hy6c⟩) (by assumption) ?rest6c
    case hy6c => (intro w hSw; (try dsimp only at hSw); go_simp; try with_reducible rfl)
    try simp only [Act.put, List.setIfInBounds_toArray, List.set_cons_zero, List.set_cons_succ]
    refine wpAnyH_take (i := 7) (oi := { dst := some 75, op := Go.Op.extract (Go.Operand.tmp 68) 1, type := 29, pos := "more.go:55", after := #[{ on := 5, ground := Go.Ground.data }, { on := 10, ground := Go.Ground.gcOnly Go.Departure.lateStores }], guard := none }) (v := ?v7c) rfl (by kernel_rfl) (by kernel_rfl) (by kernel_rfl) (fun _ _ _ h => h) (Or.inl ⟨by rfl, ?hy7c⟩) (by assumption) ?rest7c
    case hy7c => (intro w hSw; (try dsimp only at hSw); go_simp; try with_reducible rfl)
    try simp only [Act.put, List.setIfInBounds_toArray, List.set_cons_zero, List.set_cons_succ]
    refine wpAnyH_take (i := 8) (oi := { dst := some 76, op := Go.Op.extract (Go.Operand.tmp 68) 2, type := 30, pos := "more.go:55", after := #[{ on := 5, ground := Go.Ground.data }, { on := 11, ground := Go.Ground.gcOnly Go.Departure.lateStores }], guard := none }) (v := ?v8c) rfl (by kernel_rfl) (by kernel_rfl) (by kernel_rfl) (fun _ _ _ h => h) (Or.inl ⟨by rfl, ?hy8c⟩) (by assumption) ?rest8c
    case hy8c => (intro w hSw; (try dsimp only at hSw); go_simp; try with_reducible rfl)
    try simp only [Act.put, List.setIfInBounds_toArray, List.set_cons_zero, List.set_cons_succ]
    refine wpAnyH_ready (rs := [9]) (by kernel_rfl) (by simp) ?_
    refine AllReadyH.cons (o := { dst := some 10, op := Go.Op.alloc 25, type := 0, pos := "more.go:55", after := #[], guard := none }) rfl (fun K hK => ?_) AllReadyH.nil
    go_simp
    refine hK.out _ _ (Key.out _ (Stp.alloc H6.out _)) (fun hHeld2 => ?_)
    clear hK K hHeld
    have hHeld := hHeld2
    clear hHeld2
    try simp only [Act.put, List.setIfInBounds_toArray, List.set_cons_zero, List.set_cons_succ]
    refine wpAnyH_ready (rs := [10]) (by kernel_rfl) (by simp) ?_
    refine AllReadyH.cons (o := { dst := none, op := Go.Op.store 25 (Go.Operand.tmp 10) (Go.Operand.tmp 74), type := 0, pos := "more.go:55", after := #[{ on := 9, ground := Go.Ground.data }, { on := 6, ground := Go.Ground.data }, { on := 4, ground := Go.Ground.chain }, { on := 0, ground := Go.Ground.phase }, { on := 1, ground := Go.Ground.phase }, { on := 2, ground := Go.Ground.phase }, { on := 3, ground := Go.Ground.phase }, { on := 4, ground := Go.Ground.phase }, { on := 5, ground := Go.Ground.phase }, { on := 6, ground := Go.Ground.phase }, { on := 7, ground := Go.Ground.textOnly Go.Departure.lateStores }, { on := 8, ground := Go.Ground.textOnly Go.Departure.lateStores }, { on := 9, ground := Go.Ground.phase }], guard := none }) rfl (fun K hK => ?_) AllReadyH.nil
    go_simp
    refine hK.out _ _ (Key.out _ (Stp.alloc H6.out _)) (fun hHeld2 => ?_)
    clear hK K hHeld
    have hHeld := hHeld2
    clear hHeld2
    try simp only [Act.put, List.setIfInBounds_toArray, List.set_cons_zero, List.set_cons_succ]
    refine wpAnyH_take (i := 11) (oi := { dst := some 11, op := Go.Op.assign (Go.Operand.tmp 75), type := 29, pos := "more.go:55", after := #[{ on := 7, ground := Go.Ground.data }, { on := 10, ground := Go.Ground.chain }, { on := 0, ground := Go.Ground.phase }, { on := 1, ground := Go.Ground.phase }, { on := 2, ground := Go.Ground.phase }, { on := 3, ground := Go.Ground.phase }, { on := 4, ground := Go.Ground.phase }, { on := 5, ground := Go.Ground.phase }, { on := 6, ground := Go.Ground.phase }, { on := 7, ground := Go.Ground.phase }, { on := 8, ground := Go.Ground.textOnly Go.Departure.lateStores }, { on := 9, ground := Go.Ground.phase }, { on := 10, ground := Go.Ground.phase }], guard := none }) (v := ?v11c) rfl (by kernel_rfl) (by kernel_rfl) (by kernel_rfl) (fun _ _ _ h => h) (Or.inl ⟨by rfl, ?hy11c⟩) (by assumption) ?rest11c
    case hy11c => (intro w hSw; (try dsimp only at hSw); go_simp; try with_reducible rfl)
    try simp only [Act.put, List.setIfInBounds_toArray, List.set_cons_zero, List.set_cons_succ]
    refine wpAnyH_take (i := 12) (oi := { dst := some 12, op := Go.Op.assign (Go.Operand.tmp 76), type := 30, pos := "more.go:55", after := #[{ on := 8, ground := Go.Ground.data }, { on := 11, ground := Go.Ground.chain }, { on := 0, ground := Go.Ground.phase }, { on := 1, ground := Go.Ground.phase }, { on := 2, ground := Go.Ground.phase }, { on := 3, ground := Go.Ground.phase }, { on := 4, ground := Go.Ground.phase }, { on := 5, ground := Go.Ground.phase }, { on := 6, ground := Go.Ground.phase }, { on := 7, ground := Go.Ground.phase }, { on := 8, ground := Go.Ground.phase }, { on := 9, ground := Go.Ground.phase }, { on := 10, ground := Go.Ground.phase }, { on := 11, ground := Go.Ground.phase }], guard := none }) (v := ?v12c) rfl (by kernel_rfl) (by kernel_rfl) (by kernel_rfl) (fun _ _ _ h => h) (Or.inl ⟨by rfl, ?hy12c⟩) (by assumption) ?rest12c
    case hy12c => (intro w hSw; (try dsimp only at hSw); go_simp; try with_reducible rfl)
    try simp only [Act.put, List.setIfInBounds_toArray, List.set_cons_zero, List.set_cons_succ]
    refine wpAnyH_done (by kernel_rfl) ?_ _
    change Exit.then _ _ Exit.normal _ (w6.alloc (.cells (scells s) 25))
    have hB := Blk.new w6 25 (scells s)
    have hW := Stp.alloc H6.out (.cells (scells s) 25)
    generalize w6.alloc (.cells (scells s) 25) = W7 at hB hW ⊢
    obtain ⟨u0, u1, u2, u3, u4, u5, u6, u7, u8, u9, u10, u11, u12, u13⟩ := st_cells hB
    obtain ⟨v0, v1, v2, v3, v4, v5, v6, v7, v8, v9, v10, v11, v12, v13⟩ := st_cells (Hb.out.keep hW Hb.out.lt)
    go_wp2_with fail
    go_ret
    exact ⟨rfl, Stp.trans H0.out hW⟩
  case waya =>
    go_simp
    refine hK.out _ _ (Key.out _ (stp_ad (Head.stp_drew (Stp.refl w5)))) (fun hHeld2 => ?_)
    clear hK K hHeld
    have hHeld := hHeld2
    clear hHeld2
    try simp only [Act.put, List.setIfInBounds_toArray, List.set_cons_zero, List.set_cons_succ]
    refine wpAnyH_ready (rs := [4]) (by kernel_rfl) (by simp) ?_
    refine AllReadyH.cons (o := { dst := some 73, op := Go.Op.call { callee := Go.Callee.value (Go.Operand.func 12), args := #[Go.Operand.tmp 69, Go.Operand.tmp 72], argTypes := #[25, 26] }, type := 31, pos := "more.go:55", after := #[{ on := 0, ground := Go.Ground.data }, { on := 3, ground := Go.Ground.data }], guard := none }) rfl (fun K hK => ?_) AllReadyH.nil
    go_simp
    refine (HI.out.step s _ rfl Hs.out b0 512 Hb5.out (by omega) s [] 0 5 Hst.out Hl0.out _ _ _ (Hr0.out.keep (stp_ad (Head.stp_drew (Stp.refl w5))))).mono ?_
    rintro e w6 ⟨B6, d6, rfl, -, hs⟩
    have H6 := Lib.hid (Stp.trans (stp_ad (Head.stp_drew (Stp.refl w5))) hs)
    have Hz := Lib.hid (blk_ad w5 25 (scells zeroS) hs)
    clear hs
    go_wp2_with fail
    refine hK.out _ _ (Key.out _ (H6.out)) (fun hHeld2 => ?_)
    clear hK K hHeld
    have hHeld := hHeld2
    clear hHeld2
    try simp only [Act.put, List.setIfInBounds_toArray, List.set_cons_zero, List.set_cons_succ]
    refine wpAnyH_take (i := 5) (oi := { dst := some 68, op := Go.Op.move (Go.Operand.tmp 73), type := 31, pos := "more.go:55", after := #[{ on := 4, ground := Go.Ground.data }], guard := none }) (v := ?v5d) rfl (by kernel_rfl) (by kernel_rfl) (by kernel_rfl) (fun _ _ _ h => h) (Or.inl ⟨by rfl, ?hy5d⟩) (by assumption) ?rest5d
    case hy5d => (intro w hSw; (try dsimp only at hSw); go_simp; try with_reducible rfl)
    try simp only [Act.put, List.setIfInBounds_toArray, List.set_cons_zero, List.set_cons_succ]
    refine wpAnyH_take (i := 6) (oi := { dst := some 74, op := Go.Op.extract (Go.Operand.tmp 68) 0, type := 25, pos := "more.go:55", after := #[{ on := 5, ground := Go.Ground.data }], guard := none }) (v := ?v6d) rfl (by kernel_rfl) (by kernel_rfl) (by kernel_rfl) (fun _ _ _ h => h) (Or.inl ⟨by rfl, ?hy6d⟩) (by assumption) ?rest6d
    case hy6d => (intro w hSw; (try dsimp only at hSw); go_simp; try with_reducible rfl)
    try simp only [Act.put, List.setIfInBounds_toArray, List.set_cons_zero, List.set_cons_succ]
    refine wpAnyH_take (i := 7) (oi := { dst := some 75, op := Go.Op.extract (Go.Operand.tmp 68) 1, type := 29, pos := "more.go:55", after := #[{ on := 5, ground := Go.Ground.data }, { on := 10, ground := Go.Ground.gcOnly Go.Departure.lateStores }], guard := none }) (v := ?v7d) rfl (by kernel_rfl) (by kernel_rfl) (by kernel_rfl) (fun _ _ _ h => h) (Or.inl ⟨by rfl, ?hy7d⟩) (by assumption) ?rest7d
    case hy7d => (intro w hSw; (try dsimp only at hSw); go_simp; try with_reducible rfl)
    try simp only [Act.put, List.setIfInBounds_toArray, List.set_cons_zero, List.set_cons_succ]
    refine wpAnyH_take (i := 8) (oi := { dst := some 76, op := Go.Op.extract (Go.Operand.tmp 68) 2, type := 30, pos := "more.go:55", after := #[{ on := 5, ground := Go.Ground.data }, { on := 11, ground := Go.Ground.gcOnly Go.Departure.lateStores }], guard := none }) (v := ?v8d) rfl (by kernel_rfl) (by kernel_rfl) (by kernel_rfl) (fun _ _ _ h => h) (Or.inl ⟨by rfl, ?hy8d⟩) (by assumption) ?rest8d
    case hy8d => (intro w hSw; (try dsimp only at hSw); go_simp; try with_reducible rfl)
    try simp only [Act.put, List.setIfInBounds_toArray, List.set_cons_zero, List.set_cons_succ]
    obtain ⟨z0, z1, z2, z3, z4, z5, z6, z7, z8, z9, z10, z11, z12, z13⟩ := st_cells Hz.out
    obtain ⟨y0, y1, y2, y3, y4, y5, y6, y7, y8, y9, y10, y11, y12, y13⟩ := st_free Hz.out
    refine wpAnyH_ready (rs := [10]) (by kernel_rfl) (by simp) ?_
    refine AllReadyH.cons (o := { dst := none, op := Go.Op.store 25 (Go.Operand.tmp 10) (Go.Operand.tmp 74), type := 0, pos := "more.go:55", after := #[{ on := 9, ground := Go.Ground.data }, { on := 6, ground := Go.Ground.data }, { on := 4, ground := Go.Ground.chain }, { on := 0, ground := Go.Ground.phase }, { on := 1, ground := Go.Ground.phase }, { on := 2, ground := Go.Ground.phase }, { on := 3, ground := Go.Ground.phase }, { on := 4, ground := Go.Ground.phase }, { on := 5, ground := Go.Ground.phase }, { on := 6, ground := Go.Ground.phase }, { on := 7, ground := Go.Ground.textOnly Go.Departure.lateStores }, { on := 8, ground := Go.Ground.textOnly Go.Departure.lateStores }, { on := 9, ground := Go.Ground.phase }], guard := none }) rfl (fun K hK => ?_) AllReadyH.nil
    go_simp
    refine hK.out _ _ (Key.out _ (fills_stp s H6.out (Nat.le_refl _))) (fun hHeld2 => ?_)
    clear hK K hHeld
    have hHeld := hHeld2
    clear hHeld2
    try simp only [Act.put, List.setIfInBounds_toArray, List.set_cons_zero, List.set_cons_succ]
    clear z0 z1 z2 z3 z4 z5 z6 z7 z8 z9 z10 z11 z12 z13 y0 y1 y2 y3 y4 y5 y6 y7 y8 y9 y10 y11 y12 y13
    refine wpAnyH_take (i := 11) (oi := { dst := some 11, op := Go.Op.assign (Go.Operand.tmp 75), type := 29, pos := "more.go:55", after := #[{ on := 7, ground := Go.Ground.data }, { on := 10, ground := Go.Ground.chain }, { on := 0, ground := Go.Ground.phase }, { on := 1, ground := Go.Ground.phase }, { on := 2, ground := Go.Ground.phase }, { on := 3, ground := Go.Ground.phase }, { on := 4, ground := Go.Ground.phase }, { on := 5, ground := Go.Ground.phase }, { on := 6, ground := Go.Ground.phase }, { on := 7, ground := Go.Ground.phase }, { on := 8, ground := Go.Ground.textOnly Go.Departure.lateStores }, { on := 9, ground := Go.Ground.phase }, { on := 10, ground := Go.Ground.phase }], guard := none }) (v := ?v11d) rfl (by kernel_rfl) (by kernel_rfl) (by kernel_rfl) (fun _ _ _ h => h) (Or.inl ⟨by rfl, ?hy11d⟩) (by assumption) ?rest11d
    case hy11d => (intro w hSw; (try dsimp only at hSw); go_simp; try with_reducible rfl)
    try simp only [Act.put, List.setIfInBounds_toArray, List.set_cons_zero, List.set_cons_succ]
    refine wpAnyH_take (i := 12) (oi := { dst := some 12, op := Go.Op.assign (Go.Operand.tmp 76), type := 30, pos := "more.go:55", after := #[{ on := 8, ground := Go.Ground.data }, { on := 11, ground := Go.Ground.chain }, { on := 0, ground := Go.Ground.phase }, { on := 1, ground := Go.Ground.phase }, { on := 2, ground := Go.Ground.phase }, { on := 3, ground := Go.Ground.phase }, { on := 4, ground := Go.Ground.phase }, { on := 5, ground := Go.Ground.phase }, { on := 6, ground := Go.Ground.phase }, { on := 7, ground := Go.Ground.phase }, { on := 8, ground := Go.Ground.phase }, { on := 9, ground := Go.Ground.phase }, { on := 10, ground := Go.Ground.phase }, { on := 11, ground := Go.Ground.phase }], guard := none }) (v := ?v12d) rfl (by kernel_rfl) (by kernel_rfl) (by kernel_rfl) (fun _ _ _ h => h) (Or.inl ⟨by rfl, ?hy12d⟩) (by assumption) ?rest12d
    case hy12d => (intro w hSw; (try dsimp only at hSw); go_simp; try with_reducible rfl)
    try simp only [Act.put, List.setIfInBounds_toArray, List.set_cons_zero, List.set_cons_succ]
    refine wpAnyH_done (by kernel_rfl) ?_ _
    change Exit.then _ _ Exit.normal _ (fillS w6 w5.heap.size s)
    have hB := fills_blk s Hz.out
    have hW := fills_stp (w := w5) (g := w5.heap.size) s H6.out (Nat.le_refl _)
    generalize fillS w6 w5.heap.size s = W7 at hB hW ⊢
    obtain ⟨u0, u1, u2, u3, u4, u5, u6, u7, u8, u9, u10, u11, u12, u13⟩ := st_cells hB
    obtain ⟨v0, v1, v2, v3, v4, v5, v6, v7, v8, v9, v10, v11, v12, v13⟩ := st_cells (Hb.out.keep hW Hb.out.lt)
    go_wp2_with fail
    go_ret
    exact ⟨rfl, Stp.trans H0.out hW⟩
set_option maxRecDepth 100000 in
set_option maxHeartbeats 4000000 in
theorem types_no (I : ParseI) (E : PutI) (s : St) (hs : SmallS s) (n : Nd) (hn : SmallN n) (w : World) (hgo : ¬ (fewS s = true ∧ fewN n = true ∧ s.phase = 0 ∧ s.name ≠ [] ∧ mayS s = true ∧ oneB n = true ∧ 256 < n.path.length ∧ n.link.length ≤ 100)) :
    Calls Try.prog 9 #[sv s, nv n] w fun e w' => e = .returned (.bool true) ∧ Stp w w' := by
  have h0 : Stp w ((w.alloc (.cells (scells s) 25)).alloc (.cells (ncells n) 23)) := Stp.alloc (Stp.alloc (Stp.refl w) _) _
  have Hb := Lib.hid ((Blk.new w 25 (scells s)).alloc (.cells (ncells n) 23))
  have Hd := Lib.hid (Blk.new (w.alloc (.cells (scells s) 25)) 23 (ncells n))
  rw [World.size_alloc] at Hd
  obtain ⟨q0, q1, q2, q3, q4, q5, q6, q7, q8, q9, q10, q11, q12, q13⟩ := st_cells Hb.out
  obtain ⟨p0, p1, p2, p3, p4, p5, p6, p7⟩ := nd_cells Hd.out
  have HI := Lib.hid I
  have HE := Lib.hid E
  have Hs := Lib.hid hs
  have Hn := Lib.hid hn
  obtain ⟨F, hF⟩ : ∃ x, fewS s = x := ⟨_, rfl⟩
  obtain ⟨G, hG⟩ : ∃ x, fewN n = x := ⟨_, rfl⟩
  obtain ⟨M, hM⟩ : ∃ x, mayS s = x := ⟨_, rfl⟩
  obtain ⟨O, hO⟩ : ∃ x, oneB n = x := ⟨_, rfl⟩
  obtain ⟨P, hP⟩ : ∃ x, (putE n).length = x := ⟨_, rfl⟩
  have HF := Lib.hid hF
  have HG := Lib.hid hG
  have HM := Lib.hid hM
  have HO := Lib.hid hO
  have HP := Lib.hid hP
  rw [hF, hG, hM, hO] at hgo
  clear I E hs hn hF hG hM hO hP
  have key : F = false ∨ (F = true ∧ G = false) ∨ (F = true ∧ G = true ∧ (s.phase != 0) = true) ∨ (F = true ∧ G = true ∧ (s.phase != 0) = false ∧ (s.name == []) = true) ∨
      (F = true ∧ G = true ∧ (s.phase != 0) = false ∧ (s.name == []) = false ∧ M = false) ∨ (F = true ∧ G = true ∧ (s.phase != 0) = false ∧ (s.name == []) = false ∧ M = true ∧ O = false) ∨
      (F = true ∧ G = true ∧ (s.phase != 0) = false ∧ (s.name == []) = false ∧ M = true ∧ O = true ∧ n.path.length ≤ 256) ∨
      (F = true ∧ G = true ∧ (s.phase != 0) = false ∧ (s.name == []) = false ∧ M = true ∧ O = true ∧ 256 < n.path.length ∧ 100 < n.link.length) := by
    simp only [bne_iff_ne, ne_eq, bne_eq_false_iff_eq, beq_iff_eq, beq_eq_false_iff_ne]
    cases F <;> cases G <;> cases M <;> cases O <;> by_cases h1 : s.phase = 0 <;> by_cases h2 : s.name = [] <;> by_cases h3 : n.path.length ≤ 256 <;> by_cases h4 : n.link.length ≤ 100 <;> simp_all <;> omega
  clear hgo
  have hPO : O = true → ((P : Int) == 0) = false := fun h => by
    have := put_pos' (HO.out.trans h)
    rw [HP.out] at this
    rw [beq_eq_false_iff_ne]
    omega
  rcases key with rfl | ⟨rfl, rfl⟩ | ⟨rfl, rfl, g1⟩ | ⟨rfl, rfl, g1, g2⟩ | ⟨rfl, rfl, g1, g2, rfl⟩ | ⟨rfl, rfl, g1, g2, rfl, rfl⟩ | ⟨rfl, rfl, g1, g2, rfl, rfl, g3⟩ | ⟨rfl, rfl, g1, g2, rfl, rfl, g3, g4⟩
  · clear hPO
    go_enter Try.func9, Try.ntmps9
    go_wp2_with (first
      | (go_at_call 10; (with_reducible refine (awake_s HI.out _).mono ?_); rintro e w1 ⟨rfl, hs⟩; replace Hb := Lib.hid (Hb.out.keep hs Hb.out.lt); replace Hd := Lib.hid (Hd.out.keep hs Hd.out.lt); replace h0 := Stp.trans h0 hs; clear hs q0 q1 q2 q3 q4 q5 q6 q7 q8 q9 q10 q11 q12 q13 p0 p1 p2 p3 p4 p5 p6 p7; obtain ⟨q0, q1, q2, q3, q4, q5, q6, q7, q8, q9, q10, q11, q12, q13⟩ := st_cells Hb.out; obtain ⟨p0, p1, p2, p3, p4, p5, p6, p7⟩ := nd_cells Hd.out)
      | (go_at_call 11; (with_reducible refine (fews_s s _).mono ?_); rintro e w2 ⟨rfl, hs⟩; rw [HF.out]; replace Hb := Lib.hid (Hb.out.keep hs Hb.out.lt); replace Hd := Lib.hid (Hd.out.keep hs Hd.out.lt); replace h0 := Stp.trans h0 hs; clear hs q0 q1 q2 q3 q4 q5 q6 q7 q8 q9 q10 q11 q12 q13 p0 p1 p2 p3 p4 p5 p6 p7; obtain ⟨q0, q1, q2, q3, q4, q5, q6, q7, q8, q9, q10, q11, q12, q13⟩ := st_cells Hb.out; obtain ⟨p0, p1, p2, p3, p4, p5, p6, p7⟩ := nd_cells Hd.out)
      | (go_at_call 14; (with_reducible refine (Long.few_s n _).mono ?_); rintro e w3 ⟨rfl, hs⟩; rw [HG.out]; replace Hb := Lib.hid (Hb.out.keep hs Hb.out.lt); replace Hd := Lib.hid (Hd.out.keep hs Hd.out.lt); replace h0 := Stp.trans h0 hs; clear hs q0 q1 q2 q3 q4 q5 q6 q7 q8 q9 q10 q11 q12 q13 p0 p1 p2 p3 p4 p5 p6 p7; obtain ⟨q0, q1, q2, q3, q4, q5, q6, q7, q8, q9, q10, q11, q12, q13⟩ := st_cells Hb.out; obtain ⟨p0, p1, p2, p3, p4, p5, p6, p7⟩ := nd_cells Hd.out)
      | (go_at_call 13; (with_reducible refine (HI.out.may s _ rfl Hs.out _).mono ?_); rintro e w4 ⟨rfl, hs⟩; rw [HM.out]; replace Hb := Lib.hid (Hb.out.keep hs Hb.out.lt); replace Hd := Lib.hid (Hd.out.keep hs Hd.out.lt); replace h0 := Stp.trans h0 hs; clear hs q0 q1 q2 q3 q4 q5 q6 q7 q8 q9 q10 q11 q12 q13 p0 p1 p2 p3 p4 p5 p6 p7; obtain ⟨q0, q1, q2, q3, q4, q5, q6, q7, q8, q9, q10, q11, q12, q13⟩ := st_cells Hb.out; obtain ⟨p0, p1, p2, p3, p4, p5, p6, p7⟩ := nd_cells Hd.out)
      | (go_at_call 15; (with_reducible refine (HE.out.put n _ rfl Hn.out _).mono ?_); rintro e w5 ⟨B5, d5, rfl, hr, hs⟩; rw [HO.out, HP.out]; have Hr := Lib.hid (show RdL w5 B5 d5 (putE n) from hr); clear hr; replace Hb := Lib.hid (Hb.out.keep hs Hb.out.lt); replace Hd := Lib.hid (Hd.out.keep hs Hd.out.lt); replace h0 := Stp.trans h0 hs; clear hs q0 q1 q2 q3 q4 q5 q6 q7 q8 q9 q10 q11 q12 q13 p0 p1 p2 p3 p4 p5 p6 p7; obtain ⟨q0, q1, q2, q3, q4, q5, q6, q7, q8, q9, q10, q11, q12, q13⟩ := st_cells Hb.out; obtain ⟨p0, p1, p2, p3, p4, p5, p6, p7⟩ := nd_cells Hd.out))
    go_ret
    exact ⟨rfl, h0⟩
  · clear hPO
    go_enter Try.func9, Try.ntmps9
    go_wp2_with (first
      | (go_at_call 10; (with_reducible refine (awake_s HI.out _).mono ?_); rintro e w1 ⟨rfl, hs⟩; replace Hb := Lib.hid (Hb.out.keep hs Hb.out.lt); replace Hd := Lib.hid (Hd.out.keep hs Hd.out.lt); replace h0 := Stp.trans h0 hs; clear hs q0 q1 q2 q3 q4 q5 q6 q7 q8 q9 q10 q11 q12 q13 p0 p1 p2 p3 p4 p5 p6 p7; obtain ⟨q0, q1, q2, q3, q4, q5, q6, q7, q8, q9, q10, q11, q12, q13⟩ := st_cells Hb.out; obtain ⟨p0, p1, p2, p3, p4, p5, p6, p7⟩ := nd_cells Hd.out)
      | (go_at_call 11; (with_reducible refine (fews_s s _).mono ?_); rintro e w2 ⟨rfl, hs⟩; rw [HF.out]; replace Hb := Lib.hid (Hb.out.keep hs Hb.out.lt); replace Hd := Lib.hid (Hd.out.keep hs Hd.out.lt); replace h0 := Stp.trans h0 hs; clear hs q0 q1 q2 q3 q4 q5 q6 q7 q8 q9 q10 q11 q12 q13 p0 p1 p2 p3 p4 p5 p6 p7; obtain ⟨q0, q1, q2, q3, q4, q5, q6, q7, q8, q9, q10, q11, q12, q13⟩ := st_cells Hb.out; obtain ⟨p0, p1, p2, p3, p4, p5, p6, p7⟩ := nd_cells Hd.out)
      | (go_at_call 14; (with_reducible refine (Long.few_s n _).mono ?_); rintro e w3 ⟨rfl, hs⟩; rw [HG.out]; replace Hb := Lib.hid (Hb.out.keep hs Hb.out.lt); replace Hd := Lib.hid (Hd.out.keep hs Hd.out.lt); replace h0 := Stp.trans h0 hs; clear hs q0 q1 q2 q3 q4 q5 q6 q7 q8 q9 q10 q11 q12 q13 p0 p1 p2 p3 p4 p5 p6 p7; obtain ⟨q0, q1, q2, q3, q4, q5, q6, q7, q8, q9, q10, q11, q12, q13⟩ := st_cells Hb.out; obtain ⟨p0, p1, p2, p3, p4, p5, p6, p7⟩ := nd_cells Hd.out)
      | (go_at_call 13; (with_reducible refine (HI.out.may s _ rfl Hs.out _).mono ?_); rintro e w4 ⟨rfl, hs⟩; rw [HM.out]; replace Hb := Lib.hid (Hb.out.keep hs Hb.out.lt); replace Hd := Lib.hid (Hd.out.keep hs Hd.out.lt); replace h0 := Stp.trans h0 hs; clear hs q0 q1 q2 q3 q4 q5 q6 q7 q8 q9 q10 q11 q12 q13 p0 p1 p2 p3 p4 p5 p6 p7; obtain ⟨q0, q1, q2, q3, q4, q5, q6, q7, q8, q9, q10, q11, q12, q13⟩ := st_cells Hb.out; obtain ⟨p0, p1, p2, p3, p4, p5, p6, p7⟩ := nd_cells Hd.out)
      | (go_at_call 15; (with_reducible refine (HE.out.put n _ rfl Hn.out _).mono ?_); rintro e w5 ⟨B5, d5, rfl, hr, hs⟩; rw [HO.out, HP.out]; have Hr := Lib.hid (show RdL w5 B5 d5 (putE n) from hr); clear hr; replace Hb := Lib.hid (Hb.out.keep hs Hb.out.lt); replace Hd := Lib.hid (Hd.out.keep hs Hd.out.lt); replace h0 := Stp.trans h0 hs; clear hs q0 q1 q2 q3 q4 q5 q6 q7 q8 q9 q10 q11 q12 q13 p0 p1 p2 p3 p4 p5 p6 p7; obtain ⟨q0, q1, q2, q3, q4, q5, q6, q7, q8, q9, q10, q11, q12, q13⟩ := st_cells Hb.out; obtain ⟨p0, p1, p2, p3, p4, p5, p6, p7⟩ := nd_cells Hd.out))
    go_ret
    exact ⟨rfl, h0⟩
  · clear hPO
    go_enter Try.func9, Try.ntmps9
    go_wp2_with (first
      | (go_at_call 10; (with_reducible refine (awake_s HI.out _).mono ?_); rintro e w1 ⟨rfl, hs⟩; replace Hb := Lib.hid (Hb.out.keep hs Hb.out.lt); replace Hd := Lib.hid (Hd.out.keep hs Hd.out.lt); replace h0 := Stp.trans h0 hs; clear hs q0 q1 q2 q3 q4 q5 q6 q7 q8 q9 q10 q11 q12 q13 p0 p1 p2 p3 p4 p5 p6 p7; obtain ⟨q0, q1, q2, q3, q4, q5, q6, q7, q8, q9, q10, q11, q12, q13⟩ := st_cells Hb.out; obtain ⟨p0, p1, p2, p3, p4, p5, p6, p7⟩ := nd_cells Hd.out)
      | (go_at_call 11; (with_reducible refine (fews_s s _).mono ?_); rintro e w2 ⟨rfl, hs⟩; rw [HF.out]; replace Hb := Lib.hid (Hb.out.keep hs Hb.out.lt); replace Hd := Lib.hid (Hd.out.keep hs Hd.out.lt); replace h0 := Stp.trans h0 hs; clear hs q0 q1 q2 q3 q4 q5 q6 q7 q8 q9 q10 q11 q12 q13 p0 p1 p2 p3 p4 p5 p6 p7; obtain ⟨q0, q1, q2, q3, q4, q5, q6, q7, q8, q9, q10, q11, q12, q13⟩ := st_cells Hb.out; obtain ⟨p0, p1, p2, p3, p4, p5, p6, p7⟩ := nd_cells Hd.out)
      | (go_at_call 14; (with_reducible refine (Long.few_s n _).mono ?_); rintro e w3 ⟨rfl, hs⟩; rw [HG.out]; replace Hb := Lib.hid (Hb.out.keep hs Hb.out.lt); replace Hd := Lib.hid (Hd.out.keep hs Hd.out.lt); replace h0 := Stp.trans h0 hs; clear hs q0 q1 q2 q3 q4 q5 q6 q7 q8 q9 q10 q11 q12 q13 p0 p1 p2 p3 p4 p5 p6 p7; obtain ⟨q0, q1, q2, q3, q4, q5, q6, q7, q8, q9, q10, q11, q12, q13⟩ := st_cells Hb.out; obtain ⟨p0, p1, p2, p3, p4, p5, p6, p7⟩ := nd_cells Hd.out)
      | (go_at_call 13; (with_reducible refine (HI.out.may s _ rfl Hs.out _).mono ?_); rintro e w4 ⟨rfl, hs⟩; rw [HM.out]; replace Hb := Lib.hid (Hb.out.keep hs Hb.out.lt); replace Hd := Lib.hid (Hd.out.keep hs Hd.out.lt); replace h0 := Stp.trans h0 hs; clear hs q0 q1 q2 q3 q4 q5 q6 q7 q8 q9 q10 q11 q12 q13 p0 p1 p2 p3 p4 p5 p6 p7; obtain ⟨q0, q1, q2, q3, q4, q5, q6, q7, q8, q9, q10, q11, q12, q13⟩ := st_cells Hb.out; obtain ⟨p0, p1, p2, p3, p4, p5, p6, p7⟩ := nd_cells Hd.out)
      | (go_at_call 15; (with_reducible refine (HE.out.put n _ rfl Hn.out _).mono ?_); rintro e w5 ⟨B5, d5, rfl, hr, hs⟩; rw [HO.out, HP.out]; have Hr := Lib.hid (show RdL w5 B5 d5 (putE n) from hr); clear hr; replace Hb := Lib.hid (Hb.out.keep hs Hb.out.lt); replace Hd := Lib.hid (Hd.out.keep hs Hd.out.lt); replace h0 := Stp.trans h0 hs; clear hs q0 q1 q2 q3 q4 q5 q6 q7 q8 q9 q10 q11 q12 q13 p0 p1 p2 p3 p4 p5 p6 p7; obtain ⟨q0, q1, q2, q3, q4, q5, q6, q7, q8, q9, q10, q11, q12, q13⟩ := st_cells Hb.out; obtain ⟨p0, p1, p2, p3, p4, p5, p6, p7⟩ := nd_cells Hd.out))
    go_ret
    exact ⟨rfl, h0⟩
  · clear hPO
    go_enter Try.func9, Try.ntmps9
    go_wp2_with (first
      | (go_at_call 10; (with_reducible refine (awake_s HI.out _).mono ?_); rintro e w1 ⟨rfl, hs⟩; replace Hb := Lib.hid (Hb.out.keep hs Hb.out.lt); replace Hd := Lib.hid (Hd.out.keep hs Hd.out.lt); replace h0 := Stp.trans h0 hs; clear hs q0 q1 q2 q3 q4 q5 q6 q7 q8 q9 q10 q11 q12 q13 p0 p1 p2 p3 p4 p5 p6 p7; obtain ⟨q0, q1, q2, q3, q4, q5, q6, q7, q8, q9, q10, q11, q12, q13⟩ := st_cells Hb.out; obtain ⟨p0, p1, p2, p3, p4, p5, p6, p7⟩ := nd_cells Hd.out)
      | (go_at_call 11; (with_reducible refine (fews_s s _).mono ?_); rintro e w2 ⟨rfl, hs⟩; rw [HF.out]; replace Hb := Lib.hid (Hb.out.keep hs Hb.out.lt); replace Hd := Lib.hid (Hd.out.keep hs Hd.out.lt); replace h0 := Stp.trans h0 hs; clear hs q0 q1 q2 q3 q4 q5 q6 q7 q8 q9 q10 q11 q12 q13 p0 p1 p2 p3 p4 p5 p6 p7; obtain ⟨q0, q1, q2, q3, q4, q5, q6, q7, q8, q9, q10, q11, q12, q13⟩ := st_cells Hb.out; obtain ⟨p0, p1, p2, p3, p4, p5, p6, p7⟩ := nd_cells Hd.out)
      | (go_at_call 14; (with_reducible refine (Long.few_s n _).mono ?_); rintro e w3 ⟨rfl, hs⟩; rw [HG.out]; replace Hb := Lib.hid (Hb.out.keep hs Hb.out.lt); replace Hd := Lib.hid (Hd.out.keep hs Hd.out.lt); replace h0 := Stp.trans h0 hs; clear hs q0 q1 q2 q3 q4 q5 q6 q7 q8 q9 q10 q11 q12 q13 p0 p1 p2 p3 p4 p5 p6 p7; obtain ⟨q0, q1, q2, q3, q4, q5, q6, q7, q8, q9, q10, q11, q12, q13⟩ := st_cells Hb.out; obtain ⟨p0, p1, p2, p3, p4, p5, p6, p7⟩ := nd_cells Hd.out)
      | (go_at_call 13; (with_reducible refine (HI.out.may s _ rfl Hs.out _).mono ?_); rintro e w4 ⟨rfl, hs⟩; rw [HM.out]; replace Hb := Lib.hid (Hb.out.keep hs Hb.out.lt); replace Hd := Lib.hid (Hd.out.keep hs Hd.out.lt); replace h0 := Stp.trans h0 hs; clear hs q0 q1 q2 q3 q4 q5 q6 q7 q8 q9 q10 q11 q12 q13 p0 p1 p2 p3 p4 p5 p6 p7; obtain ⟨q0, q1, q2, q3, q4, q5, q6, q7, q8, q9, q10, q11, q12, q13⟩ := st_cells Hb.out; obtain ⟨p0, p1, p2, p3, p4, p5, p6, p7⟩ := nd_cells Hd.out)
      | (go_at_call 15; (with_reducible refine (HE.out.put n _ rfl Hn.out _).mono ?_); rintro e w5 ⟨B5, d5, rfl, hr, hs⟩; rw [HO.out, HP.out]; have Hr := Lib.hid (show RdL w5 B5 d5 (putE n) from hr); clear hr; replace Hb := Lib.hid (Hb.out.keep hs Hb.out.lt); replace Hd := Lib.hid (Hd.out.keep hs Hd.out.lt); replace h0 := Stp.trans h0 hs; clear hs q0 q1 q2 q3 q4 q5 q6 q7 q8 q9 q10 q11 q12 q13 p0 p1 p2 p3 p4 p5 p6 p7; obtain ⟨q0, q1, q2, q3, q4, q5, q6, q7, q8, q9, q10, q11, q12, q13⟩ := st_cells Hb.out; obtain ⟨p0, p1, p2, p3, p4, p5, p6, p7⟩ := nd_cells Hd.out))
    go_ret
    exact ⟨rfl, h0⟩
  · clear hPO
    go_enter Try.func9, Try.ntmps9
    go_wp2_with (first
      | (go_at_call 10; (with_reducible refine (awake_s HI.out _).mono ?_); rintro e w1 ⟨rfl, hs⟩; replace Hb := Lib.hid (Hb.out.keep hs Hb.out.lt); replace Hd := Lib.hid (Hd.out.keep hs Hd.out.lt); replace h0 := Stp.trans h0 hs; clear hs q0 q1 q2 q3 q4 q5 q6 q7 q8 q9 q10 q11 q12 q13 p0 p1 p2 p3 p4 p5 p6 p7; obtain ⟨q0, q1, q2, q3, q4, q5, q6, q7, q8, q9, q10, q11, q12, q13⟩ := st_cells Hb.out; obtain ⟨p0, p1, p2, p3, p4, p5, p6, p7⟩ := nd_cells Hd.out)
      | (go_at_call 11; (with_reducible refine (fews_s s _).mono ?_); rintro e w2 ⟨rfl, hs⟩; rw [HF.out]; replace Hb := Lib.hid (Hb.out.keep hs Hb.out.lt); replace Hd := Lib.hid (Hd.out.keep hs Hd.out.lt); replace h0 := Stp.trans h0 hs; clear hs q0 q1 q2 q3 q4 q5 q6 q7 q8 q9 q10 q11 q12 q13 p0 p1 p2 p3 p4 p5 p6 p7; obtain ⟨q0, q1, q2, q3, q4, q5, q6, q7, q8, q9, q10, q11, q12, q13⟩ := st_cells Hb.out; obtain ⟨p0, p1, p2, p3, p4, p5, p6, p7⟩ := nd_cells Hd.out)
      | (go_at_call 14; (with_reducible refine (Long.few_s n _).mono ?_); rintro e w3 ⟨rfl, hs⟩; rw [HG.out]; replace Hb := Lib.hid (Hb.out.keep hs Hb.out.lt); replace Hd := Lib.hid (Hd.out.keep hs Hd.out.lt); replace h0 := Stp.trans h0 hs; clear hs q0 q1 q2 q3 q4 q5 q6 q7 q8 q9 q10 q11 q12 q13 p0 p1 p2 p3 p4 p5 p6 p7; obtain ⟨q0, q1, q2, q3, q4, q5, q6, q7, q8, q9, q10, q11, q12, q13⟩ := st_cells Hb.out; obtain ⟨p0, p1, p2, p3, p4, p5, p6, p7⟩ := nd_cells Hd.out)
      | (go_at_call 13; (with_reducible refine (HI.out.may s _ rfl Hs.out _).mono ?_); rintro e w4 ⟨rfl, hs⟩; rw [HM.out]; replace Hb := Lib.hid (Hb.out.keep hs Hb.out.lt); replace Hd := Lib.hid (Hd.out.keep hs Hd.out.lt); replace h0 := Stp.trans h0 hs; clear hs q0 q1 q2 q3 q4 q5 q6 q7 q8 q9 q10 q11 q12 q13 p0 p1 p2 p3 p4 p5 p6 p7; obtain ⟨q0, q1, q2, q3, q4, q5, q6, q7, q8, q9, q10, q11, q12, q13⟩ := st_cells Hb.out; obtain ⟨p0, p1, p2, p3, p4, p5, p6, p7⟩ := nd_cells Hd.out)
      | (go_at_call 15; (with_reducible refine (HE.out.put n _ rfl Hn.out _).mono ?_); rintro e w5 ⟨B5, d5, rfl, hr, hs⟩; rw [HO.out, HP.out]; have Hr := Lib.hid (show RdL w5 B5 d5 (putE n) from hr); clear hr; replace Hb := Lib.hid (Hb.out.keep hs Hb.out.lt); replace Hd := Lib.hid (Hd.out.keep hs Hd.out.lt); replace h0 := Stp.trans h0 hs; clear hs q0 q1 q2 q3 q4 q5 q6 q7 q8 q9 q10 q11 q12 q13 p0 p1 p2 p3 p4 p5 p6 p7; obtain ⟨q0, q1, q2, q3, q4, q5, q6, q7, q8, q9, q10, q11, q12, q13⟩ := st_cells Hb.out; obtain ⟨p0, p1, p2, p3, p4, p5, p6, p7⟩ := nd_cells Hd.out))
    go_ret
    exact ⟨rfl, h0⟩
  · clear hPO
    go_enter Try.func9, Try.ntmps9
    go_wp2_with (first
      | (go_at_call 10; (with_reducible refine (awake_s HI.out _).mono ?_); rintro e w1 ⟨rfl, hs⟩; replace Hb := Lib.hid (Hb.out.keep hs Hb.out.lt); replace Hd := Lib.hid (Hd.out.keep hs Hd.out.lt); replace h0 := Stp.trans h0 hs; clear hs q0 q1 q2 q3 q4 q5 q6 q7 q8 q9 q10 q11 q12 q13 p0 p1 p2 p3 p4 p5 p6 p7; obtain ⟨q0, q1, q2, q3, q4, q5, q6, q7, q8, q9, q10, q11, q12, q13⟩ := st_cells Hb.out; obtain ⟨p0, p1, p2, p3, p4, p5, p6, p7⟩ := nd_cells Hd.out)
      | (go_at_call 11; (with_reducible refine (fews_s s _).mono ?_); rintro e w2 ⟨rfl, hs⟩; rw [HF.out]; replace Hb := Lib.hid (Hb.out.keep hs Hb.out.lt); replace Hd := Lib.hid (Hd.out.keep hs Hd.out.lt); replace h0 := Stp.trans h0 hs; clear hs q0 q1 q2 q3 q4 q5 q6 q7 q8 q9 q10 q11 q12 q13 p0 p1 p2 p3 p4 p5 p6 p7; obtain ⟨q0, q1, q2, q3, q4, q5, q6, q7, q8, q9, q10, q11, q12, q13⟩ := st_cells Hb.out; obtain ⟨p0, p1, p2, p3, p4, p5, p6, p7⟩ := nd_cells Hd.out)
      | (go_at_call 14; (with_reducible refine (Long.few_s n _).mono ?_); rintro e w3 ⟨rfl, hs⟩; rw [HG.out]; replace Hb := Lib.hid (Hb.out.keep hs Hb.out.lt); replace Hd := Lib.hid (Hd.out.keep hs Hd.out.lt); replace h0 := Stp.trans h0 hs; clear hs q0 q1 q2 q3 q4 q5 q6 q7 q8 q9 q10 q11 q12 q13 p0 p1 p2 p3 p4 p5 p6 p7; obtain ⟨q0, q1, q2, q3, q4, q5, q6, q7, q8, q9, q10, q11, q12, q13⟩ := st_cells Hb.out; obtain ⟨p0, p1, p2, p3, p4, p5, p6, p7⟩ := nd_cells Hd.out)
      | (go_at_call 13; (with_reducible refine (HI.out.may s _ rfl Hs.out _).mono ?_); rintro e w4 ⟨rfl, hs⟩; rw [HM.out]; replace Hb := Lib.hid (Hb.out.keep hs Hb.out.lt); replace Hd := Lib.hid (Hd.out.keep hs Hd.out.lt); replace h0 := Stp.trans h0 hs; clear hs q0 q1 q2 q3 q4 q5 q6 q7 q8 q9 q10 q11 q12 q13 p0 p1 p2 p3 p4 p5 p6 p7; obtain ⟨q0, q1, q2, q3, q4, q5, q6, q7, q8, q9, q10, q11, q12, q13⟩ := st_cells Hb.out; obtain ⟨p0, p1, p2, p3, p4, p5, p6, p7⟩ := nd_cells Hd.out)
      | (go_at_call 15; (with_reducible refine (HE.out.put n _ rfl Hn.out _).mono ?_); rintro e w5 ⟨B5, d5, rfl, hr, hs⟩; rw [HO.out, HP.out]; have Hr := Lib.hid (show RdL w5 B5 d5 (putE n) from hr); clear hr; replace Hb := Lib.hid (Hb.out.keep hs Hb.out.lt); replace Hd := Lib.hid (Hd.out.keep hs Hd.out.lt); replace h0 := Stp.trans h0 hs; clear hs q0 q1 q2 q3 q4 q5 q6 q7 q8 q9 q10 q11 q12 q13 p0 p1 p2 p3 p4 p5 p6 p7; obtain ⟨q0, q1, q2, q3, q4, q5, q6, q7, q8, q9, q10, q11, q12, q13⟩ := st_cells Hb.out; obtain ⟨p0, p1, p2, p3, p4, p5, p6, p7⟩ := nd_cells Hd.out))
    go_ret
    exact ⟨rfl, h0⟩
  · have gP := hPO rfl
    have g4 : (n.path.length : Int) ≤ 256 := by omega
    have g5 : decide ((n.path.length : Int) ≤ 256) = true := decide_eq_true g4
    clear hPO
    go_enter Try.func9, Try.ntmps9
    go_wp2_with (first
      | (go_at_call 10; (with_reducible refine (awake_s HI.out _).mono ?_); rintro e w1 ⟨rfl, hs⟩; replace Hb := Lib.hid (Hb.out.keep hs Hb.out.lt); replace Hd := Lib.hid (Hd.out.keep hs Hd.out.lt); replace h0 := Stp.trans h0 hs; clear hs q0 q1 q2 q3 q4 q5 q6 q7 q8 q9 q10 q11 q12 q13 p0 p1 p2 p3 p4 p5 p6 p7; obtain ⟨q0, q1, q2, q3, q4, q5, q6, q7, q8, q9, q10, q11, q12, q13⟩ := st_cells Hb.out; obtain ⟨p0, p1, p2, p3, p4, p5, p6, p7⟩ := nd_cells Hd.out)
      | (go_at_call 11; (with_reducible refine (fews_s s _).mono ?_); rintro e w2 ⟨rfl, hs⟩; rw [HF.out]; replace Hb := Lib.hid (Hb.out.keep hs Hb.out.lt); replace Hd := Lib.hid (Hd.out.keep hs Hd.out.lt); replace h0 := Stp.trans h0 hs; clear hs q0 q1 q2 q3 q4 q5 q6 q7 q8 q9 q10 q11 q12 q13 p0 p1 p2 p3 p4 p5 p6 p7; obtain ⟨q0, q1, q2, q3, q4, q5, q6, q7, q8, q9, q10, q11, q12, q13⟩ := st_cells Hb.out; obtain ⟨p0, p1, p2, p3, p4, p5, p6, p7⟩ := nd_cells Hd.out)
      | (go_at_call 14; (with_reducible refine (Long.few_s n _).mono ?_); rintro e w3 ⟨rfl, hs⟩; rw [HG.out]; replace Hb := Lib.hid (Hb.out.keep hs Hb.out.lt); replace Hd := Lib.hid (Hd.out.keep hs Hd.out.lt); replace h0 := Stp.trans h0 hs; clear hs q0 q1 q2 q3 q4 q5 q6 q7 q8 q9 q10 q11 q12 q13 p0 p1 p2 p3 p4 p5 p6 p7; obtain ⟨q0, q1, q2, q3, q4, q5, q6, q7, q8, q9, q10, q11, q12, q13⟩ := st_cells Hb.out; obtain ⟨p0, p1, p2, p3, p4, p5, p6, p7⟩ := nd_cells Hd.out)
      | (go_at_call 13; (with_reducible refine (HI.out.may s _ rfl Hs.out _).mono ?_); rintro e w4 ⟨rfl, hs⟩; rw [HM.out]; replace Hb := Lib.hid (Hb.out.keep hs Hb.out.lt); replace Hd := Lib.hid (Hd.out.keep hs Hd.out.lt); replace h0 := Stp.trans h0 hs; clear hs q0 q1 q2 q3 q4 q5 q6 q7 q8 q9 q10 q11 q12 q13 p0 p1 p2 p3 p4 p5 p6 p7; obtain ⟨q0, q1, q2, q3, q4, q5, q6, q7, q8, q9, q10, q11, q12, q13⟩ := st_cells Hb.out; obtain ⟨p0, p1, p2, p3, p4, p5, p6, p7⟩ := nd_cells Hd.out)
      | (go_at_call 15; (with_reducible refine (HE.out.put n _ rfl Hn.out _).mono ?_); rintro e w5 ⟨B5, d5, rfl, hr, hs⟩; rw [HO.out, HP.out]; have Hr := Lib.hid (show RdL w5 B5 d5 (putE n) from hr); clear hr; replace Hb := Lib.hid (Hb.out.keep hs Hb.out.lt); replace Hd := Lib.hid (Hd.out.keep hs Hd.out.lt); replace h0 := Stp.trans h0 hs; clear hs q0 q1 q2 q3 q4 q5 q6 q7 q8 q9 q10 q11 q12 q13 p0 p1 p2 p3 p4 p5 p6 p7; obtain ⟨q0, q1, q2, q3, q4, q5, q6, q7, q8, q9, q10, q11, q12, q13⟩ := st_cells Hb.out; obtain ⟨p0, p1, p2, p3, p4, p5, p6, p7⟩ := nd_cells Hd.out))
    go_ret
    exact ⟨rfl, h0⟩
  · have gP := hPO rfl
    have g6 : ¬ (n.path.length : Int) ≤ 256 := by omega
    have g7 : decide ((n.path.length : Int) ≤ 256) = false := decide_eq_false g6
    have g8 : (100 : Int) < (n.link.length : Int) := by omega
    have g9 : decide ((100 : Int) < (n.link.length : Int)) = true := decide_eq_true g8
    clear hPO g3
    go_enter Try.func9, Try.ntmps9
    go_wp2_with (first
      | (go_at_call 10; (with_reducible refine (awake_s HI.out _).mono ?_); rintro e w1 ⟨rfl, hs⟩; replace Hb := Lib.hid (Hb.out.keep hs Hb.out.lt); replace Hd := Lib.hid (Hd.out.keep hs Hd.out.lt); replace h0 := Stp.trans h0 hs; clear hs q0 q1 q2 q3 q4 q5 q6 q7 q8 q9 q10 q11 q12 q13 p0 p1 p2 p3 p4 p5 p6 p7; obtain ⟨q0, q1, q2, q3, q4, q5, q6, q7, q8, q9, q10, q11, q12, q13⟩ := st_cells Hb.out; obtain ⟨p0, p1, p2, p3, p4, p5, p6, p7⟩ := nd_cells Hd.out)
      | (go_at_call 11; (with_reducible refine (fews_s s _).mono ?_); rintro e w2 ⟨rfl, hs⟩; rw [HF.out]; replace Hb := Lib.hid (Hb.out.keep hs Hb.out.lt); replace Hd := Lib.hid (Hd.out.keep hs Hd.out.lt); replace h0 := Stp.trans h0 hs; clear hs q0 q1 q2 q3 q4 q5 q6 q7 q8 q9 q10 q11 q12 q13 p0 p1 p2 p3 p4 p5 p6 p7; obtain ⟨q0, q1, q2, q3, q4, q5, q6, q7, q8, q9, q10, q11, q12, q13⟩ := st_cells Hb.out; obtain ⟨p0, p1, p2, p3, p4, p5, p6, p7⟩ := nd_cells Hd.out)
      | (go_at_call 14; (with_reducible refine (Long.few_s n _).mono ?_); rintro e w3 ⟨rfl, hs⟩; rw [HG.out]; replace Hb := Lib.hid (Hb.out.keep hs Hb.out.lt); replace Hd := Lib.hid (Hd.out.keep hs Hd.out.lt); replace h0 := Stp.trans h0 hs; clear hs q0 q1 q2 q3 q4 q5 q6 q7 q8 q9 q10 q11 q12 q13 p0 p1 p2 p3 p4 p5 p6 p7; obtain ⟨q0, q1, q2, q3, q4, q5, q6, q7, q8, q9, q10, q11, q12, q13⟩ := st_cells Hb.out; obtain ⟨p0, p1, p2, p3, p4, p5, p6, p7⟩ := nd_cells Hd.out)
      | (go_at_call 13; (with_reducible refine (HI.out.may s _ rfl Hs.out _).mono ?_); rintro e w4 ⟨rfl, hs⟩; rw [HM.out]; replace Hb := Lib.hid (Hb.out.keep hs Hb.out.lt); replace Hd := Lib.hid (Hd.out.keep hs Hd.out.lt); replace h0 := Stp.trans h0 hs; clear hs q0 q1 q2 q3 q4 q5 q6 q7 q8 q9 q10 q11 q12 q13 p0 p1 p2 p3 p4 p5 p6 p7; obtain ⟨q0, q1, q2, q3, q4, q5, q6, q7, q8, q9, q10, q11, q12, q13⟩ := st_cells Hb.out; obtain ⟨p0, p1, p2, p3, p4, p5, p6, p7⟩ := nd_cells Hd.out)
      | (go_at_call 15; (with_reducible refine (HE.out.put n _ rfl Hn.out _).mono ?_); rintro e w5 ⟨B5, d5, rfl, hr, hs⟩; rw [HO.out, HP.out]; have Hr := Lib.hid (show RdL w5 B5 d5 (putE n) from hr); clear hr; replace Hb := Lib.hid (Hb.out.keep hs Hb.out.lt); replace Hd := Lib.hid (Hd.out.keep hs Hd.out.lt); replace h0 := Stp.trans h0 hs; clear hs q0 q1 q2 q3 q4 q5 q6 q7 q8 q9 q10 q11 q12 q13 p0 p1 p2 p3 p4 p5 p6 p7; obtain ⟨q0, q1, q2, q3, q4, q5, q6, q7, q8, q9, q10, q11, q12, q13⟩ := st_cells Hb.out; obtain ⟨p0, p1, p2, p3, p4, p5, p6, p7⟩ := nd_cells Hd.out))
    go_ret
    exact ⟨rfl, h0⟩
theorem types_s (I : ParseI) (E : PutI) (s : St) (hs : SmallS s) (n : Nd) (hn : SmallN n) (w : World) :
    Calls Try.prog 9 #[sv s, nv n] w fun e w' => e = .returned (.bool true) ∧ Stp w w' := by
  by_cases hgo : fewS s = true ∧ fewN n = true ∧ s.phase = 0 ∧ s.name ≠ [] ∧ mayS s = true ∧ oneB n = true ∧ 256 < n.path.length ∧ n.link.length ≤ 100
  · exact types_a I E s hs n hn w hgo
  · exact types_no I E s hs n hn w hgo
end Go.Proofs.Ytejgnhicgeiceaa.Parse
