/-
  The walk of the statement ParseParts, its other half: the statement itself is proved in a text of its own.
-/
import Derived.Test.YtejgnhicgeiceaaParsePartsW
namespace Go.Proofs.Ytejgnhicgeiceaa.Parse
open Go.RowKit Go.Proofs.Ytejgnhicgeiceaa.Str Go.Proofs.Ytejgnhicgeiceaa.Base Go.Proofs.Ytejgnhicgeiceaa.Node Go.Proofs.Ytejgnhicgeiceaa.Long
open Go.Proofs.Ytejgnhicgeiceaa.Tree (oneB)

set_option maxRecDepth 100000 in
set_option maxHeartbeats 8000000 in
theorem parts_b (I : ParseI) (s : St) (hs : SmallS s) (a b : List L) (na nb : Nat) (hna : a.length = na) (hnb : b.length = nb) (A B : Option Addr) (c d : Nat) (w : World) (ha : RdL w A c a) (hb : RdL w B d b) (hla : na < 9223372036854775808) (hlb : nb < 9223372036854775808) (hgo : fewS s = true ∧ na ≤ 30 ∧ nb ≤ 30 ∧ BlockM.mayV a = true ∧ BlockM.mayV b = true)
    (t u v : St) (x y z : List Evt) (n m q : Nat) (e1 e2 e3 : Int) (hr1 : runS s a = (t, x, n, e1)) (hr2 : runS t b = (u, y, m, e2)) (hr3 : runS s (a ++ b) = (v, z, q, e3)) (hst : (e1 != 0) = false ∧ ((t.phase == 5) = false ∨ ((t.phase == 5) = true ∧ ¬ (0 : Int) < (n : Int) ∧ decide ((0 : Int) < (n : Int)) = false))) (heq3 : v = u ∧ z = x ++ y ∧ q = n + m ∧ e3 = e2) :
    Calls Try.prog 6 #[sv s, .slice A na c, .slice B nb d] w fun e w' => e = .returned (.bool true) ∧ Stp w w' := by
  have h0 := Stp.alloc (Stp.refl w) (.cells (scells s) 25)
  have Hb := Lib.hid (Blk.new w 25 (scells s))
  have Ra := Lib.hid (ha.keep h0)
  have Rb := Lib.hid (hb.keep h0)
  obtain ⟨q0, q1, q2, q3, q4, q5, q6, q7, q8, q9, q10, q11, q12, q13⟩ := st_cells Hb.out
  have HI := Lib.hid I
  have Hs := Lib.hid hs
  have HnA := Lib.hid hna
  have HnB := Lib.hid hnb
  have HlA := Lib.hid hla
  have HlB := Lib.hid hlb
  obtain ⟨F, hF⟩ : ∃ x, fewS s = x := ⟨_, rfl⟩
  obtain ⟨Ma, hMa⟩ : ∃ x, BlockM.mayV a = x := ⟨_, rfl⟩
  obtain ⟨Mb, hMb⟩ : ∃ x, BlockM.mayV b = x := ⟨_, rfl⟩
  have HF := Lib.hid hF
  have HMa := Lib.hid hMa
  have HMb := Lib.hid hMb
  rw [hF, hMa, hMb] at hgo
  clear I hs ha hb hna hnb hF hMa hMb
  obtain ⟨rfl, k1, k2, rfl, rfl⟩ := hgo
  have Ht := Lib.hid (show SmallS t by have := run_small Hs.out a; rw [hr1] at this; exact this)
  have f1 := run_facts a s
  have f2 := run_facts b t
  have f3 := run_facts (a ++ b) s
  rw [hr1] at f1
  rw [hr2] at f2
  rw [hr3] at f3
  have l1 : x.length ≤ 2 * n := f1.len
  have l2 : y.length ≤ 2 * m := f2.len
  have l3 : z.length ≤ 2 * q := f3.len
  have p1 : n ≤ na := by rw [← HnA.out]; exact f1.n
  have p2 : m ≤ nb := by rw [← HnB.out]; exact f2.n
  have p3 : q ≤ na + nb := by have := f3.n; rw [List.length_append, HnA.out, HnB.out] at this; exact this
  have H1 := Lib.hid hr1
  have H2 := Lib.hid hr2
  have H3 := Lib.hid hr3
  obtain ⟨i, hi⟩ : ∃ i, x.length = i := ⟨_, rfl⟩
  obtain ⟨j, hj⟩ : ∃ j, y.length = j := ⟨_, rfl⟩
  obtain ⟨k, hk⟩ : ∃ k, z.length = k := ⟨_, rfl⟩
  rw [hi] at l1
  rw [hj] at l2
  rw [hk] at l3
  have Hi := Lib.hid hi
  have Hj := Lib.hid hj
  have Hk := Lib.hid hk
  obtain ⟨N, hN⟩ : ∃ N, (a ++ b).length = N := ⟨_, rfl⟩
  have HN := Lib.hid hN
  have Hl30 := Lib.hid (show a.length + nb ≤ 60 ∧ na ≤ 30 by rw [HnA.out]; omega)
  have Hl60 := Lib.hid (show N ≤ 1000 by rw [← hN, List.length_append, HnA.out, HnB.out]; omega)
  have HbA := Lib.hid (show ∀ l ∈ a, l.length < 9223372036854775808 from fun l hl => by rw [BlockM.mayV_iff.1 HMa.out l hl]; omega)
  have HbB := Lib.hid (show ∀ l ∈ b, l.length < 9223372036854775808 from fun l hl => by rw [BlockM.mayV_iff.1 HMb.out l hl]; omega)
  have Hab := Lib.hid (show ∀ l ∈ a ++ b, l.length < 9223372036854775808 from fun l hl => by rcases List.mem_append.1 hl with h | h; exact HbA.out l h; exact HbB.out l h)
  have Hli := Lib.hid (show i ≤ 60 ∧ j ≤ 60 ∧ k ≤ 120 by omega)
  have g1 : ¬ (30 : Int) < (na : Int) := by omega
  have g2 : decide ((30 : Int) < (na : Int)) = false := decide_eq_false g1
  have g3 : ¬ (30 : Int) < (nb : Int) := by omega
  have g4 : decide ((30 : Int) < (nb : Int)) = false := decide_eq_false g3
  have Hn60 := Lib.hid (show n ≤ 30 ∧ m ≤ 30 by omega)
  have Hn1000 := Lib.hid (show na ≤ 1000 ∧ nb ≤ 1000 by omega)
  have Hst := Lib.hid hst
  have Heq3 := Lib.hid heq3
  clear hst heq3
  clear hr1 hr2 hr3 f1 f2 f3 hi hj hk hN l1 l2 l3 p1 p2 p3 hla hlb k1 k2 g1 g3
  go_enter Try.func6, Try.ntmps6
  go_wp2_with (first
      | (go_at_call 10; (with_reducible refine (awake_s HI.out _).mono ?_); rintro e w1 ⟨rfl, hs⟩; replace Hb := Lib.hid (Hb.out.keep hs Hb.out.lt); replace Ra := Lib.hid (Ra.out.keep hs); replace Rb := Lib.hid (Rb.out.keep hs); replace h0 := Stp.trans h0 hs; clear hs q0 q1 q2 q3 q4 q5 q6 q7 q8 q9 q10 q11 q12 q13; obtain ⟨q0, q1, q2, q3, q4, q5, q6, q7, q8, q9, q10, q11, q12, q13⟩ := st_cells Hb.out)
      | (go_at_call 11; (with_reducible refine (fews_s s _).mono ?_); rintro e w2 ⟨rfl, hs⟩; rw [HF.out]; replace Hb := Lib.hid (Hb.out.keep hs Hb.out.lt); replace Ra := Lib.hid (Ra.out.keep hs); replace Rb := Lib.hid (Rb.out.keep hs); replace h0 := Stp.trans h0 hs; clear hs q0 q1 q2 q3 q4 q5 q6 q7 q8 q9 q10 q11 q12 q13; obtain ⟨q0, q1, q2, q3, q4, q5, q6, q7, q8, q9, q10, q11, q12, q13⟩ := st_cells Hb.out)
      | (go_at_call 20; (with_reducible refine (bmay_n a _ HnA.out _ _ _ Ra.out HlA.out).mono ?_); rintro e w3 ⟨rfl, hs⟩; rw [HMa.out]; replace Hb := Lib.hid (Hb.out.keep hs Hb.out.lt); replace Ra := Lib.hid (Ra.out.keep hs); replace Rb := Lib.hid (Rb.out.keep hs); replace h0 := Stp.trans h0 hs; clear hs q0 q1 q2 q3 q4 q5 q6 q7 q8 q9 q10 q11 q12 q13; obtain ⟨q0, q1, q2, q3, q4, q5, q6, q7, q8, q9, q10, q11, q12, q13⟩ := st_cells Hb.out)
      | (go_at_call 20; (with_reducible refine (bmay_n b _ HnB.out _ _ _ Rb.out HlB.out).mono ?_); rintro e w4 ⟨rfl, hs⟩; rw [HMb.out]; replace Hb := Lib.hid (Hb.out.keep hs Hb.out.lt); replace Ra := Lib.hid (Ra.out.keep hs); replace Rb := Lib.hid (Rb.out.keep hs); replace h0 := Stp.trans h0 hs; clear hs q0 q1 q2 q3 q4 q5 q6 q7 q8 q9 q10 q11 q12 q13; obtain ⟨q0, q1, q2, q3, q4, q5, q6, q7, q8, q9, q10, q11, q12, q13⟩ := st_cells Hb.out)
      | (go_at_call 16; (with_reducible refine (HI.out.run s _ rfl Hs.out a na HnA.out Hn1000.out.1 HbA.out t x i n e1 H1.out Hi.out _ _ _ Ra.out).mono ?_); rintro e w5 ⟨B5, d5, rfl, he, hs⟩; have He1 := Lib.hid (he.keep (Stp.alloc (Stp.refl _) (.cells (scells t) 25))); have HbT := Lib.hid (Blk.new w5 25 (scells t)); replace Hb := Lib.hid (Hb.out.keep hs Hb.out.lt); replace Ra := Lib.hid (Ra.out.keep hs); replace Rb := Lib.hid (Rb.out.keep hs); replace h0 := Stp.trans h0 hs; clear hs q0 q1 q2 q3 q4 q5 q6 q7 q8 q9 q10 q11 q12 q13; obtain ⟨q0, q1, q2, q3, q4, q5, q6, q7, q8, q9, q10, q11, q12, q13⟩ := st_cells Hb.out; replace Ra := Lib.hid (Ra.out.keep (Stp.alloc (Stp.refl _) (.cells (scells t) 25))); replace Rb := Lib.hid (Rb.out.keep (Stp.alloc (Stp.refl _) (.cells (scells t) 25))); replace Hb := Lib.hid (Hb.out.alloc (.cells (scells t) 25)); replace h0 := Stp.alloc h0 (.cells (scells t) 25); clear he q0 q1 q2 q3 q4 q5 q6 q7 q8 q9 q10 q11 q12 q13; obtain ⟨q0, q1, q2, q3, q4, q5, q6, q7, q8, q9, q10, q11, q12, q13⟩ := st_cells Hb.out; obtain ⟨t0, t1, t2, t3, t4, t5, t6, t7, t8, t9, t10, t11, t12, t13⟩ := st_cells HbT.out)
      | (go_at_call 16; (with_reducible refine (HI.out.run t _ rfl Ht.out b nb HnB.out Hn1000.out.2 HbB.out u y j m e2 H2.out Hj.out _ _ _ Rb.out).mono ?_); rintro e w6 ⟨B6, d6, rfl, he, hs⟩; have hs2 := Stp.alloc hs (.cells (scells u) 25); have He2 := Lib.hid (he.keep (Stp.alloc (Stp.refl _) (.cells (scells u) 25))); have HbU := Lib.hid (Blk.new w6 25 (scells u)); replace Ra := Lib.hid (Ra.out.keep hs2); replace Rb := Lib.hid (Rb.out.keep hs2); replace Hb := Lib.hid (Hb.out.keep hs2 Hb.out.lt); replace HbT := Lib.hid (HbT.out.keep hs2 HbT.out.lt); replace He1 := Lib.hid (He1.out.keep hs2); replace h0 := Stp.trans h0 hs2; clear he hs hs2 q0 q1 q2 q3 q4 q5 q6 q7 q8 q9 q10 q11 q12 q13 t0 t1 t2 t3 t4 t5 t6 t7 t8 t9 t10 t11 t12 t13))
  obtain ⟨gt, hgt⟩ : ∃ g, w5.heap.size = g := ⟨_, rfl⟩
  obtain ⟨gu, hgu⟩ : ∃ g, w6.heap.size = g := ⟨_, rfl⟩
  rw [hgt] at HbT
  rw [hgu] at HbU
  rw [hgt, hgu]
  obtain ⟨wx, hwx⟩ : ∃ x, w6.alloc (.cells (scells u) 25) = x := ⟨_, rfl⟩
  change Code.wp _ _ _ _ (w6.alloc (.cells (scells u) 25))
  rw [hwx] at HbT HbU He1 He2 Ra Rb Hb h0 ⊢
  have H0 := Lib.hid h0
  have key : ∀ W, Stp wx W → (Stp wx W ∧ (W.cell? ⟨w.heap.size, 0, none⟩ = some (.int .i64 s.phase) ∧ W.cell? ⟨w.heap.size, 1, none⟩ = some (.string ⟨s.node.path.toArray⟩) ∧ W.cell? ⟨w.heap.size, 2, none⟩ = some (.string ⟨s.node.link.toArray⟩) ∧ W.cell? ⟨w.heap.size, 3, none⟩ = some (.int .u8 (s.node.kind.toNat : Int)) ∧ W.cell? ⟨w.heap.size, 4, none⟩ = some (.int .i64 s.node.mode) ∧ W.cell? ⟨w.heap.size, 5, none⟩ = some (.int .i64 s.node.uid) ∧ W.cell? ⟨w.heap.size, 6, none⟩ = some (.int .i64 s.node.gid) ∧ W.cell? ⟨w.heap.size, 7, none⟩ = some (.int .i64 s.node.time) ∧ W.cell? ⟨w.heap.size, 8, none⟩ = some (.string ⟨s.node.data.toArray⟩) ∧ W.cell? ⟨w.heap.size, 9, none⟩ = some (.int .i64 s.size) ∧ W.cell? ⟨w.heap.size, 10, none⟩ = some (.int .i64 s.left) ∧ W.cell? ⟨w.heap.size, 11, none⟩ = some (.string ⟨s.text.toArray⟩) ∧ W.cell? ⟨w.heap.size, 12, none⟩ = some (.string ⟨s.name.toArray⟩) ∧ W.cell? ⟨w.heap.size, 13, none⟩ = some (.string ⟨s.link.toArray⟩))) := fun W hW => ⟨hW, st_cells (Hb.out.keep hW Hb.out.lt)⟩
  have Key := Lib.hid key
  clear key h0 hwx hgt hgu
  refine share7 (G := ?G) (R := fun v7 A8 c8 B9 d9 gg W7 => Blk W7 gg 25 (scells v) ∧ Stp wx W7 ∧ Hid (RdE W7 B9 d9 z)) (fun hfin => ?main) ?fin
  case main =>
    refine wp_region_held_drew (S := fun W : World => Stp wx W ∧ (W.cell? ⟨w.heap.size, 0, none⟩ = some (.int .i64 s.phase) ∧ W.cell? ⟨w.heap.size, 1, none⟩ = some (.string ⟨s.node.path.toArray⟩) ∧ W.cell? ⟨w.heap.size, 2, none⟩ = some (.string ⟨s.node.link.toArray⟩) ∧ W.cell? ⟨w.heap.size, 3, none⟩ = some (.int .u8 (s.node.kind.toNat : Int)) ∧ W.cell? ⟨w.heap.size, 4, none⟩ = some (.int .i64 s.node.mode) ∧ W.cell? ⟨w.heap.size, 5, none⟩ = some (.int .i64 s.node.uid) ∧ W.cell? ⟨w.heap.size, 6, none⟩ = some (.int .i64 s.node.gid) ∧ W.cell? ⟨w.heap.size, 7, none⟩ = some (.int .i64 s.node.time) ∧ W.cell? ⟨w.heap.size, 8, none⟩ = some (.string ⟨s.node.data.toArray⟩) ∧ W.cell? ⟨w.heap.size, 9, none⟩ = some (.int .i64 s.size) ∧ W.cell? ⟨w.heap.size, 10, none⟩ = some (.int .i64 s.left) ∧ W.cell? ⟨w.heap.size, 11, none⟩ = some (.string ⟨s.text.toArray⟩) ∧ W.cell? ⟨w.heap.size, 12, none⟩ = some (.string ⟨s.name.toArray⟩) ∧ W.cell? ⟨w.heap.size, 13, none⟩ = some (.string ⟨s.link.toArray⟩))) (by kernel_rfl) (Key.out _ (Head.stp_drew (Stp.refl _))) (fun hHeld => ?_)
    refine wpAnyH_take (i := 0) (oi := { dst := some 68, op := Go.Op.load 25 (Go.Operand.tmp 3), type := 25, pos := "law.go:120", after := #[], guard := none }) (v := ?v0a) rfl (by kernel_rfl) (by kernel_rfl) (by kernel_rfl) (fun _ _ _ h => h) (Or.inl ⟨by rfl, ?hy0a⟩) (by assumption) ?rest0a
    case hy0a => (intro w hSw; (try dsimp only at hSw); go_simp; try with_reducible rfl)
    try simp only [Act.put, List.setIfInBounds_toArray, List.set_cons_zero, List.set_cons_succ]
    refine wpAnyH_take (i := 1) (oi := { dst := some 69, op := Go.Op.move (Go.Operand.tmp 1), type := 35, pos := "law.go:120", after := #[], guard := none }) (v := ?v1a) rfl (by kernel_rfl) (by kernel_rfl) (by kernel_rfl) (fun _ _ _ h => h) (Or.inl ⟨by rfl, ?hy1a⟩) (by assumption) ?rest1a
    case hy1a => (intro w hSw; (try dsimp only at hSw); go_simp; try with_reducible rfl)
    try simp only [Act.put, List.setIfInBounds_toArray, List.set_cons_zero, List.set_cons_succ]
    refine wpAnyH_take (i := 3) (oi := { dst := some 71, op := Go.Op.move (Go.Operand.tmp 2), type := 35, pos := "law.go:120", after := #[], guard := none }) (v := ?v3a) rfl (by kernel_rfl) (by kernel_rfl) (by kernel_rfl) (fun _ _ _ h => h) (Or.inl ⟨by rfl, ?hy3a⟩) (by assumption) ?rest3a
    case hy3a => (intro w hSw; (try dsimp only at hSw); go_simp; try with_reducible rfl)
    try simp only [Act.put, List.setIfInBounds_toArray, List.set_cons_zero, List.set_cons_succ]
    refine wpAnyH_ready (rs := [2, 11]) (by kernel_rfl) (by simp) ?_
    refine AllReadyH.cons (o := { dst := some 70, op := Go.Op.call { callee := Go.Callee.builtin Go.Builtin.append, args := #[Go.Operand.const (Go.Value.slice none 0 0), Go.Operand.tmp 69], argTypes := #[35, 35] }, type := 35, pos := "law.go:120", after := #[{ on := 1, ground := Go.Ground.data }], guard := none }) rfl (fun K hK => ?wayc) (AllReadyH.cons (o := { dst := some 17, op := Go.Op.alloc 25, type := 0, pos := "law.go:120", after := #[], guard := none }) rfl (fun K hK => ?waya) AllReadyH.nil)
    case wayc =>
      refine step_app_rows2 _ rfl _ _ 35 rfl _ 26 Try.underlying35 (by kernel_rfl) _ [] rfl (Base.Rows.nil _ _ _) rfl (Ra.out.keep (Head.stp_drew (Stp.refl wx))) HnA.out (by have := Hl30.out; simp only [List.length_nil]; omega) (Nat.le_refl _) ?_
      intro v7 w7 hv7 hg7
      have HP := Lib.hid (Base.Rows.stp (Base.Rows.nil _ _ 26) (Stp.refl _) (Nat.le_refl _) hg7)
      have H7 := Lib.hid (Stp.trans (Head.stp_drew (Stp.refl wx)) HP.out)
      have HR7 := Lib.hid (show Base.Rows w7 _ 26 v7 a from hv7)
      clear hv7 hg7
      refine hK.out _ _ (Key.out _ (H7.out)) (fun hHeld2 => ?_)
      clear hK K hHeld
      have hHeld := hHeld2
      clear hHeld2
      try simp only [Act.put, List.setIfInBounds_toArray, List.set_cons_zero, List.set_cons_succ]
      refine wpAnyH_ready (rs := [4, 11]) (by kernel_rfl) (by simp) ?_
      refine AllReadyH.cons (o := { dst := some 72, op := Go.Op.call { callee := Go.Callee.builtin Go.Builtin.append, args := #[Go.Operand.tmp 70, Go.Operand.tmp 71], argTypes := #[35, 35] }, type := 35, pos := "law.go:120", after := #[{ on := 2, ground := Go.Ground.data }, { on := 3, ground := Go.Ground.data }, { on := 2, ground := Go.Ground.chain }], guard := none }) rfl (fun K hK => ?waycc) (AllReadyH.cons (o := { dst := some 17, op := Go.Op.alloc 25, type := 0, pos := "law.go:120", after := #[], guard := none }) rfl (fun K hK => ?wayca) AllReadyH.nil)
      case waycc =>
        refine step_app_rows2 _ rfl _ _ 35 rfl _ 26 Try.underlying35 (by kernel_rfl) _ a rfl (HR7.out.keep (Stp.refl _)) rfl (Rb.out.keep (H7.out)) HnB.out (by have := Hl30.out; omega) (HP.out.size) ?_
        intro v8 w8 hv8 hg8
        have H8 := Lib.hid (Base.Rows.stp (HR7.out.keep (Stp.refl _)) (H7.out) (Nat.le_refl _) hg8)
        obtain ⟨A8, c8, he8, hr8⟩ := Base.Rows.rdL hv8
        rw [HN.out] at he8
        subst he8
        have HR8 := Lib.hid hr8
        clear hv8 hg8 hr8
        refine hK.out _ _ (Key.out _ (H8.out)) (fun hHeld2 => ?_)
        clear hK K hHeld
        have hHeld := hHeld2
        clear hHeld2
        try simp only [Act.put, List.setIfInBounds_toArray, List.set_cons_zero, List.set_cons_succ]
        refine wpAnyH_ready (rs := [5, 11]) (by kernel_rfl) (by simp) ?_
        refine AllReadyH.cons (o := { dst := some 73, op := Go.Op.call { callee := Go.Callee.value (Go.Operand.func 16), args := #[Go.Operand.tmp 68, Go.Operand.tmp 72], argTypes := #[25, 35] }, type := 38, pos := "law.go:120", after := #[{ on := 0, ground := Go.Ground.data }, { on := 4, ground := Go.Ground.data }, { on := 4, ground := Go.Ground.chain }], guard := none }) rfl (fun K hK => ?wayccc) (AllReadyH.cons (o := { dst := some 17, op := Go.Op.alloc 25, type := 0, pos := "law.go:120", after := #[], guard := none }) rfl (fun K hK => ?waycca) AllReadyH.nil)
        case wayccc =>
          go_simp
          refine (HI.out.run s _ rfl Hs.out (a ++ b) N HN.out Hl60.out Hab.out v z k q e3 H3.out Hk.out _ _ _ (HR8.out.keep (Stp.refl _))).mono ?_
          rintro e w9 ⟨B9, d9, rfl, he, hs⟩
          have H9 := Lib.hid (Stp.trans (H8.out) hs)
          have He9 := Lib.hid he
          skip
          clear hs he
          go_wp2_with fail
          refine hK.out _ _ (Key.out _ (H9.out)) (fun hHeld2 => ?_)
          clear hK K hHeld
          have hHeld := hHeld2
          clear hHeld2
          try simp only [Act.put, List.setIfInBounds_toArray, List.set_cons_zero, List.set_cons_succ]
          refine wpAnyH_take (i := 6) (oi := { dst := some 67, op := Go.Op.move (Go.Operand.tmp 73), type := 38, pos := "law.go:120", after := #[{ on := 5, ground := Go.Ground.data }], guard := none }) (v := ?v6e) rfl (by kernel_rfl) (by kernel_rfl) (by kernel_rfl) (fun _ _ _ h => h) (Or.inl ⟨by rfl, ?hy6e⟩) (by assumption) ?rest6e
          case hy6e => (intro w hSw; (try dsimp only at hSw); go_simp; try with_reducible rfl)
          try simp only [Act.put, List.setIfInBounds_toArray, List.set_cons_zero, List.set_cons_succ]
          refine wpAnyH_take (i := 7) (oi := { dst := some 74, op := Go.Op.extract (Go.Operand.tmp 67) 0, type := 25, pos := "law.go:120", after := #[{ on := 6, ground := Go.Ground.data }], guard := none }) (v := ?v7e) rfl (by kernel_rfl) (by kernel_rfl) (by kernel_rfl) (fun _ _ _ h => h) (Or.inl ⟨by rfl, ?hy7e⟩) (by assumption) ?rest7e
          case hy7e => (intro w hSw; (try dsimp only at hSw); go_simp; try with_reducible rfl)
          try simp only [Act.put, List.setIfInBounds_toArray, List.set_cons_zero, List.set_cons_succ]
          refine wpAnyH_take (i := 8) (oi := { dst := some 75, op := Go.Op.extract (Go.Operand.tmp 67) 1, type := 29, pos := "law.go:120", after := #[{ on := 6, ground := Go.Ground.data }, { on := 12, ground := Go.Ground.gcOnly Go.Departure.lateStores }], guard := none }) (v := ?v8e) rfl (by kernel_rfl) (by kernel_rfl) (by kernel_rfl) (fun _ _ _ h => h) (Or.inl ⟨by rfl, ?hy8e⟩) (by assumption) ?rest8e
          case hy8e => (intro w hSw; (try dsimp only at hSw); go_simp; try with_reducible rfl)
          try simp only [Act.put, List.setIfInBounds_toArray, List.set_cons_zero, List.set_cons_succ]
          refine wpAnyH_take (i := 9) (oi := { dst := some 76, op := Go.Op.extract (Go.Operand.tmp 67) 2, type := 3, pos := "law.go:120", after := #[{ on := 6, ground := Go.Ground.data }, { on := 13, ground := Go.Ground.gcOnly Go.Departure.lateStores }], guard := none }) (v := ?v9e) rfl (by kernel_rfl) (by kernel_rfl) (by kernel_rfl) (fun _ _ _ h => h) (Or.inl ⟨by rfl, ?hy9e⟩) (by assumption) ?rest9e
          case hy9e => (intro w hSw; (try dsimp only at hSw); go_simp; try with_reducible rfl)
          try simp only [Act.put, List.setIfInBounds_toArray, List.set_cons_zero, List.set_cons_succ]
          refine wpAnyH_take (i := 10) (oi := { dst := some 77, op := Go.Op.extract (Go.Operand.tmp 67) 3, type := 30, pos := "law.go:120", after := #[{ on := 6, ground := Go.Ground.data }, { on := 14, ground := Go.Ground.gcOnly Go.Departure.lateStores }], guard := none }) (v := ?v10e) rfl (by kernel_rfl) (by kernel_rfl) (by kernel_rfl) (fun _ _ _ h => h) (Or.inl ⟨by rfl, ?hy10e⟩) (by assumption) ?rest10e
          case hy10e => (intro w hSw; (try dsimp only at hSw); go_simp; try with_reducible rfl)
          try simp only [Act.put, List.setIfInBounds_toArray, List.set_cons_zero, List.set_cons_succ]
          refine wpAnyH_ready (rs := [11]) (by kernel_rfl) (by simp) ?_
          refine AllReadyH.cons (o := { dst := some 17, op := Go.Op.alloc 25, type := 0, pos := "law.go:120", after := #[], guard := none }) rfl (fun K hK => ?_) AllReadyH.nil
          go_simp
          refine hK.out _ _ (Key.out _ (Stp.alloc H9.out _)) (fun hHeld2 => ?_)
          clear hK K hHeld
          have hHeld := hHeld2
          clear hHeld2
          try simp only [Act.put, List.setIfInBounds_toArray, List.set_cons_zero, List.set_cons_succ]
          refine wpAnyH_ready (rs := [12]) (by kernel_rfl) (by simp) ?_
          refine AllReadyH.cons (o := { dst := none, op := Go.Op.store 25 (Go.Operand.tmp 17) (Go.Operand.tmp 74), type := 0, pos := "law.go:120", after := #[{ on := 11, ground := Go.Ground.data }, { on := 7, ground := Go.Ground.data }, { on := 5, ground := Go.Ground.chain }, { on := 0, ground := Go.Ground.phase }, { on := 1, ground := Go.Ground.phase }, { on := 2, ground := Go.Ground.phase }, { on := 3, ground := Go.Ground.phase }, { on := 4, ground := Go.Ground.phase }, { on := 5, ground := Go.Ground.phase }, { on := 6, ground := Go.Ground.phase }, { on := 7, ground := Go.Ground.phase }, { on := 8, ground := Go.Ground.textOnly Go.Departure.lateStores }, { on := 9, ground := Go.Ground.textOnly Go.Departure.lateStores }, { on := 10, ground := Go.Ground.textOnly Go.Departure.lateStores }, { on := 11, ground := Go.Ground.phase }], guard := none }) rfl (fun K hK => ?_) AllReadyH.nil
          go_simp
          refine hK.out _ _ (Key.out _ (Stp.alloc H9.out _)) (fun hHeld2 => ?_)
          clear hK K hHeld
          have hHeld := hHeld2
          clear hHeld2
          try simp only [Act.put, List.setIfInBounds_toArray, List.set_cons_zero, List.set_cons_succ]
          refine wpAnyH_take (i := 13) (oi := { dst := some 18, op := Go.Op.assign (Go.Operand.tmp 75), type := 29, pos := "law.go:120", after := #[{ on := 8, ground := Go.Ground.data }, { on := 12, ground := Go.Ground.chain }, { on := 0, ground := Go.Ground.phase }, { on := 1, ground := Go.Ground.phase }, { on := 2, ground := Go.Ground.phase }, { on := 3, ground := Go.Ground.phase }, { on := 4, ground := Go.Ground.phase }, { on := 5, ground := Go.Ground.phase }, { on := 6, ground := Go.Ground.phase }, { on := 7, ground := Go.Ground.phase }, { on := 8, ground := Go.Ground.phase }, { on := 9, ground := Go.Ground.textOnly Go.Departure.lateStores }, { on := 10, ground := Go.Ground.textOnly Go.Departure.lateStores }, { on := 11, ground := Go.Ground.phase }, { on := 12, ground := Go.Ground.phase }], guard := none }) (v := ?v13e) rfl (by kernel_rfl) (by kernel_rfl) (by kernel_rfl) (fun _ _ _ h => h) (Or.inl ⟨by rfl, ?hy13e⟩) (by assumption) ?rest13e
          case hy13e => (intro w hSw; (try dsimp only at hSw); go_simp; try with_reducible rfl)
          try simp only [Act.put, List.setIfInBounds_toArray, List.set_cons_zero, List.set_cons_succ]
          refine wpAnyH_take (i := 14) (oi := { dst := some 19, op := Go.Op.assign (Go.Operand.tmp 76), type := 3, pos := "law.go:120", after := #[{ on := 9, ground := Go.Ground.data }, { on := 13, ground := Go.Ground.chain }, { on := 0, ground := Go.Ground.phase }, { on := 1, ground := Go.Ground.phase }, { on := 2, ground := Go.Ground.phase }, { on := 3, ground := Go.Ground.phase }, { on := 4, ground := Go.Ground.phase }, { on := 5, ground := Go.Ground.phase }, { on := 6, ground := Go.Ground.phase }, { on := 7, ground := Go.Ground.phase }, { on := 8, ground := Go.Ground.phase }, { on := 9, ground := Go.Ground.phase }, { on := 10, ground := Go.Ground.textOnly Go.Departure.lateStores }, { on := 11, ground := Go.Ground.phase }, { on := 12, ground := Go.Ground.phase }, { on := 13, ground := Go.Ground.phase }], guard := none }) (v := ?v14e) rfl (by kernel_rfl) (by kernel_rfl) (by kernel_rfl) (fun _ _ _ h => h) (Or.inl ⟨by rfl, ?hy14e⟩) (by assumption) ?rest14e
          case hy14e => (intro w hSw; (try dsimp only at hSw); go_simp; try with_reducible rfl)
          try simp only [Act.put, List.setIfInBounds_toArray, List.set_cons_zero, List.set_cons_succ]
          refine wpAnyH_take (i := 15) (oi := { dst := some 20, op := Go.Op.assign (Go.Operand.tmp 77), type := 30, pos := "law.go:120", after := #[{ on := 10, ground := Go.Ground.data }, { on := 14, ground := Go.Ground.chain }, { on := 0, ground := Go.Ground.phase }, { on := 1, ground := Go.Ground.phase }, { on := 2, ground := Go.Ground.phase }, { on := 3, ground := Go.Ground.phase }, { on := 4, ground := Go.Ground.phase }, { on := 5, ground := Go.Ground.phase }, { on := 6, ground := Go.Ground.phase }, { on := 7, ground := Go.Ground.phase }, { on := 8, ground := Go.Ground.phase }, { on := 9, ground := Go.Ground.phase }, { on := 10, ground := Go.Ground.phase }, { on := 11, ground := Go.Ground.phase }, { on := 12, ground := Go.Ground.phase }, { on := 13, ground := Go.Ground.phase }, { on := 14, ground := Go.Ground.phase }], guard := none }) (v := ?v15e) rfl (by kernel_rfl) (by kernel_rfl) (by kernel_rfl) (fun _ _ _ h => h) (Or.inl ⟨by rfl, ?hy15e⟩) (by assumption) ?rest15e
          case hy15e => (intro w hSw; (try dsimp only at hSw); go_simp; try with_reducible rfl)
          try simp only [Act.put, List.setIfInBounds_toArray, List.set_cons_zero, List.set_cons_succ]
          refine wpAnyH_done (by kernel_rfl) ?_ _
          change Exit.then _ _ Exit.normal _ (w9.alloc (.cells (scells v) 25))
          have hB := Blk.new w9 25 (scells v)
          have hW := Stp.alloc H9.out (.cells (scells v) 25)
          have hE := Lib.hid (He9.out.keep (Stp.alloc (Stp.refl _) (.cells (scells v) 25)))
          generalize w9.alloc (.cells (scells v) 25) = W7 at hB hW hE ⊢
          generalize w9.heap.size = gg at hB ⊢
          exact hfin v7 A8 c8 B9 d9 gg W7 ⟨hB, hW, hE⟩
        case waycca =>
          go_simp
          refine hK.out _ _ (Key.out _ (Stp.alloc H8.out _)) (fun hHeld2 => ?_)
          clear hK K hHeld
          have hHeld := hHeld2
          clear hHeld2
          try simp only [Act.put, List.setIfInBounds_toArray, List.set_cons_zero, List.set_cons_succ]
          refine wpAnyH_ready (rs := [5]) (by kernel_rfl) (by simp) ?_
          refine AllReadyH.cons (o := { dst := some 73, op := Go.Op.call { callee := Go.Callee.value (Go.Operand.func 16), args := #[Go.Operand.tmp 68, Go.Operand.tmp 72], argTypes := #[25, 35] }, type := 38, pos := "law.go:120", after := #[{ on := 0, ground := Go.Ground.data }, { on := 4, ground := Go.Ground.data }, { on := 4, ground := Go.Ground.chain }], guard := none }) rfl (fun K hK => ?_) AllReadyH.nil
          go_simp
          refine (HI.out.run s _ rfl Hs.out (a ++ b) N HN.out Hl60.out Hab.out v z k q e3 H3.out Hk.out _ _ _ (HR8.out.keep (Stp.alloc (Stp.refl _) _))).mono ?_
          rintro e w9 ⟨B9, d9, rfl, he, hs⟩
          have H9 := Lib.hid (Stp.trans (Stp.alloc H8.out _) hs)
          have He9 := Lib.hid he
          have Hz := Lib.hid (Blk.keep (Blk.new w8 25 (scells zeroS)) hs (Blk.lt (Blk.new w8 25 (scells zeroS))))
          clear hs he
          go_wp2_with fail
          refine hK.out _ _ (Key.out _ (H9.out)) (fun hHeld2 => ?_)
          clear hK K hHeld
          have hHeld := hHeld2
          clear hHeld2
          try simp only [Act.put, List.setIfInBounds_toArray, List.set_cons_zero, List.set_cons_succ]
          refine wpAnyH_take (i := 6) (oi := { dst := some 67, op := Go.Op.move (Go.Operand.tmp 73), type := 38, pos := "law.go:120", after := #[{ on := 5, ground := Go.Ground.data }], guard := none }) (v := ?v6f) rfl (by kernel_rfl) (by kernel_rfl) (by kernel_rfl) (fun _ _ _ h => h) (Or.inl ⟨by rfl, ?hy6f⟩) (by assumption) ?rest6f
          case hy6f => (intro w hSw; (try dsimp only at hSw); go_simp; try with_reducible rfl)
          try simp only [Act.put, List.setIfInBounds_toArray, List.set_cons_zero, List.set_cons_succ]
          refine wpAnyH_take (i := 7) (oi := { dst := some 74, op := Go.Op.extract (Go.Operand.tmp 67) 0, type := 25, pos := "law.go:120", after := #[{ on := 6, ground := Go.Ground.data }], guard := none }) (v := ?v7f) rfl (by kernel_rfl) (by kernel_rfl) (by kernel_rfl) (fun _ _ _ h => h) (Or.inl ⟨by rfl, ?hy7f⟩) (by assumption) ?rest7f
          case hy7f => (intro w hSw; (try dsimp only at hSw); go_simp; try with_reducible rfl)
          try simp only [Act.put, List.setIfInBounds_toArray, List.set_cons_zero, List.set_cons_succ]
          refine wpAnyH_take (i := 8) (oi := { dst := some 75, op := Go.Op.extract (Go.Operand.tmp 67) 1, type := 29, pos := "law.go:120", after := #[{ on := 6, ground := Go.Ground.data }, { on := 12, ground := Go.Ground.gcOnly Go.Departure.lateStores }], guard := none }) (v := ?v8f) rfl (by kernel_rfl) (by kernel_rfl) (by kernel_rfl) (fun _ _ _ h => h) (Or.inl ⟨by rfl, ?hy8f⟩) (by assumption) ?rest8f
          case hy8f => (intro w hSw; (try dsimp only at hSw); go_simp; try with_reducible rfl)
          try simp only [Act.put, List.setIfInBounds_toArray, List.set_cons_zero, List.set_cons_succ]
          refine wpAnyH_take (i := 9) (oi := { dst := some 76, op := Go.Op.extract (Go.Operand.tmp 67) 2, type := 3, pos := "law.go:120", after := #[{ on := 6, ground := Go.Ground.data }, { on := 13, ground := Go.Ground.gcOnly Go.Departure.lateStores }], guard := none }) (v := ?v9f) rfl (by kernel_rfl) (by kernel_rfl) (by kernel_rfl) (fun _ _ _ h => h) (Or.inl ⟨by rfl, ?hy9f⟩) (by assumption) ?rest9f
          case hy9f => (intro w hSw; (try dsimp only at hSw); go_simp; try with_reducible rfl)
          try simp only [Act.put, List.setIfInBounds_toArray, List.set_cons_zero, List.set_cons_succ]
          refine wpAnyH_take (i := 10) (oi := { dst := some 77, op := Go.Op.extract (Go.Operand.tmp 67) 3, type := 30, pos := "law.go:120", after := #[{ on := 6, ground := Go.Ground.data }, { on := 14, ground := Go.Ground.gcOnly Go.Departure.lateStores }], guard := none }) (v := ?v10f) rfl (by kernel_rfl) (by kernel_rfl) (by kernel_rfl) (fun _ _ _ h => h) (Or.inl ⟨by rfl, ?hy10f⟩) (by assumption) ?rest10f
          case hy10f => (intro w hSw; (try dsimp only at hSw); go_simp; try with_reducible rfl)
          try simp only [Act.put, List.setIfInBounds_toArray, List.set_cons_zero, List.set_cons_succ]
          obtain ⟨z0, z1, z2, z3, z4, z5, z6, z7, z8, z9, z10, z11, z12, z13⟩ := st_cells Hz.out
          obtain ⟨y0, y1, y2, y3, y4, y5, y6, y7, y8, y9, y10, y11, y12, y13⟩ := st_free Hz.out
          refine wpAnyH_ready (rs := [12]) (by kernel_rfl) (by simp) ?_
          refine AllReadyH.cons (o := { dst := none, op := Go.Op.store 25 (Go.Operand.tmp 17) (Go.Operand.tmp 74), type := 0, pos := "law.go:120", after := #[{ on := 11, ground := Go.Ground.data }, { on := 7, ground := Go.Ground.data }, { on := 5, ground := Go.Ground.chain }, { on := 0, ground := Go.Ground.phase }, { on := 1, ground := Go.Ground.phase }, { on := 2, ground := Go.Ground.phase }, { on := 3, ground := Go.Ground.phase }, { on := 4, ground := Go.Ground.phase }, { on := 5, ground := Go.Ground.phase }, { on := 6, ground := Go.Ground.phase }, { on := 7, ground := Go.Ground.phase }, { on := 8, ground := Go.Ground.textOnly Go.Departure.lateStores }, { on := 9, ground := Go.Ground.textOnly Go.Departure.lateStores }, { on := 10, ground := Go.Ground.textOnly Go.Departure.lateStores }, { on := 11, ground := Go.Ground.phase }], guard := none }) rfl (fun K hK => ?_) AllReadyH.nil
          go_simp
          refine hK.out _ _ (Key.out _ (fills_stp v H9.out (H8.out.size))) (fun hHeld2 => ?_)
          clear hK K hHeld
          have hHeld := hHeld2
          clear hHeld2
          try simp only [Act.put, List.setIfInBounds_toArray, List.set_cons_zero, List.set_cons_succ]
          clear z0 z1 z2 z3 z4 z5 z6 z7 z8 z9 z10 z11 z12 z13 y0 y1 y2 y3 y4 y5 y6 y7 y8 y9 y10 y11 y12 y13
          refine wpAnyH_take (i := 13) (oi := { dst := some 18, op := Go.Op.assign (Go.Operand.tmp 75), type := 29, pos := "law.go:120", after := #[{ on := 8, ground := Go.Ground.data }, { on := 12, ground := Go.Ground.chain }, { on := 0, ground := Go.Ground.phase }, { on := 1, ground := Go.Ground.phase }, { on := 2, ground := Go.Ground.phase }, { on := 3, ground := Go.Ground.phase }, { on := 4, ground := Go.Ground.phase }, { on := 5, ground := Go.Ground.phase }, { on := 6, ground := Go.Ground.phase }, { on := 7, ground := Go.Ground.phase }, { on := 8, ground := Go.Ground.phase }, { on := 9, ground := Go.Ground.textOnly Go.Departure.lateStores }, { on := 10, ground := Go.Ground.textOnly Go.Departure.lateStores }, { on := 11, ground := Go.Ground.phase }, { on := 12, ground := Go.Ground.phase }], guard := none }) (v := ?v13f) rfl (by kernel_rfl) (by kernel_rfl) (by kernel_rfl) (fun _ _ _ h => h) (Or.inl ⟨by rfl, ?hy13f⟩) (by assumption) ?rest13f
          case hy13f => (intro w hSw; (try dsimp only at hSw); go_simp; try with_reducible rfl)
          try simp only [Act.put, List.setIfInBounds_toArray, List.set_cons_zero, List.set_cons_succ]
          refine wpAnyH_take (i := 14) (oi := { dst := some 19, op := Go.Op.assign (Go.Operand.tmp 76), type := 3, pos := "law.go:120", after := #[{ on := 9, ground := Go.Ground.data }, { on := 13, ground := Go.Ground.chain }, { on := 0, ground := Go.Ground.phase }, { on := 1, ground := Go.Ground.phase }, { on := 2, ground := Go.Ground.phase }, { on := 3, ground := Go.Ground.phase }, { on := 4, ground := Go.Ground.phase }, { on := 5, ground := Go.Ground.phase }, { on := 6, ground := Go.Ground.phase }, { on := 7, ground := Go.Ground.phase }, { on := 8, ground := Go.Ground.phase }, { on := 9, ground := Go.Ground.phase }, { on := 10, ground := Go.Ground.textOnly Go.Departure.lateStores }, { on := 11, ground := Go.Ground.phase }, { on := 12, ground := Go.Ground.phase }, { on := 13, ground := Go.Ground.phase }], guard := none }) (v := ?v14f) rfl (by kernel_rfl) (by kernel_rfl) (by kernel_rfl) (fun _ _ _ h => h) (Or.inl ⟨by rfl, ?hy14f⟩) (by assumption) ?rest14f
          case hy14f => (intro w hSw; (try dsimp only at hSw); go_simp; try with_reducible rfl)
          try simp only [Act.put, List.setIfInBounds_toArray, List.set_cons_zero, List.set_cons_succ]
          refine wpAnyH_take (i := 15) (oi := { dst := some 20, op := Go.Op.assign (Go.Operand.tmp 77), type := 30, pos := "law.go:120", after := #[{ on := 10, ground := Go.Ground.data }, { on := 14, ground := Go.Ground.chain }, { on := 0, ground := Go.Ground.phase }, { on := 1, ground := Go.Ground.phase }, { on := 2, ground := Go.Ground.phase }, { on := 3, ground := Go.Ground.phase }, { on := 4, ground := Go.Ground.phase }, { on := 5, ground := Go.Ground.phase }, { on := 6, ground := Go.Ground.phase }, { on := 7, ground := Go.Ground.phase }, { on := 8, ground := Go.Ground.phase }, { on := 9, ground := Go.Ground.phase }, { on := 10, ground := Go.Ground.phase }, { on := 11, ground := Go.Ground.phase }, { on := 12, ground := Go.Ground.phase }, { on := 13, ground := Go.Ground.phase }, { on := 14, ground := Go.Ground.phase }], guard := none }) (v := ?v15f) rfl (by kernel_rfl) (by kernel_rfl) (by kernel_rfl) (fun _ _ _ h => h) (Or.inl ⟨by rfl, ?hy15f⟩) (by assumption) ?rest15f
          case hy15f => (intro w hSw; (try dsimp only at hSw); go_simp; try with_reducible rfl)
          try simp only [Act.put, List.setIfInBounds_toArray, List.set_cons_zero, List.set_cons_succ]
          refine wpAnyH_done (by kernel_rfl) ?_ _
          change Exit.then _ _ Exit.normal _ (fillS w9 w8.heap.size v)
          have hB := fills_blk v Hz.out
          have hW := fills_stp (g := w8.heap.size) v H9.out (H8.out.size)
          have hE := Lib.hid (rde_fills v He9.out Hz.out)
          generalize fillS w9 w8.heap.size v = W7 at hB hW hE ⊢
          generalize w8.heap.size = gg at hB ⊢
          exact hfin v7 A8 c8 B9 d9 gg W7 ⟨hB, hW, hE⟩
      case wayca =>
        go_simp
        refine hK.out _ _ (Key.out _ (Stp.alloc H7.out _)) (fun hHeld2 => ?_)
        clear hK K hHeld
        have hHeld := hHeld2
        clear hHeld2
        try simp only [Act.put, List.setIfInBounds_toArray, List.set_cons_zero, List.set_cons_succ]
        refine wpAnyH_ready (rs := [4]) (by kernel_rfl) (by simp) ?_
        refine AllReadyH.cons (o := { dst := some 72, op := Go.Op.call { callee := Go.Callee.builtin Go.Builtin.append, args := #[Go.Operand.tmp 70, Go.Operand.tmp 71], argTypes := #[35, 35] }, type := 35, pos := "law.go:120", after := #[{ on := 2, ground := Go.Ground.data }, { on := 3, ground := Go.Ground.data }, { on := 2, ground := Go.Ground.chain }], guard := none }) rfl (fun K hK => ?_) AllReadyH.nil
        refine step_app_rows2 _ rfl _ _ 35 rfl _ 26 Try.underlying35 (by kernel_rfl) _ a rfl (HR7.out.keep (Stp.alloc (Stp.refl _) _)) rfl (Rb.out.keep (Stp.alloc H7.out _)) HnB.out (by have := Hl30.out; omega) (Nat.le_trans HP.out.size (Below.size (Stp.alloc (Stp.refl w7) _))) ?_
        intro v8 w8 hv8 hg8
        have H8 := Lib.hid (Base.Rows.stp (HR7.out.keep (Stp.alloc (Stp.refl _) _)) (Stp.alloc H7.out _) (Nat.le_refl _) hg8)
        have Hz8 := Lib.hid (Blk.grown (Blk.new w7 25 (scells zeroS)) hg8 (rows_far HR7.out))
        obtain ⟨A8, c8, he8, hr8⟩ := Base.Rows.rdL hv8
        rw [HN.out] at he8
        subst he8
        have HR8 := Lib.hid hr8
        clear hv8 hg8 hr8
        refine hK.out _ _ (Key.out _ (H8.out)) (fun hHeld2 => ?_)
        clear hK K hHeld
        have hHeld := hHeld2
        clear hHeld2
        try simp only [Act.put, List.setIfInBounds_toArray, List.set_cons_zero, List.set_cons_succ]
        refine wpAnyH_ready (rs := [5]) (by kernel_rfl) (by simp) ?_
        refine AllReadyH.cons (o := { dst := some 73, op := Go.Op.call { callee := Go.Callee.value (Go.Operand.func 16), args := #[Go.Operand.tmp 68, Go.Operand.tmp 72], argTypes := #[25, 35] }, type := 38, pos := "law.go:120", after := #[{ on := 0, ground := Go.Ground.data }, { on := 4, ground := Go.Ground.data }, { on := 4, ground := Go.Ground.chain }], guard := none }) rfl (fun K hK => ?_) AllReadyH.nil
        go_simp
        refine (HI.out.run s _ rfl Hs.out (a ++ b) N HN.out Hl60.out Hab.out v z k q e3 H3.out Hk.out _ _ _ (HR8.out.keep (Stp.refl _))).mono ?_
        rintro e w9 ⟨B9, d9, rfl, he, hs⟩
        have H9 := Lib.hid (Stp.trans (H8.out) hs)
        have He9 := Lib.hid he
        have Hz := Lib.hid (Blk.keep Hz8.out hs (Blk.lt Hz8.out))
        clear hs he
        go_wp2_with fail
        refine hK.out _ _ (Key.out _ (H9.out)) (fun hHeld2 => ?_)
        clear hK K hHeld
        have hHeld := hHeld2
        clear hHeld2
        try simp only [Act.put, List.setIfInBounds_toArray, List.set_cons_zero, List.set_cons_succ]
        refine wpAnyH_take (i := 6) (oi := { dst := some 67, op := Go.Op.move (Go.Operand.tmp 73), type := 38, pos := "law.go:120", after := #[{ on := 5, ground := Go.Ground.data }], guard := none }) (v := ?v6g) rfl (by kernel_rfl) (by kernel_rfl) (by kernel_rfl) (fun _ _ _ h => h) (Or.inl ⟨by rfl, ?hy6g⟩) (by assumption) ?rest6g
        case hy6g => (intro w hSw; (try dsimp only at hSw); go_simp; try with_reducible rfl)
        try simp only [Act.put, List.setIfInBounds_toArray, List.set_cons_zero, List.set_cons_succ]
        refine wpAnyH_take (i := 7) (oi := { dst := some 74, op := Go.Op.extract (Go.Operand.tmp 67) 0, type := 25, pos := "law.go:120", after := #[{ on := 6, ground := Go.Ground.data }], guard := none }) (v := ?v7g) rfl (by kernel_rfl) (by kernel_rfl) (by kernel_rfl) (fun _ _ _ h => h) (Or.inl ⟨by rfl, ?hy7g⟩) (by assumption) ?rest7g
        case hy7g => (intro w hSw; (try dsimp only at hSw); go_simp; try with_reducible rfl)
        try simp only [Act.put, List.setIfInBounds_toArray, List.set_cons_zero, List.set_cons_succ]
        refine wpAnyH_take (i := 8) (oi := { dst := some 75, op := Go.Op.extract (Go.Operand.tmp 67) 1, type := 29, pos := "law.go:120", after := #[{ on := 6, ground := Go.Ground.data }, { on := 12, ground := Go.Ground.gcOnly Go.Departure.lateStores }], guard := none }) (v := ?v8g) rfl (by kernel_rfl) (by kernel_rfl) (by kernel_rfl) (fun _ _ _ h => h) (Or.inl ⟨by rfl, ?hy8g⟩) (by assumption) ?rest8g
        case hy8g => (intro w hSw; (try dsimp only at hSw); go_simp; try with_reducible rfl)
        try simp only [Act.put, List.setIfInBounds_toArray, List.set_cons_zero, List.set_cons_succ]
        refine wpAnyH_take (i := 9) (oi := { dst := some 76, op := Go.Op.extract (Go.Operand.tmp 67) 2, type := 3, pos := "law.go:120", after := #[{ on := 6, ground := Go.Ground.data }, { on := 13, ground := Go.Ground.gcOnly Go.Departure.lateStores }], guard := none }) (v := ?v9g) rfl (by kernel_rfl) (by kernel_rfl) (by kernel_rfl) (fun _ _ _ h => h) (Or.inl ⟨by rfl, ?hy9g⟩) (by assumption) ?rest9g
        case hy9g => (intro w hSw; (try dsimp only at hSw); go_simp; try with_reducible rfl)
        try simp only [Act.put, List.setIfInBounds_toArray, List.set_cons_zero, List.set_cons_succ]
        refine wpAnyH_take (i := 10) (oi := { dst := some 77, op := Go.Op.extract (Go.Operand.tmp 67) 3, type := 30, pos := "law.go:120", after := #[{ on := 6, ground := Go.Ground.data }, { on := 14, ground := Go.Ground.gcOnly Go.Departure.lateStores }], guard := none }) (v := ?v10g) rfl (by kernel_rfl) (by kernel_rfl) (by kernel_rfl) (fun _ _ _ h => h) (Or.inl ⟨by rfl, ?hy10g⟩) (by assumption) ?rest10g
        case hy10g => (intro w hSw; (try dsimp only at hSw); go_simp; try with_reducible rfl)
        try simp only [Act.put, List.setIfInBounds_toArray, List.set_cons_zero, List.set_cons_succ]
        obtain ⟨z0, z1, z2, z3, z4, z5, z6, z7, z8, z9, z10, z11, z12, z13⟩ := st_cells Hz.out
        obtain ⟨y0, y1, y2, y3, y4, y5, y6, y7, y8, y9, y10, y11, y12, y13⟩ := st_free Hz.out
        refine wpAnyH_ready (rs := [12]) (by kernel_rfl) (by simp) ?_
        refine AllReadyH.cons (o := { dst := none, op := Go.Op.store 25 (Go.Operand.tmp 17) (Go.Operand.tmp 74), type := 0, pos := "law.go:120", after := #[{ on := 11, ground := Go.Ground.data }, { on := 7, ground := Go.Ground.data }, { on := 5, ground := Go.Ground.chain }, { on := 0, ground := Go.Ground.phase }, { on := 1, ground := Go.Ground.phase }, { on := 2, ground := Go.Ground.phase }, { on := 3, ground := Go.Ground.phase }, { on := 4, ground := Go.Ground.phase }, { on := 5, ground := Go.Ground.phase }, { on := 6, ground := Go.Ground.phase }, { on := 7, ground := Go.Ground.phase }, { on := 8, ground := Go.Ground.textOnly Go.Departure.lateStores }, { on := 9, ground := Go.Ground.textOnly Go.Departure.lateStores }, { on := 10, ground := Go.Ground.textOnly Go.Departure.lateStores }, { on := 11, ground := Go.Ground.phase }], guard := none }) rfl (fun K hK => ?_) AllReadyH.nil
        go_simp
        refine hK.out _ _ (Key.out _ (fills_stp v H9.out (H7.out.size))) (fun hHeld2 => ?_)
        clear hK K hHeld
        have hHeld := hHeld2
        clear hHeld2
        try simp only [Act.put, List.setIfInBounds_toArray, List.set_cons_zero, List.set_cons_succ]
        clear z0 z1 z2 z3 z4 z5 z6 z7 z8 z9 z10 z11 z12 z13 y0 y1 y2 y3 y4 y5 y6 y7 y8 y9 y10 y11 y12 y13
        refine wpAnyH_take (i := 13) (oi := { dst := some 18, op := Go.Op.assign (Go.Operand.tmp 75), type := 29, pos := "law.go:120", after := #[{ on := 8, ground := Go.Ground.data }, { on := 12, ground := Go.Ground.chain }, { on := 0, ground := Go.Ground.phase }, { on := 1, ground := Go.Ground.phase }, { on := 2, ground := Go.Ground.phase }, { on := 3, ground := Go.Ground.phase }, { on := 4, ground := Go.Ground.phase }, { on := 5, ground := Go.Ground.phase }, { on := 6, ground := Go.Ground.phase }, { on := 7, ground := Go.Ground.phase }, { on := 8, ground := Go.Ground.phase }, { on := 9, ground := Go.Ground.textOnly Go.Departure.lateStores }, { on := 10, ground := Go.Ground.textOnly Go.Departure.lateStores }, { on := 11, ground := Go.Ground.phase }, { on := 12, ground := Go.Ground.phase }], guard := none }) (v := ?v13g) rfl (by kernel_rfl) (by kernel_rfl) (by kernel_rfl) (fun _ _ _ h => h) (Or.inl ⟨by rfl, ?hy13g⟩) (by assumption) ?rest13g
        case hy13g => (intro w hSw; (try dsimp only at hSw); go_simp; try with_reducible rfl)
        try simp only [Act.put, List.setIfInBounds_toArray, List.set_cons_zero, List.set_cons_succ]
        refine wpAnyH_take (i := 14) (oi := { dst := some 19, op := Go.Op.assign (Go.Operand.tmp 76), type := 3, pos := "law.go:120", after := #[{ on := 9, ground := Go.Ground.data }, { on := 13, ground := Go.Ground.chain }, { on := 0, ground := Go.Ground.phase }, { on := 1, ground := Go.Ground.phase }, { on := 2, ground := Go.Ground.phase }, { on := 3, ground := Go.Ground.phase }, { on := 4, ground := Go.Ground.phase }, { on := 5, ground := Go.Ground.phase }, { on := 6, ground := Go.Ground.phase }, { on := 7, ground := Go.Ground.phase }, { on := 8, ground := Go.Ground.phase }, { on := 9, ground := Go.Ground.phase }, { on := 10, ground := Go.Ground.textOnly Go.Departure.lateStores }, { on := 11, ground := Go.Ground.phase }, { on := 12, ground := Go.Ground.phase }, { on := 13, ground := Go.Ground.phase }], guard := none }) (v := ?v14g) rfl (by kernel_rfl) (by kernel_rfl) (by kernel_rfl) (fun _ _ _ h => h) (Or.inl ⟨by rfl, ?hy14g⟩) (by assumption) ?rest14g
        case hy14g => (intro w hSw; (try dsimp only at hSw); go_simp; try with_reducible rfl)
        try simp only [Act.put, List.setIfInBounds_toArray, List.set_cons_zero, List.set_cons_succ]
        refine wpAnyH_take (i := 15) (oi := { dst := some 20, op := Go.Op.assign (Go.Operand.tmp 77), type := 30, pos := "law.go:120", after := #[{ on := 10, ground := Go.Ground.data }, { on := 14, ground := Go.Ground.chain }, { on := 0, ground := Go.Ground.phase }, { on := 1, ground := Go.Ground.phase }, { on := 2, ground := Go.Ground.phase }, { on := 3, ground := Go.Ground.phase }, { on := 4, ground := Go.Ground.phase }, { on := 5, ground := Go.Ground.phase }, { on := 6, ground := Go.Ground.phase }, { on := 7, ground := Go.Ground.phase }, { on := 8, ground := Go.Ground.phase }, { on := 9, ground := Go.Ground.phase }, { on := 10, ground := Go.Ground.phase }, { on := 11, ground := Go.Ground.phase }, { on := 12, ground := Go.Ground.phase }, { on := 13, ground := Go.Ground.phase }, { on := 14, ground := Go.Ground.phase }], guard := none }) (v := ?v15g) rfl (by kernel_rfl) (by kernel_rfl) (by kernel_rfl) (fun _ _ _ h => h) (Or.inl ⟨by rfl, ?hy15g⟩) (by assumption) ?rest15g
        case hy15g => (intro w hSw; (try dsimp only at hSw); go_simp; try with_reducible rfl)
        try simp only [Act.put, List.setIfInBounds_toArray, List.set_cons_zero, List.set_cons_succ]
        refine wpAnyH_done (by kernel_rfl) ?_ _
        change Exit.then _ _ Exit.normal _ (fillS w9 w7.heap.size v)
        have hB := fills_blk v Hz.out
        have hW := fills_stp (g := w7.heap.size) v H9.out (H7.out.size)
        have hE := Lib.hid (rde_fills v He9.out Hz.out)
        generalize fillS w9 w7.heap.size v = W7 at hB hW hE ⊢
        generalize w7.heap.size = gg at hB ⊢
        exact hfin v7 A8 c8 B9 d9 gg W7 ⟨hB, hW, hE⟩
    case waya =>
      go_simp
      refine hK.out _ _ (Key.out _ (stp_ad (Head.stp_drew (Stp.refl wx)))) (fun hHeld2 => ?_)
      clear hK K hHeld
      have hHeld := hHeld2
      clear hHeld2
      try simp only [Act.put, List.setIfInBounds_toArray, List.set_cons_zero, List.set_cons_succ]
      refine wpAnyH_ready (rs := [2]) (by kernel_rfl) (by simp) ?_
      refine AllReadyH.cons (o := { dst := some 70, op := Go.Op.call { callee := Go.Callee.builtin Go.Builtin.append, args := #[Go.Operand.const (Go.Value.slice none 0 0), Go.Operand.tmp 69], argTypes := #[35, 35] }, type := 35, pos := "law.go:120", after := #[{ on := 1, ground := Go.Ground.data }], guard := none }) rfl (fun K hK => ?_) AllReadyH.nil
      refine step_app_rows2 _ rfl _ _ 35 rfl _ 26 Try.underlying35 (by kernel_rfl) _ [] rfl (Base.Rows.nil _ _ _) rfl (Ra.out.keep (stp_ad (Head.stp_drew (Stp.refl wx)))) HnA.out (by have := Hl30.out; simp only [List.length_nil]; omega) (Nat.le_refl _) ?_
      intro v7 w7 hv7 hg7
      have HP := Lib.hid (Base.Rows.stp (Base.Rows.nil _ _ 26) (Stp.refl _) (Nat.le_refl _) hg7)
      have H7 := Lib.hid (Stp.trans (stp_ad (Head.stp_drew (Stp.refl wx))) HP.out)
      have HR7 := Lib.hid (show Base.Rows w7 _ 26 v7 a from hv7)
      clear hv7 hg7
      refine hK.out _ _ (Key.out _ (H7.out)) (fun hHeld2 => ?_)
      clear hK K hHeld
      have hHeld := hHeld2
      clear hHeld2
      try simp only [Act.put, List.setIfInBounds_toArray, List.set_cons_zero, List.set_cons_succ]
      refine wpAnyH_ready (rs := [4]) (by kernel_rfl) (by simp) ?_
      refine AllReadyH.cons (o := { dst := some 72, op := Go.Op.call { callee := Go.Callee.builtin Go.Builtin.append, args := #[Go.Operand.tmp 70, Go.Operand.tmp 71], argTypes := #[35, 35] }, type := 35, pos := "law.go:120", after := #[{ on := 2, ground := Go.Ground.data }, { on := 3, ground := Go.Ground.data }, { on := 2, ground := Go.Ground.chain }], guard := none }) rfl (fun K hK => ?_) AllReadyH.nil
      refine step_app_rows2 _ rfl _ _ 35 rfl _ 26 Try.underlying35 (by kernel_rfl) _ a rfl (HR7.out.keep (Stp.refl _)) rfl (Rb.out.keep (H7.out)) HnB.out (by have := Hl30.out; omega) (HP.out.size) ?_
      intro v8 w8 hv8 hg8
      have H8' := Lib.hid (Base.Rows.stp (HR7.out.keep (Stp.refl _)) HP.out (Nat.le_refl _) hg8)
      have H8 := Lib.hid (Stp.trans (stp_ad (Head.stp_drew (Stp.refl wx))) H8'.out)
      obtain ⟨A8, c8, he8, hr8⟩ := Base.Rows.rdL hv8
      rw [HN.out] at he8
      subst he8
      have HR8 := Lib.hid hr8
      clear hv8 hg8 hr8
      refine hK.out _ _ (Key.out _ (H8.out)) (fun hHeld2 => ?_)
      clear hK K hHeld
      have hHeld := hHeld2
      clear hHeld2
      try simp only [Act.put, List.setIfInBounds_toArray, List.set_cons_zero, List.set_cons_succ]
      refine wpAnyH_ready (rs := [5]) (by kernel_rfl) (by simp) ?_
      refine AllReadyH.cons (o := { dst := some 73, op := Go.Op.call { callee := Go.Callee.value (Go.Operand.func 16), args := #[Go.Operand.tmp 68, Go.Operand.tmp 72], argTypes := #[25, 35] }, type := 38, pos := "law.go:120", after := #[{ on := 0, ground := Go.Ground.data }, { on := 4, ground := Go.Ground.data }, { on := 4, ground := Go.Ground.chain }], guard := none }) rfl (fun K hK => ?_) AllReadyH.nil
      go_simp
      refine (HI.out.run s _ rfl Hs.out (a ++ b) N HN.out Hl60.out Hab.out v z k q e3 H3.out Hk.out _ _ _ (HR8.out.keep (Stp.refl _))).mono ?_
      rintro e w9 ⟨B9, d9, rfl, he, hs⟩
      have H9 := Lib.hid (Stp.trans (H8.out) hs)
      have He9 := Lib.hid he
      have Hz := Lib.hid (blk_ad wx 25 (scells zeroS) (Stp.trans H8'.out hs))
      clear hs he
      go_wp2_with fail
      refine hK.out _ _ (Key.out _ (H9.out)) (fun hHeld2 => ?_)
      clear hK K hHeld
      have hHeld := hHeld2
      clear hHeld2
      try simp only [Act.put, List.setIfInBounds_toArray, List.set_cons_zero, List.set_cons_succ]
      refine wpAnyH_take (i := 6) (oi := { dst := some 67, op := Go.Op.move (Go.Operand.tmp 73), type := 38, pos := "law.go:120", after := #[{ on := 5, ground := Go.Ground.data }], guard := none }) (v := ?v6h) rfl (by kernel_rfl) (by kernel_rfl) (by kernel_rfl) (fun _ _ _ h => h) (Or.inl ⟨by rfl, ?hy6h⟩) (by assumption) ?rest6h
      case hy6h => (intro w hSw; (try dsimp only at hSw); go_simp; try with_reducible rfl)
      try simp only [Act.put, List.setIfInBounds_toArray, List.set_cons_zero, List.set_cons_succ]
      refine wpAnyH_take (i := 7) (oi := { dst := some 74, op := Go.Op.extract (Go.Operand.tmp 67) 0, type := 25, pos := "law.go:120", after := #[{ on := 6, ground := Go.Ground.data }], guard := none }) (v := ?v7h) rfl (by kernel_rfl) (by kernel_rfl) (by kernel_rfl) (fun _ _ _ h => h) (Or.inl ⟨by rfl, ?hy7h⟩) (by assumption) ?rest7h
      case hy7h => (intro w hSw; (try dsimp only at hSw); go_simp; try with_reducible rfl)
      try simp only [Act.put, List.setIfInBounds_toArray, List.set_cons_zero, List.set_cons_succ]
      refine wpAnyH_take (i := 8) (oi := { dst := some 75, op := Go.Op.extract (Go.Operand.tmp 67) 1, type := 29, pos := "law.go:120", after := #[{ on := 6, ground := Go.Ground.data }, { on := 12, ground := Go.Ground.gcOnly Go.Departure.lateStores }], guard := none }) (v := ?v8h) rfl (by kernel_rfl) (by kernel_rfl) (by kernel_rfl) (fun _ _ _ h => h) (Or.inl ⟨by rfl, ?hy8h⟩) (by assumption) ?rest8h
      case hy8h => (intro w hSw; (try dsimp only at hSw); go_simp; try with_reducible rfl)
      try simp only [Act.put, List.setIfInBounds_toArray, List.set_cons_zero, List.set_cons_succ]
      refine wpAnyH_take (i := 9) (oi := { dst := some 76, op := Go.Op.extract (Go.Operand.tmp 67) 2, type := 3, pos := "law.go:120", after := #[{ on := 6, ground := Go.Ground.data }, { on := 13, ground := Go.Ground.gcOnly Go.Departure.lateStores }], guard := none }) (v := ?v9h) rfl (by kernel_rfl) (by kernel_rfl) (by kernel_rfl) (fun _ _ _ h => h) (Or.inl ⟨by rfl, ?hy9h⟩) (by assumption) ?rest9h
      case hy9h => (intro w hSw; (try dsimp only at hSw); go_simp; try with_reducible rfl)
      try simp only [Act.put, List.setIfInBounds_toArray, List.set_cons_zero, List.set_cons_succ]
      refine wpAnyH_take (i := 10) (oi := { dst := some 77, op := Go.Op.extract (Go.Operand.tmp 67) 3, type := 30, pos := "law.go:120", after := #[{ on := 6, ground := Go.Ground.data }, { on := 14, ground := Go.Ground.gcOnly Go.Departure.lateStores }], guard := none }) (v := ?v10h) rfl (by kernel_rfl) (by kernel_rfl) (by kernel_rfl) (fun _ _ _ h => h) (Or.inl ⟨by rfl, ?hy10h⟩) (by assumption) ?rest10h
      case hy10h => (intro w hSw; (try dsimp only at hSw); go_simp; try with_reducible rfl)
      try simp only [Act.put, List.setIfInBounds_toArray, List.set_cons_zero, List.set_cons_succ]
      obtain ⟨z0, z1, z2, z3, z4, z5, z6, z7, z8, z9, z10, z11, z12, z13⟩ := st_cells Hz.out
      obtain ⟨y0, y1, y2, y3, y4, y5, y6, y7, y8, y9, y10, y11, y12, y13⟩ := st_free Hz.out
      refine wpAnyH_ready (rs := [12]) (by kernel_rfl) (by simp) ?_
      refine AllReadyH.cons (o := { dst := none, op := Go.Op.store 25 (Go.Operand.tmp 17) (Go.Operand.tmp 74), type := 0, pos := "law.go:120", after := #[{ on := 11, ground := Go.Ground.data }, { on := 7, ground := Go.Ground.data }, { on := 5, ground := Go.Ground.chain }, { on := 0, ground := Go.Ground.phase }, { on := 1, ground := Go.Ground.phase }, { on := 2, ground := Go.Ground.phase }, { on := 3, ground := Go.Ground.phase }, { on := 4, ground := Go.Ground.phase }, { on := 5, ground := Go.Ground.phase }, { on := 6, ground := Go.Ground.phase }, { on := 7, ground := Go.Ground.phase }, { on := 8, ground := Go.Ground.textOnly Go.Departure.lateStores }, { on := 9, ground := Go.Ground.textOnly Go.Departure.lateStores }, { on := 10, ground := Go.Ground.textOnly Go.Departure.lateStores }, { on := 11, ground := Go.Ground.phase }], guard := none }) rfl (fun K hK => ?_) AllReadyH.nil
      go_simp
      refine hK.out _ _ (Key.out _ (fills_stp v H9.out (Nat.le_refl _))) (fun hHeld2 => ?_)
      clear hK K hHeld
      have hHeld := hHeld2
      clear hHeld2
      try simp only [Act.put, List.setIfInBounds_toArray, List.set_cons_zero, List.set_cons_succ]
      clear z0 z1 z2 z3 z4 z5 z6 z7 z8 z9 z10 z11 z12 z13 y0 y1 y2 y3 y4 y5 y6 y7 y8 y9 y10 y11 y12 y13
      refine wpAnyH_take (i := 13) (oi := { dst := some 18, op := Go.Op.assign (Go.Operand.tmp 75), type := 29, pos := "law.go:120", after := #[{ on := 8, ground := Go.Ground.data }, { on := 12, ground := Go.Ground.chain }, { on := 0, ground := Go.Ground.phase }, { on := 1, ground := Go.Ground.phase }, { on := 2, ground := Go.Ground.phase }, { on := 3, ground := Go.Ground.phase }, { on := 4, ground := Go.Ground.phase }, { on := 5, ground := Go.Ground.phase }, { on := 6, ground := Go.Ground.phase }, { on := 7, ground := Go.Ground.phase }, { on := 8, ground := Go.Ground.phase }, { on := 9, ground := Go.Ground.textOnly Go.Departure.lateStores }, { on := 10, ground := Go.Ground.textOnly Go.Departure.lateStores }, { on := 11, ground := Go.Ground.phase }, { on := 12, ground := Go.Ground.phase }], guard := none }) (v := ?v13h) rfl (by kernel_rfl) (by kernel_rfl) (by kernel_rfl) (fun _ _ _ h => h) (Or.inl ⟨by rfl, ?hy13h⟩) (by assumption) ?rest13h
      case hy13h => (intro w hSw; (try dsimp only at hSw); go_simp; try with_reducible rfl)
      try simp only [Act.put, List.setIfInBounds_toArray, List.set_cons_zero, List.set_cons_succ]
      refine wpAnyH_take (i := 14) (oi := { dst := some 19, op := Go.Op.assign (Go.Operand.tmp 76), type := 3, pos := "law.go:120", after := #[{ on := 9, ground := Go.Ground.data }, { on := 13, ground := Go.Ground.chain }, { on := 0, ground := Go.Ground.phase }, { on := 1, ground := Go.Ground.phase }, { on := 2, ground := Go.Ground.phase }, { on := 3, ground := Go.Ground.phase }, { on := 4, ground := Go.Ground.phase }, { on := 5, ground := Go.Ground.phase }, { on := 6, ground := Go.Ground.phase }, { on := 7, ground := Go.Ground.phase }, { on := 8, ground := Go.Ground.phase }, { on := 9, ground := Go.Ground.phase }, { on := 10, ground := Go.Ground.textOnly Go.Departure.lateStores }, { on := 11, ground := Go.Ground.phase }, { on := 12, ground := Go.Ground.phase }, { on := 13, ground := Go.Ground.phase }], guard := none }) (v := ?v14h) rfl (by kernel_rfl) (by kernel_rfl) (by kernel_rfl) (fun _ _ _ h => h) (Or.inl ⟨by rfl, ?hy14h⟩) (by assumption) ?rest14h
      case hy14h => (intro w hSw; (try dsimp only at hSw); go_simp; try with_reducible rfl)
      try simp only [Act.put, List.setIfInBounds_toArray, List.set_cons_zero, List.set_cons_succ]
      refine wpAnyH_take (i := 15) (oi := { dst := some 20, op := Go.Op.assign (Go.Operand.tmp 77), type := 30, pos := "law.go:120", after := #[{ on := 10, ground := Go.Ground.data }, { on := 14, ground := Go.Ground.chain }, { on := 0, ground := Go.Ground.phase }, { on := 1, ground := Go.Ground.phase }, { on := 2, ground := Go.Ground.phase }, { on := 3, ground := Go.Ground.phase }, { on := 4, ground := Go.Ground.phase }, { on := 5, ground := Go.Ground.phase }, { on := 6, ground := Go.Ground.phase }, { on := 7, ground := Go.Ground.phase }, { on := 8, ground := Go.Ground.phase }, { on := 9, ground := Go.Ground.phase }, { on := 10, ground := Go.Ground.phase }, { on := 11, ground := Go.Ground.phase }, { on := 12, ground := Go.Ground.phase }, { on := 13, ground := Go.Ground.phase }, { on := 14, ground := Go.Ground.phase }], guard := none }) (v := ?v15h) rfl (by kernel_rfl) (by kernel_rfl) (by kernel_rfl) (fun _ _ _ h => h) (Or.inl ⟨by rfl, ?hy15h⟩) (by assumption) ?rest15h
      case hy15h => (intro w hSw; (try dsimp only at hSw); go_simp; try with_reducible rfl)
      try simp only [Act.put, List.setIfInBounds_toArray, List.set_cons_zero, List.set_cons_succ]
      refine wpAnyH_done (by kernel_rfl) ?_ _
      change Exit.then _ _ Exit.normal _ (fillS w9 wx.heap.size v)
      have hB := fills_blk v Hz.out
      have hW := fills_stp (g := wx.heap.size) v H9.out (Nat.le_refl _)
      have hE := Lib.hid (rde_fills v He9.out Hz.out)
      generalize fillS w9 wx.heap.size v = W7 at hB hW hE ⊢
      generalize wx.heap.size = gg at hB ⊢
      exact hfin v7 A8 c8 B9 d9 gg W7 ⟨hB, hW, hE⟩
  case fin =>
    intro v7 A8 c8 B9 d9 gg W7 ⟨hB, hW, hE⟩
    replace He1 := Lib.hid (He1.out.keep hW)
    replace He2 := Lib.hid (He2.out.keep hW)
    obtain ⟨u0, u1, u2, u3, u4, u5, u6, u7, u8, u9, u10, u11, u12, u13⟩ := st_cells hB
    obtain ⟨v0, v1, v2, v3, v4, v5, v6, v7, v8, v9, v10, v11, v12, v13⟩ := st_cells (HbU.out.keep hW HbU.out.lt)
    obtain ⟨t0, t1, t2, t3, t4, t5, t6, t7, t8, t9, t10, t11, t12, t13⟩ := st_cells (HbT.out.keep hW HbT.out.lt)
    obtain ⟨rfl, rfl, hq, rfl⟩ := Heq3.out
    have heq : ∀ w, (Op.equalIn 10000 25 (sv v) (sv v)).run Try.prog w = .ok true w := fun w => by rw [eq_states]; simp
    have hng := eq_states_free
    have hw : IntKind.i64.wrap ((n : Int) + (m : Int)) = (q : Int) := by rw [IntKind.wrap_i64, hq]; have := Hn60.out; omega
    clear hq
    obtain ⟨o1, o2⟩ := Hst.out
    rcases o2 with o2 | ⟨o2, o3, o4⟩
    all_goals
      go_wp2_with (first
        | (at_builtin; refine wpList_app_evs _ (by rfl) _ _ rfl _ _ [] rfl (RowE.nil _ _) x _ _ _ rfl He1.out Hi.out (by have := Hli.out; simp only [List.length_nil]; omega) (Nat.le_refl _) ?_; intro v8 w8 hv8 hg8; have HS8 := Lib.hid (RowE.stp (RowE.nil _ _) (Stp.refl _) (Nat.le_refl _) hg8); have HV8 := Lib.hid (show RowE w8 _ v8 x from hv8); clear hv8 hg8)
        | (at_builtin; refine wpList_app_evs _ (by rfl) _ _ rfl _ _ x rfl HV8.out y _ _ _ rfl (He2.out.keep HS8.out) Hj.out (by rw [Hi.out]; have := Hli.out; omega) HS8.out.size ?_; intro v9 w9 hv9 hg9; have HS9 := Lib.hid (RowE.stp HV8.out HS8.out (Nat.le_refl _) hg9); obtain ⟨A9, c9, he9, hr9⟩ := hv9.rd; rw [Hk.out] at he9; subst he9; have HR9 := Lib.hid hr9; clear hv9 hg9 hr9)
        | (go_at_call 21; (with_reducible refine (HI.out.same (x ++ y) (x ++ y) k k Hk.out Hk.out (by have := Hli.out; omega) (by have := Hli.out; omega) _ _ _ _ _ (hE.out.keep HS9.out) HR9.out).mono ?_); rintro e w10 ⟨rfl, hs⟩; rw [decide_eq_true rfl]; have hW10 := Lib.hid (Stp.trans (Stp.trans hW HS9.out) hs); clear hs))
      go_ret
      exact ⟨rfl, Stp.trans H0.out hW10.out⟩
theorem parts_s (I : ParseI) (s : St) (hs : SmallS s) (a b : List L) (na nb : Nat) (hna : a.length = na) (hnb : b.length = nb) (A B : Option Addr) (c d : Nat) (w : World) (ha : RdL w A c a) (hb : RdL w B d b) (hla : na < 9223372036854775808) (hlb : nb < 9223372036854775808) :
    Calls Try.prog 6 #[sv s, .slice A na c, .slice B nb d] w fun e w' => e = .returned (.bool true) ∧ Stp w w' := by
  by_cases hgo : fewS s = true ∧ na ≤ 30 ∧ nb ≤ 30 ∧ BlockM.mayV a = true ∧ BlockM.mayV b = true
  · obtain ⟨t, x, n, e1, hr1⟩ : ∃ t x n e, runS s a = (t, x, n, e) := ⟨_, _, _, _, rfl⟩
    obtain ⟨u, y, m, e2, hr2⟩ : ∃ u y m e, runS t b = (u, y, m, e) := ⟨_, _, _, _, rfl⟩
    obtain ⟨v, z, q, e3, hr3⟩ : ∃ v z q e, runS s (a ++ b) = (v, z, q, e) := ⟨_, _, _, _, rfl⟩
    have hm := run_more a b s
    rw [hr3, hr1] at hm
    simp only at hm
    rw [hr2] at hm
    simp only at hm
    by_cases hst : e1 ≠ 0 ∨ (t.phase = 5 ∧ 0 < n)
    · rw [if_pos hst] at hm
      simp only [Prod.mk.injEq] at hm
      refine parts_a I s hs a b na nb hna hnb A B c d w ha hb hla hlb hgo t u v x y z n m q e1 e2 e3 hr1 hr2 hr3 ?_ hm
      by_cases h : e1 = 0
      · rcases hst with h2 | ⟨h2, h3⟩
        · exact absurd h h2
        · exact .inr ⟨by rw [h]; rfl, by rw [h2]; rfl, by omega⟩
      · exact .inl (bne_iff_ne.2 h)
    · rw [if_neg hst] at hm
      simp only [Prod.mk.injEq] at hm
      rw [not_or] at hst
      obtain ⟨h1, h2⟩ := hst
      have h1' : e1 = 0 := Classical.not_not.1 h1
      refine parts_b I s hs a b na nb hna hnb A B c d w ha hb hla hlb hgo t u v x y z n m q e1 e2 e3 hr1 hr2 hr3 ⟨by rw [h1']; rfl, ?_⟩ hm
      by_cases h5 : t.phase = 5
      · have : ¬ 0 < n := fun h => h2 ⟨h5, h⟩
        exact .inr ⟨by rw [h5]; rfl, by omega, decide_eq_false (by omega)⟩
      · exact .inl (beq_eq_false_iff_ne.2 h5)
  · exact parts_no I s hs a b na nb hna hnb A B c d w ha hb hla hlb hgo
end Go.Proofs.Ytejgnhicgeiceaa.Parse
