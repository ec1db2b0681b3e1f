/-
  What package parse's code says of a state: May, and its helpers. No statement is proved here.
-/
import Derived.Test.YtllnnlmhbmladaaGreatDoorParseR4
import Derived.Test.YtllnnlmhbmladaaGreatDoorEvs
namespace Go.Proofs.YtllnnlmhbmladaaGreatDoor.Parse
open Go.RowKit Go.Proofs.YtllnnlmhbmladaaGreatDoor.Str Go.Proofs.YtllnnlmhbmladaaGreatDoor.Base Go.Proofs.YtllnnlmhbmladaaGreatDoor.Node Go.Proofs.YtllnnlmhbmladaaGreatDoor.Long Go.Proofs.YtllnnlmhbmladaaGreatDoor.Head
open Go.Proofs.YtllnnlmhbmladaaGreatDoor.Tree (oneB)
set_option linter.unusedVariables false
set_option linter.unusedSimpArgs false

set_option maxRecDepth 100000 in
theorem none_s (p : L) (w : World) : Calls Tryz.prog 49 #[.string ⟨p.toArray⟩] w fun e w' => e = .returned (.bool (longB p)) ∧ Stp w w' := by
  have h0 := Stp.refl w
  unfold longB
  by_cases h : p = []
  · have hb : (p == []) = true := by rw [h]; rfl
    have e : decide (p = []) = true := decide_eq_true h
    rw [e]
    clear h e
    go_enter Tryz.func49, Tryz.ntmps49
    go_wp2_with fail
    go_ret
    exact ⟨rfl, h0⟩
  · have hb : (p == []) = false := beq_eq_false_iff_ne.2 h
    have e : decide (p = []) = false := decide_eq_false h
    rw [e, Bool.false_or]
    obtain ⟨x, hx⟩ : ∃ x, textL p = x := ⟨_, rfl⟩
    rw [hx]
    have HX := Lib.hid hx
    clear h e hx
    go_enter Tryz.func49, Tryz.ntmps49
    go_wp2_with (go_at_call 76; (with_reducible refine (text_s p _).mono ?_); rintro e w1 ⟨rfl, hs⟩; rw [HX.out]; replace h0 := Stp.trans h0 hs; clear hs)
    go_ret
    exact ⟨rfl, h0⟩
set_option maxRecDepth 100000 in
set_option maxHeartbeats 1000000 in
theorem file_s (n : Nd) (hn : SmallN n) (w : World) : Calls Tryz.prog 51 #[nv n] w fun e w' => e = .returned (.bool (decide (n.kind = 48) && (decide (n.data = []) && oneB n))) ∧ Stp w w' := by
  have h0 := Stp.alloc (Stp.refl w) (.cells (ncells n) 23)
  have Hb := Lib.hid (Blk.new w 23 (ncells n))
  obtain ⟨q0, q1, q2, q3, q4, q5, q6, q7⟩ := nd_cells' Hb.out
  have Hn := Lib.hid hn
  obtain ⟨O, hO⟩ : ∃ x, oneB n = x := ⟨_, rfl⟩
  have HO := Lib.hid hO
  rw [hO]
  clear hO hn
  have k48 : ((n.kind.toNat : Int) == 48) = decide (n.kind = 48) := by
    rw [Bool.eq_iff_iff, beq_iff_eq, decide_eq_true_eq]
    exact ⟨fun e => UInt8.toNat_inj.1 (by show n.kind.toNat = 48; omega), fun e => by rw [e]; rfl⟩
  by_cases h1 : n.kind = 48
  · rw [decide_eq_true h1, Bool.true_and]
    rw [decide_eq_true h1] at k48
    by_cases h2 : n.data = []
    · have hb : (n.data == []) = true := by rw [h2]; rfl
      rw [decide_eq_true h2, Bool.true_and]
      clear h1 h2
      go_enter Tryz.func51, Tryz.ntmps51
      go_wp2_with (go_at_call 77; (refine (Tree.tone_s n Hn.out _).mono ?_); rintro e w1 ⟨rfl, hs⟩; rw [HO.out]; replace h0 := Stp.trans h0 hs; clear hs)
      go_ret
      exact ⟨rfl, h0⟩
    · have hb : (n.data == []) = false := beq_eq_false_iff_ne.2 h2
      rw [decide_eq_false h2, Bool.false_and]
      clear h1 h2
      go_enter Tryz.func51, Tryz.ntmps51
      go_wp2_with fail
      go_ret
      exact ⟨rfl, h0⟩
  · rw [decide_eq_false h1, Bool.false_and]
    rw [decide_eq_false h1] at k48
    clear h1
    go_enter Tryz.func51, Tryz.ntmps51
    go_wp2_with fail
    go_ret
    exact ⟨rfl, h0⟩
def leftB (l n : Int) : Bool := decide (1 ≤ l) && (decide (l ≤ n) && (decide (n ≤ 4000) && decide ((n - l) % 512 = 0)))
set_option maxRecDepth 100000 in
set_option maxHeartbeats 1000000 in
theorem leftOf_s (l n : Int) (w : World) : Calls Tryz.prog 52 #[.int .i64 l, .int .i64 n] w fun e w' => e = .returned (.bool (leftB l n)) ∧ Stp w w' := by
  have h0 := Stp.refl w
  by_cases h1 : 1 ≤ l
  · by_cases h2 : l ≤ n
    · by_cases h3 : n ≤ 4000
      · have e : leftB l n = decide ((n - l) % 512 = 0) := by unfold leftB; simp [h1, h2, h3]
        rw [e]
        have k1 : decide (1 ≤ l) = true := decide_eq_true h1
        have k2 : decide (l ≤ n) = true := decide_eq_true h2
        have k3 : decide (n ≤ 4000) = true := decide_eq_true h3
        have g1 : -9223372036854775808 ≤ n - l := by omega
        have g2 : n - l < 9223372036854775808 := by omega
        have g3 : (n - l).tmod 512 = (n - l) % 512 := Int.tmod_eq_emod_of_nonneg (by omega)
        have g4 : ((n - l) % 512 == 0) = decide ((n - l) % 512 = 0) := rfl
        have g5 : 0 ≤ (n - l) % 512 := by omega
        have g6 : (n - l) % 512 < 512 := by omega
        clear e h1 h2 h3
        go_enter Tryz.func52, Tryz.ntmps52
        go_wp2_with fail
        all_goals go_ret
        all_goals refine ⟨congrArg (fun b => Ending.returned (.bool b)) ?_, h0⟩
        all_goals first | rfl | (simp [g3]; done) | (rw [Bool.eq_iff_iff]; simp [g3])
      · have e : leftB l n = false := by unfold leftB; simp [h3]
        rw [e]
        have k1 : decide (1 ≤ l) = true := decide_eq_true h1
        have k2 : decide (l ≤ n) = true := decide_eq_true h2
        have k3 : decide (n ≤ 4000) = false := decide_eq_false h3
        clear e h1 h2 h3
        go_enter Tryz.func52, Tryz.ntmps52
        go_wp2_with fail
        go_ret
        exact ⟨rfl, h0⟩
    · have e : leftB l n = false := by unfold leftB; simp [h2]
      rw [e]
      have k1 : decide (1 ≤ l) = true := decide_eq_true h1
      have k2 : decide (l ≤ n) = false := decide_eq_false h2
      clear e h1 h2
      go_enter Tryz.func52, Tryz.ntmps52
      go_wp2_with fail
      go_ret
      exact ⟨rfl, h0⟩
  · have e : leftB l n = false := by unfold leftB; simp [h1]
    rw [e]
    have k1 : decide (1 ≤ l) = false := decide_eq_false h1
    clear e h1
    go_enter Tryz.func52, Tryz.ntmps52
    go_wp2_with fail
    go_ret
    exact ⟨rfl, h0⟩
theorem state_ext (s : St) (p : Int) (n : Nd) (a b : Int) (t x y : L) : s = ⟨p, n, a, b, t, x, y⟩ ↔ s.phase = p ∧ s.node = n ∧ s.size = a ∧ s.left = b ∧ s.text = t ∧ s.name = x ∧ s.link = y := st_ext s ⟨p, n, a, b, t, x, y⟩

set_option maxRecDepth 100000 in
set_option maxHeartbeats 4000000 in
theorem may_0 (s : St) (hs : SmallS s) (hp : s.phase = 0) (w : World) : Calls Tryz.prog 31 #[sv s] w fun e w' => e = .returned (.bool (mayS s)) ∧ Stp w w' := by
  have h0 := Stp.alloc (Stp.refl w) (.cells (scells s) 25)
  have Hb := Lib.hid (Blk.new w 25 (scells s))
  obtain ⟨q0, q1, q2, q3, q4, q5, q6, q7, q8, q9, q10, q11, q12, q13⟩ := st_cells Hb.out
  obtain ⟨X, hX⟩ : ∃ x, decide (s = ⟨s.phase, zeroN, 0, 0, [], s.name, s.link⟩) = x := ⟨_, rfl⟩
  have heq : ∀ W : World, (Op.equalIn 10000 25 (sv s) (.agg #[.int .i64 s.phase, .string { data := #[] }, .string { data := #[] }, .int .u8 0, .int .i64 0, .int .i64 0, .int .i64 0, .int .i64 0, .string { data := #[] }, .int .i64 0, .int .i64 0, .string { data := #[] }, .string ⟨s.name.toArray⟩, .string ⟨s.link.toArray⟩])).run Tryz.prog W = .ok X W := fun W => by rw [← hX]; exact eq_states s ⟨s.phase, zeroN, 0, 0, [], s.name, s.link⟩ W
  have hng : Tryz.prog.eqGuardType Tryz.prog.depth 25 = false := by kernel_rfl
  obtain ⟨N, hN⟩ : ∃ x, longB s.name = x := ⟨_, rfl⟩
  have HN := Lib.hid hN
  obtain ⟨K, hK⟩ : ∃ x, longB s.link = x := ⟨_, rfl⟩
  have HK := Lib.hid hK
  have hf : mayS s = (X && (N && K)) := by
    rw [may_head hp, ← hX, ← hN, ← hK]
    rw [Bool.eq_iff_iff]
    simp only [Bool.and_eq_true, decide_eq_true_eq, state_ext, nilB_iff, numB_iff, fileB_iff, leftB]
    constructor
    · rintro h
      simp_all
    · rintro h
      simp_all
  rw [hf]
  have g0 : (s.phase == 0) = true := by rw [hp]; rfl
  have g1 : (s.phase == 1) = false := by rw [hp]; rfl
  have g2 : (s.phase == 2) = false := by rw [hp]; rfl
  have g3 : (s.phase == 3) = false := by rw [hp]; rfl
  have g4 : (s.phase == 4) = false := by rw [hp]; rfl
  have g5 : (s.phase == 5) = false := by rw [hp]; rfl
  clear hf hp hX hs hN hK
  cases X
  · go_enter Tryz.func31, Tryz.ntmps31
    go_wp2_with fail
    go_ret
    exact ⟨rfl, h0⟩
  · go_enter Tryz.func31, Tryz.ntmps31
    go_wp2_with (first
    | (go_at_call 49; (with_reducible refine (none_s s.name _).mono ?_); rintro e w1 ⟨rfl, hs⟩; rw [HN.out]; replace Hb := Lib.hid (Hb.out.keep hs Hb.out.lt); replace h0 := Stp.trans h0 hs; clear hs q0 q1 q2 q3 q4 q5 q6 q7 q8 q9 q10 q11 q12 q13; obtain ⟨q0, q1, q2, q3, q4, q5, q6, q7, q8, q9, q10, q11, q12, q13⟩ := st_cells Hb.out; rcases N)
    | (go_at_call 49; (with_reducible refine (none_s s.link _).mono ?_); rintro e w1 ⟨rfl, hs⟩; rw [HK.out]; replace Hb := Lib.hid (Hb.out.keep hs Hb.out.lt); replace h0 := Stp.trans h0 hs; clear hs q0 q1 q2 q3 q4 q5 q6 q7 q8 q9 q10 q11 q12 q13; obtain ⟨q0, q1, q2, q3, q4, q5, q6, q7, q8, q9, q10, q11, q12, q13⟩ := st_cells Hb.out; rcases K))
    all_goals go_ret
    all_goals exact ⟨rfl, h0⟩
set_option maxRecDepth 100000 in
set_option maxHeartbeats 4000000 in
theorem may_1 (s : St) (hs : SmallS s) (hp : s.phase = 1) (w : World) : Calls Tryz.prog 31 #[sv s] w fun e w' => e = .returned (.bool (mayS s)) ∧ Stp w w' := by
  have h0 := Stp.alloc (Stp.refl w) (.cells (scells s) 25)
  have Hb := Lib.hid (Blk.new w 25 (scells s))
  obtain ⟨q0, q1, q2, q3, q4, q5, q6, q7, q8, q9, q10, q11, q12, q13⟩ := st_cells Hb.out
  obtain ⟨X, hX⟩ : ∃ x, decide (s = ⟨s.phase, zeroN, s.size, s.size, [], [], s.link⟩) = x := ⟨_, rfl⟩
  have heq : ∀ W : World, (Op.equalIn 10000 25 (sv s) (.agg #[.int .i64 s.phase, .string { data := #[] }, .string { data := #[] }, .int .u8 0, .int .i64 0, .int .i64 0, .int .i64 0, .int .i64 0, .string { data := #[] }, .int .i64 s.size, .int .i64 s.size, .string { data := #[] }, .string { data := #[] }, .string ⟨s.link.toArray⟩])).run Tryz.prog W = .ok X W := fun W => by rw [← hX]; exact eq_states s ⟨s.phase, zeroN, s.size, s.size, [], [], s.link⟩ W
  have hng : Tryz.prog.eqGuardType Tryz.prog.depth 25 = false := by kernel_rfl
  obtain ⟨Z, hZ⟩ : ∃ x, (decide (2 ≤ s.size) && decide (s.size ≤ 301)) = x := ⟨_, rfl⟩
  have HZ := Lib.hid hZ
  obtain ⟨K, hK⟩ : ∃ x, longB s.link = x := ⟨_, rfl⟩
  have HK := Lib.hid hK
  have hf : mayS s = (X && (Z && K)) := by
    rw [may_name hp, ← hX, ← hZ, ← hK]
    rw [Bool.eq_iff_iff]
    simp only [Bool.and_eq_true, decide_eq_true_eq, state_ext, nilB_iff, numB_iff, fileB_iff, leftB]
    constructor
    · rintro h
      simp_all
    · rintro h
      simp_all
  rw [hf]
  have g0 : (s.phase == 0) = false := by rw [hp]; rfl
  have g1 : (s.phase == 1) = true := by rw [hp]; rfl
  have g2 : (s.phase == 2) = false := by rw [hp]; rfl
  have g3 : (s.phase == 3) = false := by rw [hp]; rfl
  have g4 : (s.phase == 4) = false := by rw [hp]; rfl
  have g5 : (s.phase == 5) = false := by rw [hp]; rfl
  clear hf hp hX hs hZ hK
  cases X
  · go_enter Tryz.func31, Tryz.ntmps31
    go_wp2_with fail
    go_ret
    exact ⟨rfl, h0⟩
  · go_enter Tryz.func31, Tryz.ntmps31
    go_wp2_with (first
    | (go_at_call 50; (with_reducible refine (size_s s.size _).mono ?_); rintro e w1 ⟨rfl, hs⟩; rw [HZ.out]; replace Hb := Lib.hid (Hb.out.keep hs Hb.out.lt); replace h0 := Stp.trans h0 hs; clear hs q0 q1 q2 q3 q4 q5 q6 q7 q8 q9 q10 q11 q12 q13; obtain ⟨q0, q1, q2, q3, q4, q5, q6, q7, q8, q9, q10, q11, q12, q13⟩ := st_cells Hb.out; rcases Z)
    | (go_at_call 49; (with_reducible refine (none_s s.link _).mono ?_); rintro e w1 ⟨rfl, hs⟩; rw [HK.out]; replace Hb := Lib.hid (Hb.out.keep hs Hb.out.lt); replace h0 := Stp.trans h0 hs; clear hs q0 q1 q2 q3 q4 q5 q6 q7 q8 q9 q10 q11 q12 q13; obtain ⟨q0, q1, q2, q3, q4, q5, q6, q7, q8, q9, q10, q11, q12, q13⟩ := st_cells Hb.out; rcases K))
    all_goals go_ret
    all_goals exact ⟨rfl, h0⟩
set_option maxRecDepth 100000 in
set_option maxHeartbeats 4000000 in
theorem may_2 (s : St) (hs : SmallS s) (hp : s.phase = 2) (w : World) : Calls Tryz.prog 31 #[sv s] w fun e w' => e = .returned (.bool (mayS s)) ∧ Stp w w' := by
  have h0 := Stp.alloc (Stp.refl w) (.cells (scells s) 25)
  have Hb := Lib.hid (Blk.new w 25 (scells s))
  obtain ⟨q0, q1, q2, q3, q4, q5, q6, q7, q8, q9, q10, q11, q12, q13⟩ := st_cells Hb.out
  obtain ⟨X, hX⟩ : ∃ x, decide (s = ⟨s.phase, zeroN, s.size, s.size, [], s.name, []⟩) = x := ⟨_, rfl⟩
  have heq : ∀ W : World, (Op.equalIn 10000 25 (sv s) (.agg #[.int .i64 s.phase, .string { data := #[] }, .string { data := #[] }, .int .u8 0, .int .i64 0, .int .i64 0, .int .i64 0, .int .i64 0, .string { data := #[] }, .int .i64 s.size, .int .i64 s.size, .string { data := #[] }, .string ⟨s.name.toArray⟩, .string { data := #[] }])).run Tryz.prog W = .ok X W := fun W => by rw [← hX]; exact eq_states s ⟨s.phase, zeroN, s.size, s.size, [], s.name, []⟩ W
  have hng : Tryz.prog.eqGuardType Tryz.prog.depth 25 = false := by kernel_rfl
  obtain ⟨Z, hZ⟩ : ∃ x, (decide (2 ≤ s.size) && decide (s.size ≤ 301)) = x := ⟨_, rfl⟩
  have HZ := Lib.hid hZ
  obtain ⟨N, hN⟩ : ∃ x, longB s.name = x := ⟨_, rfl⟩
  have HN := Lib.hid hN
  have hf : mayS s = (X && (Z && N)) := by
    rw [may_link hp, ← hX, ← hZ, ← hN]
    rw [Bool.eq_iff_iff]
    simp only [Bool.and_eq_true, decide_eq_true_eq, state_ext, nilB_iff, numB_iff, fileB_iff, leftB]
    constructor
    · rintro h
      simp_all
    · rintro h
      simp_all
  rw [hf]
  have g0 : (s.phase == 0) = false := by rw [hp]; rfl
  have g1 : (s.phase == 1) = false := by rw [hp]; rfl
  have g2 : (s.phase == 2) = true := by rw [hp]; rfl
  have g3 : (s.phase == 3) = false := by rw [hp]; rfl
  have g4 : (s.phase == 4) = false := by rw [hp]; rfl
  have g5 : (s.phase == 5) = false := by rw [hp]; rfl
  clear hf hp hX hs hZ hN
  cases X
  · go_enter Tryz.func31, Tryz.ntmps31
    go_wp2_with fail
    go_ret
    exact ⟨rfl, h0⟩
  · go_enter Tryz.func31, Tryz.ntmps31
    go_wp2_with (first
    | (go_at_call 50; (with_reducible refine (size_s s.size _).mono ?_); rintro e w1 ⟨rfl, hs⟩; rw [HZ.out]; replace Hb := Lib.hid (Hb.out.keep hs Hb.out.lt); replace h0 := Stp.trans h0 hs; clear hs q0 q1 q2 q3 q4 q5 q6 q7 q8 q9 q10 q11 q12 q13; obtain ⟨q0, q1, q2, q3, q4, q5, q6, q7, q8, q9, q10, q11, q12, q13⟩ := st_cells Hb.out; rcases Z)
    | (go_at_call 49; (with_reducible refine (none_s s.name _).mono ?_); rintro e w1 ⟨rfl, hs⟩; rw [HN.out]; replace Hb := Lib.hid (Hb.out.keep hs Hb.out.lt); replace h0 := Stp.trans h0 hs; clear hs q0 q1 q2 q3 q4 q5 q6 q7 q8 q9 q10 q11 q12 q13; obtain ⟨q0, q1, q2, q3, q4, q5, q6, q7, q8, q9, q10, q11, q12, q13⟩ := st_cells Hb.out; rcases N))
    all_goals go_ret
    all_goals exact ⟨rfl, h0⟩
set_option maxRecDepth 100000 in
set_option maxHeartbeats 4000000 in
theorem may_3 (s : St) (hs : SmallS s) (hp : s.phase = 3) (w : World) : Calls Tryz.prog 31 #[sv s] w fun e w' => e = .returned (.bool (mayS s)) ∧ Stp w w' := by
  have h0 := Stp.alloc (Stp.refl w) (.cells (scells s) 25)
  have Hb := Lib.hid (Blk.new w 25 (scells s))
  obtain ⟨q0, q1, q2, q3, q4, q5, q6, q7, q8, q9, q10, q11, q12, q13⟩ := st_cells Hb.out
  obtain ⟨X, hX⟩ : ∃ x, decide (s = ⟨s.phase, s.node, s.size, s.left, [], [], []⟩) = x := ⟨_, rfl⟩
  have heq : ∀ W : World, (Op.equalIn 10000 25 (sv s) (.agg #[.int .i64 s.phase, .string ⟨s.node.path.toArray⟩, .string ⟨s.node.link.toArray⟩, .int .u8 (s.node.kind.toNat : Int), .int .i64 s.node.mode, .int .i64 s.node.uid, .int .i64 s.node.gid, .int .i64 s.node.time, .string ⟨s.node.data.toArray⟩, .int .i64 s.size, .int .i64 s.left, .string { data := #[] }, .string { data := #[] }, .string { data := #[] }])).run Tryz.prog W = .ok X W := fun W => by rw [← hX]; exact eq_states s ⟨s.phase, s.node, s.size, s.left, [], [], []⟩ W
  have hng : Tryz.prog.eqGuardType Tryz.prog.depth 25 = false := by kernel_rfl
  obtain ⟨O, hO⟩ : ∃ x, (decide (s.node.kind = 48) && (decide (s.node.data = []) && oneB s.node)) = x := ⟨_, rfl⟩
  have HO := Lib.hid hO
  obtain ⟨Y, hY⟩ : ∃ x, leftB s.left s.size = x := ⟨_, rfl⟩
  have HL := Lib.hid hY
  have Hsn := Lib.hid hs.node
  have hf : mayS s = (X && (O && Y)) := by
    rw [may_data hp, ← hX, ← hO, ← hY]
    rw [Bool.eq_iff_iff]
    simp only [Bool.and_eq_true, decide_eq_true_eq, state_ext, nilB_iff, numB_iff, fileB_iff, leftB]
    constructor
    · rintro ⟨a1, ⟨a2, a3, a4, a5, a6, a7, a8, a9⟩, a10, a11⟩
      exact ⟨⟨trivial, trivial, trivial, trivial, a1, a10, a11⟩, ⟨a3, a4, a2⟩, a7, a8, a6, a9⟩
    · rintro ⟨⟨-, -, -, -, a1, a10, a11⟩, ⟨a3, a4, a2⟩, a7, a8, a6, a9⟩
      exact ⟨a1, ⟨a2, a3, a4, by omega, a6, a7, a8, a9⟩, a10, a11⟩
  rw [hf]
  have g0 : (s.phase == 0) = false := by rw [hp]; rfl
  have g1 : (s.phase == 1) = false := by rw [hp]; rfl
  have g2 : (s.phase == 2) = false := by rw [hp]; rfl
  have g3 : (s.phase == 3) = true := by rw [hp]; rfl
  have g4 : (s.phase == 4) = false := by rw [hp]; rfl
  have g5 : (s.phase == 5) = false := by rw [hp]; rfl
  clear hf hp hX hs hO hY
  cases X
  · go_enter Tryz.func31, Tryz.ntmps31
    go_wp2_with fail
    go_ret
    exact ⟨rfl, h0⟩
  · go_enter Tryz.func31, Tryz.ntmps31
    go_wp2_with (first
    | (go_at_call 51; (with_reducible refine (file_s s.node Hsn.out _).mono ?_); rintro e w1 ⟨rfl, hs⟩; rw [HO.out]; replace Hb := Lib.hid (Hb.out.keep hs Hb.out.lt); replace h0 := Stp.trans h0 hs; clear hs q0 q1 q2 q3 q4 q5 q6 q7 q8 q9 q10 q11 q12 q13; obtain ⟨q0, q1, q2, q3, q4, q5, q6, q7, q8, q9, q10, q11, q12, q13⟩ := st_cells Hb.out; rcases O)
    | (go_at_call 52; (with_reducible refine (leftOf_s s.left s.size _).mono ?_); rintro e w1 ⟨rfl, hs⟩; rw [HL.out]; replace Hb := Lib.hid (Hb.out.keep hs Hb.out.lt); replace h0 := Stp.trans h0 hs; clear hs q0 q1 q2 q3 q4 q5 q6 q7 q8 q9 q10 q11 q12 q13; obtain ⟨q0, q1, q2, q3, q4, q5, q6, q7, q8, q9, q10, q11, q12, q13⟩ := st_cells Hb.out; rcases Y))
    all_goals go_ret
    all_goals exact ⟨rfl, h0⟩
set_option maxRecDepth 100000 in
set_option maxHeartbeats 4000000 in
theorem may_4 (s : St) (hs : SmallS s) (hp : s.phase = 4) (w : World) : Calls Tryz.prog 31 #[sv s] w fun e w' => e = .returned (.bool (mayS s)) ∧ Stp w w' := by
  have h0 := Stp.alloc (Stp.refl w) (.cells (scells s) 25)
  have Hb := Lib.hid (Blk.new w 25 (scells s))
  obtain ⟨q0, q1, q2, q3, q4, q5, q6, q7, q8, q9, q10, q11, q12, q13⟩ := st_cells Hb.out
  obtain ⟨X, hX⟩ : ∃ x, decide (s = ⟨s.phase, zeroN, 0, 0, [], [], []⟩) = x := ⟨_, rfl⟩
  have heq : ∀ W : World, (Op.equalIn 10000 25 (sv s) (.agg #[.int .i64 s.phase, .string { data := #[] }, .string { data := #[] }, .int .u8 0, .int .i64 0, .int .i64 0, .int .i64 0, .int .i64 0, .string { data := #[] }, .int .i64 0, .int .i64 0, .string { data := #[] }, .string { data := #[] }, .string { data := #[] }])).run Tryz.prog W = .ok X W := fun W => by rw [← hX]; exact eq_states s ⟨s.phase, zeroN, 0, 0, [], [], []⟩ W
  have hng : Tryz.prog.eqGuardType Tryz.prog.depth 25 = false := by kernel_rfl
  have hf : mayS s = (X && true) := by
    rw [may_over (.inl hp), ← hX]
    rw [Bool.eq_iff_iff]
    simp only [Bool.and_eq_true, decide_eq_true_eq, state_ext, nilB_iff, numB_iff, fileB_iff, leftB]
    constructor
    · rintro h
      simp_all
    · rintro h
      simp_all
  rw [hf]
  have g0 : (s.phase == 0) = false := by rw [hp]; rfl
  have g1 : (s.phase == 1) = false := by rw [hp]; rfl
  have g2 : (s.phase == 2) = false := by rw [hp]; rfl
  have g3 : (s.phase == 3) = false := by rw [hp]; rfl
  have g4 : (s.phase == 4) = true := by rw [hp]; rfl
  have g5 : (s.phase == 5) = false := by rw [hp]; rfl
  clear hf hp hX hs
  cases X
  · go_enter Tryz.func31, Tryz.ntmps31
    go_wp2_with fail
    go_ret
    exact ⟨rfl, h0⟩
  · go_enter Tryz.func31, Tryz.ntmps31
    go_wp2_with fail
    all_goals go_ret
    all_goals exact ⟨rfl, h0⟩
set_option maxRecDepth 100000 in
set_option maxHeartbeats 4000000 in
theorem may_5 (s : St) (hs : SmallS s) (hp : s.phase = 5) (w : World) : Calls Tryz.prog 31 #[sv s] w fun e w' => e = .returned (.bool (mayS s)) ∧ Stp w w' := by
  have h0 := Stp.alloc (Stp.refl w) (.cells (scells s) 25)
  have Hb := Lib.hid (Blk.new w 25 (scells s))
  obtain ⟨q0, q1, q2, q3, q4, q5, q6, q7, q8, q9, q10, q11, q12, q13⟩ := st_cells Hb.out
  obtain ⟨X, hX⟩ : ∃ x, decide (s = ⟨s.phase, zeroN, 0, 0, [], [], []⟩) = x := ⟨_, rfl⟩
  have heq : ∀ W : World, (Op.equalIn 10000 25 (sv s) (.agg #[.int .i64 s.phase, .string { data := #[] }, .string { data := #[] }, .int .u8 0, .int .i64 0, .int .i64 0, .int .i64 0, .int .i64 0, .string { data := #[] }, .int .i64 0, .int .i64 0, .string { data := #[] }, .string { data := #[] }, .string { data := #[] }])).run Tryz.prog W = .ok X W := fun W => by rw [← hX]; exact eq_states s ⟨s.phase, zeroN, 0, 0, [], [], []⟩ W
  have hng : Tryz.prog.eqGuardType Tryz.prog.depth 25 = false := by kernel_rfl
  have hf : mayS s = (X && true) := by
    rw [may_over (.inr hp), ← hX]
    rw [Bool.eq_iff_iff]
    simp only [Bool.and_eq_true, decide_eq_true_eq, state_ext, nilB_iff, numB_iff, fileB_iff, leftB]
    constructor
    · rintro h
      simp_all
    · rintro h
      simp_all
  rw [hf]
  have g0 : (s.phase == 0) = false := by rw [hp]; rfl
  have g1 : (s.phase == 1) = false := by rw [hp]; rfl
  have g2 : (s.phase == 2) = false := by rw [hp]; rfl
  have g3 : (s.phase == 3) = false := by rw [hp]; rfl
  have g4 : (s.phase == 4) = false := by rw [hp]; rfl
  have g5 : (s.phase == 5) = true := by rw [hp]; rfl
  clear hf hp hX hs
  cases X
  · go_enter Tryz.func31, Tryz.ntmps31
    go_wp2_with fail
    go_ret
    exact ⟨rfl, h0⟩
  · go_enter Tryz.func31, Tryz.ntmps31
    go_wp2_with fail
    all_goals go_ret
    all_goals exact ⟨rfl, h0⟩
set_option maxRecDepth 100000 in
set_option maxHeartbeats 4000000 in
theorem may_6 (s : St) (hp : ¬ (s.phase = 0) ∧ ¬ (s.phase = 1) ∧ ¬ (s.phase = 2) ∧ ¬ (s.phase = 3) ∧ ¬ (s.phase = 4) ∧ ¬ (s.phase = 5)) (w : World) : Calls Tryz.prog 31 #[sv s] w fun e w' => e = .returned (.bool (mayS s)) ∧ Stp w w' := by
  have h0 := Stp.alloc (Stp.refl w) (.cells (scells s) 25)
  obtain ⟨q0, q1, q2, q3, q4, q5, q6, q7, q8, q9, q10, q11, q12, q13⟩ := st_cells (Blk.new w 25 (scells s))
  rw [may_none (by omega)]
  have g0 : (s.phase == 0) = false := beq_eq_false_iff_ne.2 (by omega)
  have g1 : (s.phase == 1) = false := beq_eq_false_iff_ne.2 (by omega)
  have g2 : (s.phase == 2) = false := beq_eq_false_iff_ne.2 (by omega)
  have g3 : (s.phase == 3) = false := beq_eq_false_iff_ne.2 (by omega)
  have g4 : (s.phase == 4) = false := beq_eq_false_iff_ne.2 (by omega)
  have g5 : (s.phase == 5) = false := beq_eq_false_iff_ne.2 (by omega)
  clear hp
  go_enter Tryz.func31, Tryz.ntmps31
  go_wp2_with fail
  go_ret
  exact ⟨rfl, h0⟩
theorem cmay_s (s : St) (v : Value) (hv : v = sv s) (hs : SmallS s) (w : World) : Calls Tryz.prog 31 #[v] w fun e w' => e = .returned (.bool (mayS s)) ∧ Stp w w' := by
  subst hv
  by_cases h0 : s.phase = 0
  · exact may_0 s hs h0 w
  by_cases h1 : s.phase = 1
  · exact may_1 s hs h1 w
  by_cases h2 : s.phase = 2
  · exact may_2 s hs h2 w
  by_cases h3 : s.phase = 3
  · exact may_3 s hs h3 w
  by_cases h4 : s.phase = 4
  · exact may_4 s hs h4 w
  by_cases h5 : s.phase = 5
  · exact may_5 s hs h5 w
  exact may_6 s ⟨h0, h1, h2, h3, h4, h5⟩ w
end Go.Proofs.YtllnnlmhbmladaaGreatDoor.Parse
