/-
  The walk of the statement ParseLeft over package parse's contracts: the statement itself is proved in a text of its own.
-/
import Derived.Test.YtejgnhicgeiceaaParseStaysW
namespace Go.Proofs.Ytejgnhicgeiceaa.Parse
open Go.RowKit Go.Proofs.Ytejgnhicgeiceaa.Str Go.Proofs.Ytejgnhicgeiceaa.Base Go.Proofs.Ytejgnhicgeiceaa.Node Go.Proofs.Ytejgnhicgeiceaa.Long
open Go.Proofs.Ytejgnhicgeiceaa.Tree (oneB)

theorem rd_take {w : World} {A : Option Addr} {c : Nat} {b : L} (h : RdA w A c (bs b)) (q : Nat) : RdA w A c (bs (b.take q)) := by
  obtain ⟨A', cap, h1, h2, h3⟩ := h
  simp only [Value.slice.injEq] at h1
  obtain ⟨rfl, -, rfl⟩ := h1
  refine ⟨A, c, rfl, by rw [bs_length, List.length_take]; rw [bs_length] at h2; omega, fun hn => ?_⟩
  obtain ⟨g, o, rfl, hg, hu⟩ := h3 (by rintro e; rw [← List.length_eq_zero_iff, bs_length] at e; apply hn; rw [← List.length_eq_zero_iff, bs_length, List.length_take]; omega)
  refine ⟨g, o, rfl, hg, fun j u hj => hu j u ?_⟩
  have hlt : j < (bs (b.take q)).length := (List.getElem?_eq_some_iff.1 hj).1
  rw [bs_length, List.length_take] at hlt
  unfold bs at hj ⊢
  rw [List.getElem?_map, List.getElem?_take_of_lt (by omega)] at hj
  rw [List.getElem?_map]
  exact hj
theorem str_take {w : World} {A : Option Addr} {c : Nat} {b : L} (h : RdA w A c (bs b)) (q : Nat) (hq : q ≤ b.length) : (convert 26 9 (.slice A q c)).run Try.prog w = .ok (.string ⟨(b.take q).toArray⟩) w := by
  have h' := rd_take h q
  unfold RdA at h'
  rw [bs_length, List.length_take, Nat.min_eq_left hq] at h'
  exact run_string_rd (P := Try.prog) w 26 9 5 Try.underlying26 Try.underlying5 Try.underlying9 _ _ _ h'

set_option maxRecDepth 100000 in
set_option maxHeartbeats 4000000 in
theorem left_a (I : ParseI) (s : St) (hs : SmallS s) (b : L) (n : Nat) (hbn : b.length = n) (A : Option Addr) (c : Nat) (w : World) (hb : RdA w A c (bs b)) (hl : n < 9223372036854775808) (hgo : fewS s = true ∧ s.phase = 3 ∧ mayS s = true ∧ n = 512) (hle : s.left ≤ 512) :
    Calls Try.prog 7 #[sv s, .slice A n c] w fun e w' => e = .returned (.bool true) ∧ Stp w w' := by
  have h0 := Stp.alloc (Stp.refl w) (.cells (scells s) 25)
  have Hb := Lib.hid (Blk.new w 25 (scells s))
  have Hr := Lib.hid (hb.keep h0)
  have hcl := RdA.length_le hb
  rw [bs_length, hbn] at hcl
  obtain ⟨q0, q1, q2, q3, q4, q5, q6, q7, q8, q9, q10, q11, q12, q13⟩ := st_cells Hb.out
  have HI := Lib.hid I
  have Hs := Lib.hid hs
  obtain ⟨F, hF⟩ : ∃ x, fewS s = x := ⟨_, rfl⟩
  have HF := Lib.hid hF
  have Hn := Lib.hid hbn
  obtain ⟨M, hM⟩ : ∃ x, mayS s = x := ⟨_, rfl⟩
  have HM := Lib.hid hM
  rw [hF, hM] at hgo
  clear I hs hb hF hbn hM
  obtain ⟨rfl, hp, rfl, rfl⟩ := hgo
  have gp : (s.phase != 3) = false := by rw [hp]; rfl
  obtain ⟨k1, ⟨k2, k3, k4, k5, k6, k7, k8, k9⟩, k10, k11⟩ := (data_iff hp).1 HM.out
  have hst : stepS s b = dataS s b := by
    unfold stepS
    rw [if_neg (by rw [HM.out, Hn.out]; simp), if_neg (by omega), if_neg (by omega), if_neg (by omega), if_pos hp]
  have hbl := Hn.out
  obtain ⟨q, hq⟩ : ∃ q : Nat, s.left = (q : Int) := ⟨s.left.toNat, by omega⟩
  have hq1 : 1 ≤ q := by omega
  have hq5 : q ≤ 512 := by omega
  obtain ⟨D, hD⟩ : ∃ D, b.take q = D := ⟨_, rfl⟩
  have hDl : D.length = q := by rw [← hD, List.length_take]; omega
  obtain ⟨T, hT⟩ : ∃ T, zeroS = T := ⟨_, rfl⟩
  have hv : dataS s b = (T, [⟨1, zeroN, D⟩, ⟨2, zeroN, []⟩], 0) := by
    unfold dataS
    rw [if_pos hle, hq, Int.toNat_natCast, hD, hT]
  rw [hv] at hst
  have Hst := Lib.hid hst
  have heq : ∀ w, (Op.equalIn 10000 25 (sv T) (.agg #[.int .i64 0, .string ⟨#[]⟩, .string ⟨#[]⟩, .int .u8 0, .int .i64 0, .int .i64 0, .int .i64 0, .int .i64 0, .string ⟨#[]⟩, .int .i64 0, .int .i64 0, .string ⟨#[]⟩, .string ⟨#[]⟩, .string ⟨#[]⟩])).run Try.prog w = .ok true w := fun w => by rw [zero_sv, hT, eq_states]; simp
  have hng := eq_states_free
  have Hk := Lib.hid (show ([⟨1, zeroN, D⟩, ⟨2, zeroN, []⟩] : List Evt).length = 2 from rfl)
  have Hq5 := Lib.hid (show q ≤ b.length by omega)
  have Hdd := Lib.hid hD
  have hq5' : (q : Int) ≤ 512 := by omega
  have hqc : (q : Int) ≤ (c : Int) := by omega
  have hq0' : (0 : Int) ≤ (q : Int) := by omega
  have gl1 : ((q : Int) == s.left) = true := by rw [beq_iff_eq]; omega
  have gl2 : decide ((q : Int) ≤ s.left) = true := decide_eq_true (by omega)
  have gl3 : (q : Int) ≤ s.left := by omega
  clear hst hv hT hD k1 k2 k3 k4 k5 k6 k7 k8 k9 k10 k11 hle hp hbl hq1 hq5 hq
  go_enter Try.func7, Try.ntmps7
  go_wp2_with (first
  | (go_at_call 10; (with_reducible refine (awake_s HI.out _).mono ?_); rintro e w1 ⟨rfl, hs⟩; replace Hb := Lib.hid (Hb.out.keep hs Hb.out.lt); replace Hr := Lib.hid (Hr.out.keep hs); replace h0 := Stp.trans h0 hs; clear hs q0 q1 q2 q3 q4 q5 q6 q7 q8 q9 q10 q11 q12 q13; obtain ⟨q0, q1, q2, q3, q4, q5, q6, q7, q8, q9, q10, q11, q12, q13⟩ := st_cells Hb.out)
  | (go_at_call 11; (with_reducible refine (fews_s s _).mono ?_); rintro e w2 ⟨rfl, hs⟩; rw [HF.out]; replace Hb := Lib.hid (Hb.out.keep hs Hb.out.lt); replace Hr := Lib.hid (Hr.out.keep hs); replace h0 := Stp.trans h0 hs; clear hs q0 q1 q2 q3 q4 q5 q6 q7 q8 q9 q10 q11 q12 q13; obtain ⟨q0, q1, q2, q3, q4, q5, q6, q7, q8, q9, q10, q11, q12, q13⟩ := st_cells Hb.out)
  | (go_at_call 13; (with_reducible refine (HI.out.may s _ rfl Hs.out _).mono ?_); rintro e w4 ⟨rfl, hs⟩; rw [HM.out]; replace Hb := Lib.hid (Hb.out.keep hs Hb.out.lt); replace Hr := Lib.hid (Hr.out.keep hs); replace h0 := Stp.trans h0 hs; clear hs q0 q1 q2 q3 q4 q5 q6 q7 q8 q9 q10 q11 q12 q13; obtain ⟨q0, q1, q2, q3, q4, q5, q6, q7, q8, q9, q10, q11, q12, q13⟩ := st_cells Hb.out)
  | (go_at_call 12; (with_reducible refine (HI.out.step s _ rfl Hs.out b 512 Hn.out (by omega) T [⟨1, zeroN, D⟩, ⟨2, zeroN, []⟩] 2 0 Hst.out Hk.out _ _ _ Hr.out).mono ?_); rintro e w3 ⟨B3, d3, rfl, he, hs⟩; replace Hr := Lib.hid ((Hr.out.keep hs).keep (Stp.alloc (Stp.refl _) (.cells (scells T) 25))); have hcv := fun k => str_take (Hr.out.keep (Stp.drewN (Stp.refl _) k)) q Hq5.out; replace Hb := Lib.hid ((Hb.out.keep hs Hb.out.lt).alloc (.cells (scells T) 25)); have Hb2 := Lib.hid (Blk.new w3 25 (scells T)); replace he := he.keep (Stp.alloc (Stp.refl _) (.cells (scells T) 25)); obtain ⟨bb, oo, rfl, x0, x9, -⟩ := he.first; obtain ⟨_, _, e2, x10⟩ := he.second; cases e2; simp only [Hdd.out] at hcv; replace h0 := Stp.alloc (Stp.trans h0 hs) (.cells (scells T) 25); clear hs he q0 q1 q2 q3 q4 q5 q6 q7 q8 q9 q10 q11 q12 q13; obtain ⟨q0, q1, q2, q3, q4, q5, q6, q7, q8, q9, q10, q11, q12, q13⟩ := st_cells Hb.out; obtain ⟨r0, r1, r2, r3, r4, r5, r6, r7, r8, r9, r10, r11, r12, r13⟩ := st_cells Hb2.out))
  simp only [List.append_eq, List.cons_append, List.nil_append]
  go_quiet (fail)
  go_wp2_with fail
  all_goals go_ret
  all_goals exact ⟨rfl, h0.drewN _⟩
set_option maxRecDepth 100000 in
set_option maxHeartbeats 4000000 in
theorem left_b (I : ParseI) (s : St) (hs : SmallS s) (b : L) (n : Nat) (hbn : b.length = n) (A : Option Addr) (c : Nat) (w : World) (hb : RdA w A c (bs b)) (hl : n < 9223372036854775808) (hgo : fewS s = true ∧ s.phase = 3 ∧ mayS s = true ∧ n = 512) (hle : ¬ s.left ≤ 512) :
    Calls Try.prog 7 #[sv s, .slice A n c] w fun e w' => e = .returned (.bool true) ∧ Stp w w' := by
  have h0 := Stp.alloc (Stp.refl w) (.cells (scells s) 25)
  have Hb := Lib.hid (Blk.new w 25 (scells s))
  have Hr := Lib.hid (hb.keep h0)
  have hcl := RdA.length_le hb
  rw [bs_length, hbn] at hcl
  obtain ⟨q0, q1, q2, q3, q4, q5, q6, q7, q8, q9, q10, q11, q12, q13⟩ := st_cells Hb.out
  have HI := Lib.hid I
  have Hs := Lib.hid hs
  obtain ⟨F, hF⟩ : ∃ x, fewS s = x := ⟨_, rfl⟩
  have HF := Lib.hid hF
  have Hn := Lib.hid hbn
  obtain ⟨M, hM⟩ : ∃ x, mayS s = x := ⟨_, rfl⟩
  have HM := Lib.hid hM
  rw [hF, hM] at hgo
  clear I hs hb hF hbn hM
  obtain ⟨rfl, hp, rfl, rfl⟩ := hgo
  have gp : (s.phase != 3) = false := by rw [hp]; rfl
  obtain ⟨k1, ⟨k2, k3, k4, k5, k6, k7, k8, k9⟩, k10, k11⟩ := (data_iff hp).1 HM.out
  have hst : stepS s b = dataS s b := by
    unfold stepS
    rw [if_neg (by rw [HM.out, Hn.out]; simp), if_neg (by omega), if_neg (by omega), if_neg (by omega), if_pos hp]
  have hbl := Hn.out
  obtain ⟨D, hD⟩ : ∃ D, b.take 512 = D := ⟨_, rfl⟩
  have hDl : D.length = 512 := by rw [← hD, List.length_take]; omega
  obtain ⟨T, hT⟩ : ∃ T : St, { s with left := s.left - 512 } = T := ⟨_, rfl⟩
  have hv : dataS s b = (T, [⟨1, zeroN, D⟩], 0) := by
    unfold dataS
    rw [if_neg hle, hD, hT]
  rw [hv] at hst
  have Hst := Lib.hid hst
  have heq : ∀ w, (Op.equalIn 10000 23 (nv T.node) (nv s.node)).run Try.prog w = .ok true w := fun w => by rw [Tree.eq_nodes, ← hT]; simp
  have hng := Tree.noGuardN
  have Hk := Lib.hid (show ([⟨1, zeroN, D⟩] : List Evt).length = 1 from rfl)
  have Hq5 := Lib.hid (show 512 ≤ b.length by omega)
  have Hdd := Lib.hid hD
  have gl1 : ((512 : Int) == s.left) = false := by rw [beq_eq_false_iff_ne]; omega
  have gl2 : decide ((512 : Int) ≤ s.left) = true := decide_eq_true (by omega)
  have gl3 : (512 : Int) ≤ s.left := by omega
  have gl4 : (T.left == s.left - 512) = true := by rw [beq_iff_eq, ← hT]
  have gl5 : (T.size == s.size) = true := by rw [beq_iff_eq, ← hT]
  have hw : IntKind.i64.wrap (s.left - 512) = s.left - 512 := by rw [IntKind.wrap_i64]; omega
  have hqc : (512 : Int) ≤ (c : Int) := by omega
  clear hst hv hT hD k1 k2 k3 k4 k5 k6 k7 k8 k9 k10 k11 hle hp hbl
  go_enter Try.func7, Try.ntmps7
  go_wp2_with (first
  | (go_at_call 10; (with_reducible refine (awake_s HI.out _).mono ?_); rintro e w1 ⟨rfl, hs⟩; replace Hb := Lib.hid (Hb.out.keep hs Hb.out.lt); replace Hr := Lib.hid (Hr.out.keep hs); replace h0 := Stp.trans h0 hs; clear hs q0 q1 q2 q3 q4 q5 q6 q7 q8 q9 q10 q11 q12 q13; obtain ⟨q0, q1, q2, q3, q4, q5, q6, q7, q8, q9, q10, q11, q12, q13⟩ := st_cells Hb.out)
  | (go_at_call 11; (with_reducible refine (fews_s s _).mono ?_); rintro e w2 ⟨rfl, hs⟩; rw [HF.out]; replace Hb := Lib.hid (Hb.out.keep hs Hb.out.lt); replace Hr := Lib.hid (Hr.out.keep hs); replace h0 := Stp.trans h0 hs; clear hs q0 q1 q2 q3 q4 q5 q6 q7 q8 q9 q10 q11 q12 q13; obtain ⟨q0, q1, q2, q3, q4, q5, q6, q7, q8, q9, q10, q11, q12, q13⟩ := st_cells Hb.out)
  | (go_at_call 13; (with_reducible refine (HI.out.may s _ rfl Hs.out _).mono ?_); rintro e w4 ⟨rfl, hs⟩; rw [HM.out]; replace Hb := Lib.hid (Hb.out.keep hs Hb.out.lt); replace Hr := Lib.hid (Hr.out.keep hs); replace h0 := Stp.trans h0 hs; clear hs q0 q1 q2 q3 q4 q5 q6 q7 q8 q9 q10 q11 q12 q13; obtain ⟨q0, q1, q2, q3, q4, q5, q6, q7, q8, q9, q10, q11, q12, q13⟩ := st_cells Hb.out)
  | (go_at_call 12; (with_reducible refine (HI.out.step s _ rfl Hs.out b 512 Hn.out (by omega) T [⟨1, zeroN, D⟩] 1 0 Hst.out Hk.out _ _ _ Hr.out).mono ?_); rintro e w3 ⟨B3, d3, rfl, he, hs⟩; replace Hr := Lib.hid ((Hr.out.keep hs).keep (Stp.alloc (Stp.refl _) (.cells (scells T) 25))); have hcv := fun k => str_take (Hr.out.keep (Stp.drewN (Stp.refl _) k)) 512 Hq5.out; replace Hb := Lib.hid ((Hb.out.keep hs Hb.out.lt).alloc (.cells (scells T) 25)); have Hb2 := Lib.hid (Blk.new w3 25 (scells T)); replace he := he.keep (Stp.alloc (Stp.refl _) (.cells (scells T) 25)); obtain ⟨bb, oo, rfl, x0, x9, -⟩ := he.first; simp only [Hdd.out] at hcv; replace h0 := Stp.alloc (Stp.trans h0 hs) (.cells (scells T) 25); clear hs he q0 q1 q2 q3 q4 q5 q6 q7 q8 q9 q10 q11 q12 q13; obtain ⟨q0, q1, q2, q3, q4, q5, q6, q7, q8, q9, q10, q11, q12, q13⟩ := st_cells Hb.out; obtain ⟨r0, r1, r2, r3, r4, r5, r6, r7, r8, r9, r10, r11, r12, r13⟩ := st_cells Hb2.out))
  simp only [List.append_eq, List.cons_append, List.nil_append]
  go_quiet (fail)
  go_wp2_with fail
  all_goals go_ret
  all_goals exact ⟨rfl, h0.drewN _⟩
set_option maxRecDepth 100000 in
set_option maxHeartbeats 4000000 in
theorem left_no (I : ParseI) (s : St) (hs : SmallS s) (b : L) (n : Nat) (hbn : b.length = n) (A : Option Addr) (c : Nat) (w : World) (hb : RdA w A c (bs b)) (hgo : ¬ (fewS s = true ∧ s.phase = 3 ∧ mayS s = true ∧ n = 512)) :
    Calls Try.prog 7 #[sv s, .slice A n c] w fun e w' => e = .returned (.bool true) ∧ Stp w w' := by
  have h0 := Stp.alloc (Stp.refl w) (.cells (scells s) 25)
  have Hb := Lib.hid (Blk.new w 25 (scells s))
  have Hr := Lib.hid (hb.keep h0)
  have hcl := RdA.length_le hb
  rw [bs_length, hbn] at hcl
  obtain ⟨q0, q1, q2, q3, q4, q5, q6, q7, q8, q9, q10, q11, q12, q13⟩ := st_cells Hb.out
  have HI := Lib.hid I
  have Hs := Lib.hid hs
  obtain ⟨F, hF⟩ : ∃ x, fewS s = x := ⟨_, rfl⟩
  have HF := Lib.hid hF
  have Hn := Lib.hid hbn
  obtain ⟨M, hM⟩ : ∃ x, mayS s = x := ⟨_, rfl⟩
  have HM := Lib.hid hM
  rw [hF, hM] at hgo
  clear I hs hb hF hbn hM
  have key : F = false ∨ (F = true ∧ (s.phase != 3) = true) ∨ (F = true ∧ (s.phase != 3) = false ∧ M = false) ∨ (F = true ∧ (s.phase != 3) = false ∧ M = true ∧ ((n : Int) != 512) = true) := by
    simp only [bne_iff_ne, ne_eq, bne_eq_false_iff_eq]
    cases F
    · exact .inl rfl
    · cases M
      · by_cases hp : s.phase = 3
        · exact .inr (.inr (.inl ⟨rfl, hp, rfl⟩))
        · exact .inr (.inl ⟨rfl, hp⟩)
      · by_cases hp : s.phase = 3
        · exact .inr (.inr (.inr ⟨rfl, hp, rfl, fun e => hgo ⟨rfl, hp, rfl, by omega⟩⟩))
        · exact .inr (.inl ⟨rfl, hp⟩)
  clear hgo hcl
  rcases key with rfl | ⟨rfl, g⟩ | ⟨rfl, g, rfl⟩ | ⟨rfl, g, rfl, g2⟩
  all_goals
    go_enter Try.func7, Try.ntmps7
    go_wp2_with (first
    | (go_at_call 10; (with_reducible refine (awake_s HI.out _).mono ?_); rintro e w1 ⟨rfl, hs⟩; replace Hb := Lib.hid (Hb.out.keep hs Hb.out.lt); replace Hr := Lib.hid (Hr.out.keep hs); replace h0 := Stp.trans h0 hs; clear hs q0 q1 q2 q3 q4 q5 q6 q7 q8 q9 q10 q11 q12 q13; obtain ⟨q0, q1, q2, q3, q4, q5, q6, q7, q8, q9, q10, q11, q12, q13⟩ := st_cells Hb.out)
    | (go_at_call 11; (with_reducible refine (fews_s s _).mono ?_); rintro e w2 ⟨rfl, hs⟩; rw [HF.out]; replace Hb := Lib.hid (Hb.out.keep hs Hb.out.lt); replace Hr := Lib.hid (Hr.out.keep hs); replace h0 := Stp.trans h0 hs; clear hs q0 q1 q2 q3 q4 q5 q6 q7 q8 q9 q10 q11 q12 q13; obtain ⟨q0, q1, q2, q3, q4, q5, q6, q7, q8, q9, q10, q11, q12, q13⟩ := st_cells Hb.out)
    | (go_at_call 13; (with_reducible refine (HI.out.may s _ rfl Hs.out _).mono ?_); rintro e w4 ⟨rfl, hs⟩; rw [HM.out]; replace Hb := Lib.hid (Hb.out.keep hs Hb.out.lt); replace Hr := Lib.hid (Hr.out.keep hs); replace h0 := Stp.trans h0 hs; clear hs q0 q1 q2 q3 q4 q5 q6 q7 q8 q9 q10 q11 q12 q13; obtain ⟨q0, q1, q2, q3, q4, q5, q6, q7, q8, q9, q10, q11, q12, q13⟩ := st_cells Hb.out))
    go_ret
    exact ⟨rfl, h0⟩
theorem left_s (I : ParseI) (s : St) (hs : SmallS s) (b : L) (n : Nat) (hbn : b.length = n) (A : Option Addr) (c : Nat) (w : World) (hb : RdA w A c (bs b)) (hl : n < 9223372036854775808) :
    Calls Try.prog 7 #[sv s, .slice A n c] w fun e w' => e = .returned (.bool true) ∧ Stp w w' := by
  by_cases hgo : fewS s = true ∧ s.phase = 3 ∧ mayS s = true ∧ n = 512
  · by_cases hle : s.left ≤ 512
    · exact left_a I s hs b n hbn A c w hb hl hgo hle
    · exact left_b I s hs b n hbn A c w hb hl hgo hle
  · exact left_no I s hs b n hbn A c w hb hgo
end Go.Proofs.Ytejgnhicgeiceaa.Parse
