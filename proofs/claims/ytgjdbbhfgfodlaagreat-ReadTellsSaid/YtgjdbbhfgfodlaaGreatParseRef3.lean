/-
  The document's own answers on parse, the smaller ones: Same, first. No statement is proved here.
  The document's own answers on parse: text. No statement is proved here.
  The document's own answers on parse: data. No statement is proved here.
-/
import Derived.Test.YtgjdbbhfgfodlaaGreatParseSafeW
import Derived.Test.YtgjdbbhfgfodlaaGreatEvq
import Derived.Test.YtgjdbbhfgfodlaaGreatParseR
import Derived.Test.YtgjdbbhfgfodlaaGreatBlockRef
import Derived.Test.YtgjdbbhfgfodlaaGreatParseApp
namespace Go.Proofs.YtgjdbbhfgfodlaaGreat.Parse
open Go.RowKit Go.Proofs.YtgjdbbhfgfodlaaGreat.Str Go.Proofs.YtgjdbbhfgfodlaaGreat.Base Go.Proofs.YtgjdbbhfgfodlaaGreat.Node Go.Proofs.YtgjdbbhfgfodlaaGreat.Long
open Go.Proofs.YtgjdbbhfgfodlaaGreat.Tree (oneB)

set_option maxRecDepth 100000 in
/-- Is a text the first 100 bytes of another one, or all of it? -/
theorem rfirst_s (p q : L) (hq : q.length ≤ 9223372036854775807) (w : World) :
    Calls Tryz.prog 54 #[.string ⟨p.toArray⟩, .string ⟨q.toArray⟩] w fun e w' => e = .returned (.bool (decide (p = q.take 100))) ∧ Stp w w' := by
  have h0 := Stp.refl w
  by_cases hl : 100 < q.length
  · have g1 : (100 : Int) < (q.length : Int) := by omega
    have g2 : decide ((100 : Int) < (q.length : Int)) = true := decide_eq_true g1
    have hc : ∀ w : World, (Instr.slice 9 (.string ⟨q.toArray⟩) none (some (.int .i64 100)) none).run Tryz.prog w = .ok (.string ⟨(q.take 100).toArray⟩) w := cut_h q 100 (by omega)
    clear hl
    go_enter Tryz.func54, Tryz.ntmps54
    go_wp2_with fail
    all_goals go_ret
    all_goals refine ⟨congrArg (fun b => Ending.returned (.bool b)) ?_, h0⟩
    all_goals first | rfl | (rw [Bool.eq_iff_iff]; simp)
  · have g1 : ¬ (100 : Int) < (q.length : Int) := by omega
    have g2 : decide ((100 : Int) < (q.length : Int)) = false := decide_eq_false g1
    rw [List.take_of_length_le (by omega)]
    clear hl
    go_enter Tryz.func54, Tryz.ntmps54
    go_wp2_with fail
    all_goals go_ret
    all_goals refine ⟨congrArg (fun b => Ending.returned (.bool b)) ?_, h0⟩
    all_goals first | rfl | (rw [Bool.eq_iff_iff]; simp)
set_option maxRecDepth 100000 in
set_option maxHeartbeats 4000000 in
theorem rmay_st (s : St) (hsm : SmallS s) (w : World) : Calls Tryz.prog 25 #[sv s] w fun e w' => e = .returned (.bool (mayS s)) ∧ Stp w w' := by
  have h0 := Stp.alloc (Stp.refl w) (.cells (scells s) 50)
  have Hb := Lib.hid (Blk.new w 50 (scells s))
  obtain ⟨q0, q1, q2, q3, q4, q5, q6, q7, q8, q9, q10, q11, q12, q13⟩ := st_cells Hb.out
  have Hs := Lib.hid hsm
  obtain ⟨N, hN⟩ : ∃ x, textL s.name = x := ⟨_, rfl⟩
  obtain ⟨K, hK⟩ : ∃ x, textL s.link = x := ⟨_, rfl⟩
  obtain ⟨O, hO⟩ : ∃ x, oneB s.node = x := ⟨_, rfl⟩
  obtain ⟨Z, hZ⟩ : ∃ x, decide (s.node = zeroN) = x := ⟨_, rfl⟩
  obtain ⟨M, hM⟩ : ∃ x, mayS s = x := ⟨_, rfl⟩
  have HN := Lib.hid hN
  have HK := Lib.hid hK
  have HO := Lib.hid hO
  have HMay := Lib.hid hM
  have heq : ∀ w, (Op.equalIn 10000 38 (nv s.node) (.agg #[.string ⟨#[]⟩, .string ⟨#[]⟩, .int .u8 0, .int .i64 0, .int .i64 0, .int .i64 0, .int .i64 0, .string ⟨#[]⟩])).run Tryz.prog w = .ok Z w := fun w => by rw [show Value.agg #[.string ⟨#[]⟩, .string ⟨#[]⟩, .int .u8 0, .int .i64 0, .int .i64 0, .int .i64 0, .int .i64 0, .string ⟨#[]⟩] = nv zeroN from rfl, Tree.eq_nodes, hZ]
  have hng := Tree.noGuardN
  rw [hM]
  unfold mayS nilB numB fileB longB at hM
  rw [hN, hK, hO, hZ] at hM
  have HM := Lib.hid hM
  clear hsm hN hK hO hZ hM
  have key : s.phase = 0 ∨ s.phase = 1 ∨ s.phase = 2 ∨ s.phase = 3 ∨ s.phase = 4 ∨ s.phase = 5 ∨ (s.phase ≠ 0 ∧ s.phase ≠ 1 ∧ s.phase ≠ 2 ∧ s.phase ≠ 3 ∧ s.phase ≠ 4 ∧ s.phase ≠ 5) := by omega
  by_cases ht : s.text = []
  case neg =>
    have gt : (s.text == []) = false := beq_eq_false_iff_ne.2 ht
    have gt2 : (s.text != []) = true := bne_iff_ne.2 ht
    have hf := HM.out
    rw [decide_eq_false ht, Bool.false_and] at hf
    have HF := Lib.hid hf
    clear ht key hf
    go_enter Tryz.func25, Tryz.ntmps25
    go_wp2_with (first
      | (go_at_call 34; (with_reducible refine (Long.rtext_s s.name Hs.out.name _).mono ?_); rintro e w1 ⟨rfl, hs⟩; rw [HN.out]; replace Hb := Lib.hid (Hb.out.keep hs Hb.out.lt); replace h0 := Stp.trans h0 hs; clear hs q0 q1 q2 q3 q4 q5 q6 q7 q8 q9 q10 q11 q12 q13; obtain ⟨q0, q1, q2, q3, q4, q5, q6, q7, q8, q9, q10, q11, q12, q13⟩ := st_cells Hb.out)
      | (go_at_call 34; (with_reducible refine (Long.rtext_s s.link Hs.out.link _).mono ?_); rintro e w2 ⟨rfl, hs⟩; rw [HK.out]; replace Hb := Lib.hid (Hb.out.keep hs Hb.out.lt); replace h0 := Stp.trans h0 hs; clear hs q0 q1 q2 q3 q4 q5 q6 q7 q8 q9 q10 q11 q12 q13; obtain ⟨q0, q1, q2, q3, q4, q5, q6, q7, q8, q9, q10, q11, q12, q13⟩ := st_cells Hb.out)
      | (go_at_call 35; (with_reducible refine (Tree.rone_s s.node Hs.out.node _).mono ?_); rintro e w3 ⟨rfl, hs⟩; rw [HO.out]; replace Hb := Lib.hid (Hb.out.keep hs Hb.out.lt); replace h0 := Stp.trans h0 hs; clear hs q0 q1 q2 q3 q4 q5 q6 q7 q8 q9 q10 q11 q12 q13; obtain ⟨q0, q1, q2, q3, q4, q5, q6, q7, q8, q9, q10, q11, q12, q13⟩ := st_cells Hb.out))
    all_goals go_ret
    all_goals exact ⟨congrArg (fun b => Ending.returned (.bool b)) HF.out, h0⟩
  have gt : (s.text == []) = true := beq_iff_eq.2 ht
  have gt2 : (s.text != []) = false := by rw [bne_eq_false_iff_eq]; exact ht
  have hf := HM.out
  rw [decide_eq_true ht, Bool.true_and] at hf
  clear ht HM
  rcases key with h | h | h | h | h | h | ⟨h0', h1, h2, h3, h4, h5⟩
  · have g0 : (s.phase == 0) = true := by rw [h]; rfl
    have g1 : (s.phase == 1) = false := by rw [h]; rfl
    have g2 : (s.phase == 2) = false := by rw [h]; rfl
    have g3 : (s.phase == 3) = false := by rw [h]; rfl
    have g4 : (s.phase == 4) = false := by rw [h]; rfl
    have g5 : (s.phase == 5) = false := by rw [h]; rfl
    rw [h] at hf
    simp only [Int.reduceEq, if_true, if_false, or_self] at hf
    clear h
    have HF := Lib.hid hf
    clear hf
    go_enter Tryz.func25, Tryz.ntmps25
    go_wp2_with (first
      | (go_at_call 34; (with_reducible refine (Long.rtext_s s.name Hs.out.name _).mono ?_); rintro e w1 ⟨rfl, hs⟩; rw [HN.out]; replace Hb := Lib.hid (Hb.out.keep hs Hb.out.lt); replace h0 := Stp.trans h0 hs; clear hs q0 q1 q2 q3 q4 q5 q6 q7 q8 q9 q10 q11 q12 q13; obtain ⟨q0, q1, q2, q3, q4, q5, q6, q7, q8, q9, q10, q11, q12, q13⟩ := st_cells Hb.out)
      | (go_at_call 34; (with_reducible refine (Long.rtext_s s.link Hs.out.link _).mono ?_); rintro e w2 ⟨rfl, hs⟩; rw [HK.out]; replace Hb := Lib.hid (Hb.out.keep hs Hb.out.lt); replace h0 := Stp.trans h0 hs; clear hs q0 q1 q2 q3 q4 q5 q6 q7 q8 q9 q10 q11 q12 q13; obtain ⟨q0, q1, q2, q3, q4, q5, q6, q7, q8, q9, q10, q11, q12, q13⟩ := st_cells Hb.out)
      | (go_at_call 35; (with_reducible refine (Tree.rone_s s.node Hs.out.node _).mono ?_); rintro e w3 ⟨rfl, hs⟩; rw [HO.out]; replace Hb := Lib.hid (Hb.out.keep hs Hb.out.lt); replace h0 := Stp.trans h0 hs; clear hs q0 q1 q2 q3 q4 q5 q6 q7 q8 q9 q10 q11 q12 q13; obtain ⟨q0, q1, q2, q3, q4, q5, q6, q7, q8, q9, q10, q11, q12, q13⟩ := st_cells Hb.out))
    all_goals go_ret
    all_goals refine ⟨congrArg (fun b => Ending.returned (.bool b)) ?_, h0⟩
    all_goals rw [← HF.out]
    all_goals first
      | rfl
      | (rw [Bool.eq_iff_iff]; simp_all; done)
      | (rw [Bool.eq_iff_iff]; simp_all; omega)
  · have g0 : (s.phase == 0) = false := by rw [h]; rfl
    have g1 : (s.phase == 1) = true := by rw [h]; rfl
    have g2 : (s.phase == 2) = false := by rw [h]; rfl
    have g3 : (s.phase == 3) = false := by rw [h]; rfl
    have g4 : (s.phase == 4) = false := by rw [h]; rfl
    have g5 : (s.phase == 5) = false := by rw [h]; rfl
    rw [h] at hf
    simp only [Int.reduceEq, if_true, if_false, or_self] at hf
    clear h
    have HF := Lib.hid hf
    clear hf
    go_enter Tryz.func25, Tryz.ntmps25
    go_wp2_with (first
      | (go_at_call 34; (with_reducible refine (Long.rtext_s s.name Hs.out.name _).mono ?_); rintro e w1 ⟨rfl, hs⟩; rw [HN.out]; replace Hb := Lib.hid (Hb.out.keep hs Hb.out.lt); replace h0 := Stp.trans h0 hs; clear hs q0 q1 q2 q3 q4 q5 q6 q7 q8 q9 q10 q11 q12 q13; obtain ⟨q0, q1, q2, q3, q4, q5, q6, q7, q8, q9, q10, q11, q12, q13⟩ := st_cells Hb.out)
      | (go_at_call 34; (with_reducible refine (Long.rtext_s s.link Hs.out.link _).mono ?_); rintro e w2 ⟨rfl, hs⟩; rw [HK.out]; replace Hb := Lib.hid (Hb.out.keep hs Hb.out.lt); replace h0 := Stp.trans h0 hs; clear hs q0 q1 q2 q3 q4 q5 q6 q7 q8 q9 q10 q11 q12 q13; obtain ⟨q0, q1, q2, q3, q4, q5, q6, q7, q8, q9, q10, q11, q12, q13⟩ := st_cells Hb.out)
      | (go_at_call 35; (with_reducible refine (Tree.rone_s s.node Hs.out.node _).mono ?_); rintro e w3 ⟨rfl, hs⟩; rw [HO.out]; replace Hb := Lib.hid (Hb.out.keep hs Hb.out.lt); replace h0 := Stp.trans h0 hs; clear hs q0 q1 q2 q3 q4 q5 q6 q7 q8 q9 q10 q11 q12 q13; obtain ⟨q0, q1, q2, q3, q4, q5, q6, q7, q8, q9, q10, q11, q12, q13⟩ := st_cells Hb.out))
    all_goals go_ret
    all_goals refine ⟨congrArg (fun b => Ending.returned (.bool b)) ?_, h0⟩
    all_goals rw [← HF.out]
    all_goals first
      | rfl
      | (rw [Bool.eq_iff_iff]; simp_all; done)
      | (rw [Bool.eq_iff_iff]; simp_all; omega)
  · have g0 : (s.phase == 0) = false := by rw [h]; rfl
    have g1 : (s.phase == 1) = false := by rw [h]; rfl
    have g2 : (s.phase == 2) = true := by rw [h]; rfl
    have g3 : (s.phase == 3) = false := by rw [h]; rfl
    have g4 : (s.phase == 4) = false := by rw [h]; rfl
    have g5 : (s.phase == 5) = false := by rw [h]; rfl
    rw [h] at hf
    simp only [Int.reduceEq, if_true, if_false, or_self] at hf
    clear h
    have HF := Lib.hid hf
    clear hf
    go_enter Tryz.func25, Tryz.ntmps25
    go_wp2_with (first
      | (go_at_call 34; (with_reducible refine (Long.rtext_s s.name Hs.out.name _).mono ?_); rintro e w1 ⟨rfl, hs⟩; rw [HN.out]; replace Hb := Lib.hid (Hb.out.keep hs Hb.out.lt); replace h0 := Stp.trans h0 hs; clear hs q0 q1 q2 q3 q4 q5 q6 q7 q8 q9 q10 q11 q12 q13; obtain ⟨q0, q1, q2, q3, q4, q5, q6, q7, q8, q9, q10, q11, q12, q13⟩ := st_cells Hb.out)
      | (go_at_call 34; (with_reducible refine (Long.rtext_s s.link Hs.out.link _).mono ?_); rintro e w2 ⟨rfl, hs⟩; rw [HK.out]; replace Hb := Lib.hid (Hb.out.keep hs Hb.out.lt); replace h0 := Stp.trans h0 hs; clear hs q0 q1 q2 q3 q4 q5 q6 q7 q8 q9 q10 q11 q12 q13; obtain ⟨q0, q1, q2, q3, q4, q5, q6, q7, q8, q9, q10, q11, q12, q13⟩ := st_cells Hb.out)
      | (go_at_call 35; (with_reducible refine (Tree.rone_s s.node Hs.out.node _).mono ?_); rintro e w3 ⟨rfl, hs⟩; rw [HO.out]; replace Hb := Lib.hid (Hb.out.keep hs Hb.out.lt); replace h0 := Stp.trans h0 hs; clear hs q0 q1 q2 q3 q4 q5 q6 q7 q8 q9 q10 q11 q12 q13; obtain ⟨q0, q1, q2, q3, q4, q5, q6, q7, q8, q9, q10, q11, q12, q13⟩ := st_cells Hb.out))
    all_goals go_ret
    all_goals refine ⟨congrArg (fun b => Ending.returned (.bool b)) ?_, h0⟩
    all_goals rw [← HF.out]
    all_goals first
      | rfl
      | (rw [Bool.eq_iff_iff]; simp_all; done)
      | (rw [Bool.eq_iff_iff]; simp_all; omega)
  · have g0 : (s.phase == 0) = false := by rw [h]; rfl
    have g1 : (s.phase == 1) = false := by rw [h]; rfl
    have g2 : (s.phase == 2) = false := by rw [h]; rfl
    have g3 : (s.phase == 3) = true := by rw [h]; rfl
    have g4 : (s.phase == 4) = false := by rw [h]; rfl
    have g5 : (s.phase == 5) = false := by rw [h]; rfl
    rw [h] at hf
    simp only [Int.reduceEq, if_true, if_false, or_self] at hf
    rw [show decide (s.node.kind = 48) = decide ((s.node.kind.toNat : Int) = 48) from decide_eq_decide.2 ⟨fun h => by rw [h]; rfl, fun h => UInt8.toNat_inj.1 (by show s.node.kind.toNat = 48; omega)⟩] at hf
    clear h
    have HF := Lib.hid hf
    clear hf
    go_enter Tryz.func25, Tryz.ntmps25
    go_wp2_with (first
      | (go_at_call 34; (with_reducible refine (Long.rtext_s s.name Hs.out.name _).mono ?_); rintro e w1 ⟨rfl, hs⟩; rw [HN.out]; replace Hb := Lib.hid (Hb.out.keep hs Hb.out.lt); replace h0 := Stp.trans h0 hs; clear hs q0 q1 q2 q3 q4 q5 q6 q7 q8 q9 q10 q11 q12 q13; obtain ⟨q0, q1, q2, q3, q4, q5, q6, q7, q8, q9, q10, q11, q12, q13⟩ := st_cells Hb.out)
      | (go_at_call 34; (with_reducible refine (Long.rtext_s s.link Hs.out.link _).mono ?_); rintro e w2 ⟨rfl, hs⟩; rw [HK.out]; replace Hb := Lib.hid (Hb.out.keep hs Hb.out.lt); replace h0 := Stp.trans h0 hs; clear hs q0 q1 q2 q3 q4 q5 q6 q7 q8 q9 q10 q11 q12 q13; obtain ⟨q0, q1, q2, q3, q4, q5, q6, q7, q8, q9, q10, q11, q12, q13⟩ := st_cells Hb.out)
      | (go_at_call 35; (with_reducible refine (Tree.rone_s s.node Hs.out.node _).mono ?_); rintro e w3 ⟨rfl, hs⟩; rw [HO.out]; replace Hb := Lib.hid (Hb.out.keep hs Hb.out.lt); replace h0 := Stp.trans h0 hs; clear hs q0 q1 q2 q3 q4 q5 q6 q7 q8 q9 q10 q11 q12 q13; obtain ⟨q0, q1, q2, q3, q4, q5, q6, q7, q8, q9, q10, q11, q12, q13⟩ := st_cells Hb.out))
    all_goals go_ret
    all_goals refine ⟨congrArg (fun b => Ending.returned (.bool b)) ?_, h0⟩
    all_goals rw [← HF.out]
    all_goals first
      | rfl
      | (rw [Bool.eq_iff_iff]; simp_all; done)
      | (rw [Bool.eq_iff_iff]; simp_all; omega)
  · have g0 : (s.phase == 0) = false := by rw [h]; rfl
    have g1 : (s.phase == 1) = false := by rw [h]; rfl
    have g2 : (s.phase == 2) = false := by rw [h]; rfl
    have g3 : (s.phase == 3) = false := by rw [h]; rfl
    have g4 : (s.phase == 4) = true := by rw [h]; rfl
    have g5 : (s.phase == 5) = false := by rw [h]; rfl
    rw [h] at hf
    simp only [Int.reduceEq, if_true, if_false, or_false] at hf
    clear h
    have HF := Lib.hid hf
    clear hf
    go_enter Tryz.func25, Tryz.ntmps25
    go_wp2_with (first
      | (go_at_call 34; (with_reducible refine (Long.rtext_s s.name Hs.out.name _).mono ?_); rintro e w1 ⟨rfl, hs⟩; rw [HN.out]; replace Hb := Lib.hid (Hb.out.keep hs Hb.out.lt); replace h0 := Stp.trans h0 hs; clear hs q0 q1 q2 q3 q4 q5 q6 q7 q8 q9 q10 q11 q12 q13; obtain ⟨q0, q1, q2, q3, q4, q5, q6, q7, q8, q9, q10, q11, q12, q13⟩ := st_cells Hb.out)
      | (go_at_call 34; (with_reducible refine (Long.rtext_s s.link Hs.out.link _).mono ?_); rintro e w2 ⟨rfl, hs⟩; rw [HK.out]; replace Hb := Lib.hid (Hb.out.keep hs Hb.out.lt); replace h0 := Stp.trans h0 hs; clear hs q0 q1 q2 q3 q4 q5 q6 q7 q8 q9 q10 q11 q12 q13; obtain ⟨q0, q1, q2, q3, q4, q5, q6, q7, q8, q9, q10, q11, q12, q13⟩ := st_cells Hb.out)
      | (go_at_call 35; (with_reducible refine (Tree.rone_s s.node Hs.out.node _).mono ?_); rintro e w3 ⟨rfl, hs⟩; rw [HO.out]; replace Hb := Lib.hid (Hb.out.keep hs Hb.out.lt); replace h0 := Stp.trans h0 hs; clear hs q0 q1 q2 q3 q4 q5 q6 q7 q8 q9 q10 q11 q12 q13; obtain ⟨q0, q1, q2, q3, q4, q5, q6, q7, q8, q9, q10, q11, q12, q13⟩ := st_cells Hb.out))
    all_goals go_ret
    all_goals refine ⟨congrArg (fun b => Ending.returned (.bool b)) ?_, h0⟩
    all_goals rw [← HF.out]
    all_goals first
      | rfl
      | (rw [Bool.eq_iff_iff]; simp_all; done)
      | (rw [Bool.eq_iff_iff]; simp_all; omega)
  · have g0 : (s.phase == 0) = false := by rw [h]; rfl
    have g1 : (s.phase == 1) = false := by rw [h]; rfl
    have g2 : (s.phase == 2) = false := by rw [h]; rfl
    have g3 : (s.phase == 3) = false := by rw [h]; rfl
    have g4 : (s.phase == 4) = false := by rw [h]; rfl
    have g5 : (s.phase == 5) = true := by rw [h]; rfl
    rw [h] at hf
    simp only [Int.reduceEq, if_true, if_false, or_true] at hf
    clear h
    have HF := Lib.hid hf
    clear hf
    go_enter Tryz.func25, Tryz.ntmps25
    go_wp2_with (first
      | (go_at_call 34; (with_reducible refine (Long.rtext_s s.name Hs.out.name _).mono ?_); rintro e w1 ⟨rfl, hs⟩; rw [HN.out]; replace Hb := Lib.hid (Hb.out.keep hs Hb.out.lt); replace h0 := Stp.trans h0 hs; clear hs q0 q1 q2 q3 q4 q5 q6 q7 q8 q9 q10 q11 q12 q13; obtain ⟨q0, q1, q2, q3, q4, q5, q6, q7, q8, q9, q10, q11, q12, q13⟩ := st_cells Hb.out)
      | (go_at_call 34; (with_reducible refine (Long.rtext_s s.link Hs.out.link _).mono ?_); rintro e w2 ⟨rfl, hs⟩; rw [HK.out]; replace Hb := Lib.hid (Hb.out.keep hs Hb.out.lt); replace h0 := Stp.trans h0 hs; clear hs q0 q1 q2 q3 q4 q5 q6 q7 q8 q9 q10 q11 q12 q13; obtain ⟨q0, q1, q2, q3, q4, q5, q6, q7, q8, q9, q10, q11, q12, q13⟩ := st_cells Hb.out)
      | (go_at_call 35; (with_reducible refine (Tree.rone_s s.node Hs.out.node _).mono ?_); rintro e w3 ⟨rfl, hs⟩; rw [HO.out]; replace Hb := Lib.hid (Hb.out.keep hs Hb.out.lt); replace h0 := Stp.trans h0 hs; clear hs q0 q1 q2 q3 q4 q5 q6 q7 q8 q9 q10 q11 q12 q13; obtain ⟨q0, q1, q2, q3, q4, q5, q6, q7, q8, q9, q10, q11, q12, q13⟩ := st_cells Hb.out))
    all_goals go_ret
    all_goals refine ⟨congrArg (fun b => Ending.returned (.bool b)) ?_, h0⟩
    all_goals rw [← HF.out]
    all_goals first
      | rfl
      | (rw [Bool.eq_iff_iff]; simp_all; done)
      | (rw [Bool.eq_iff_iff]; simp_all; omega)
  · have g0 : (s.phase == 0) = false := beq_eq_false_iff_ne.2 h0'
    have g1 : (s.phase == 1) = false := beq_eq_false_iff_ne.2 h1
    have g2 : (s.phase == 2) = false := beq_eq_false_iff_ne.2 h2
    have g3 : (s.phase == 3) = false := beq_eq_false_iff_ne.2 h3
    have g4 : (s.phase == 4) = false := beq_eq_false_iff_ne.2 h4
    have g5 : (s.phase == 5) = false := beq_eq_false_iff_ne.2 h5
    rw [if_neg h0', if_neg h1, if_neg h2, if_neg h3, if_neg (by rw [not_or]; exact ⟨h4, h5⟩)] at hf
    clear h0' h1 h2 h3 h4 h5
    have HF := Lib.hid hf
    clear hf
    go_enter Tryz.func25, Tryz.ntmps25
    go_wp2_with (first
      | (go_at_call 34; (with_reducible refine (Long.rtext_s s.name Hs.out.name _).mono ?_); rintro e w1 ⟨rfl, hs⟩; rw [HN.out]; replace Hb := Lib.hid (Hb.out.keep hs Hb.out.lt); replace h0 := Stp.trans h0 hs; clear hs q0 q1 q2 q3 q4 q5 q6 q7 q8 q9 q10 q11 q12 q13; obtain ⟨q0, q1, q2, q3, q4, q5, q6, q7, q8, q9, q10, q11, q12, q13⟩ := st_cells Hb.out)
      | (go_at_call 34; (with_reducible refine (Long.rtext_s s.link Hs.out.link _).mono ?_); rintro e w2 ⟨rfl, hs⟩; rw [HK.out]; replace Hb := Lib.hid (Hb.out.keep hs Hb.out.lt); replace h0 := Stp.trans h0 hs; clear hs q0 q1 q2 q3 q4 q5 q6 q7 q8 q9 q10 q11 q12 q13; obtain ⟨q0, q1, q2, q3, q4, q5, q6, q7, q8, q9, q10, q11, q12, q13⟩ := st_cells Hb.out)
      | (go_at_call 35; (with_reducible refine (Tree.rone_s s.node Hs.out.node _).mono ?_); rintro e w3 ⟨rfl, hs⟩; rw [HO.out]; replace Hb := Lib.hid (Hb.out.keep hs Hb.out.lt); replace h0 := Stp.trans h0 hs; clear hs q0 q1 q2 q3 q4 q5 q6 q7 q8 q9 q10 q11 q12 q13; obtain ⟨q0, q1, q2, q3, q4, q5, q6, q7, q8, q9, q10, q11, q12, q13⟩ := st_cells Hb.out))
    all_goals go_ret
    all_goals refine ⟨congrArg (fun b => Ending.returned (.bool b)) ?_, h0⟩
    all_goals rw [← HF.out]
    all_goals first
      | rfl
      | (rw [Bool.eq_iff_iff]; simp_all; done)
      | (rw [Bool.eq_iff_iff]; simp_all; omega)
end Go.Proofs.YtgjdbbhfgfodlaaGreat.Parse

namespace Go.Proofs.YtgjdbbhfgfodlaaGreat.Parse
open Go.RowKit Go.Proofs.YtgjdbbhfgfodlaaGreat.Str Go.Proofs.YtgjdbbhfgfodlaaGreat.Base Go.Proofs.YtgjdbbhfgfodlaaGreat.Node Go.Proofs.YtgjdbbhfgfodlaaGreat.Long

theorem rfree {w : World} {g : Nat} {t : TypeId} {cs : Array Value} (hb : Blk w g t cs) : ∀ i, w.frozen? ⟨g, i, none⟩ = false := fun i => hb.free i
abbrev fillA (w : World) (g : Nat) (t : St) : World := fillC g (scells t).toList 0 w
theorem filla_blk {w : World} {g : Nat} {t : TypeId} {z : St} (s : St) (h : Blk w g t (scells z)) : Blk (fillA w g s) g t (scells s) := fillC_all (scells s).toList h rfl
theorem filla_st {w w1 : World} {g : Nat} (s : St) (h : Stp w w1) (hg : w.heap.size ≤ g) : Stp w (fillA w1 g s) := fillC_stp hg (scells s).toList 0 w1 h

set_option maxRecDepth 100000 in
set_option maxHeartbeats 4000000 in
theorem rtext_d (s : St) (q : Nat) (hq : s.size = (q : Int) + 1) (h1 : 1 ≤ q) (h2 : q ≤ 300) (b : L) (hb : b.length = 512) (A : Option Addr) (c : Nat) (w : World) (ha : RdA w A c (bs b)) :
    Calls Tryz.prog 27 #[sv s, .slice A b.length c] w fun e w' => ((textL (b.take q) = true ∧ BlockM.zeroV (b.drop q) = true) ∧ e = .returned (.tuple #[sv (if s.phase = 1 then { s with phase := 0, size := 0, left := 0, name := b.take q } else { s with phase := 0, size := 0, left := 0, link := b.take q }), .slice none 0 0, .int .i64 0]) ∨ ¬ (textL (b.take q) = true ∧ BlockM.zeroV (b.drop q) = true) ∧ e = .returned (.tuple #[sv s, .slice none 0 0, .int .i64 2])) ∧ Stp w w' := by
  have hs1 := Stp.alloc (Stp.alloc (Stp.refl w) (.cells (scells s) 50)) (.cells (scells zeroS) 50)
  have hcl := ha.length_le
  rw [bs_length] at hcl
  obtain ⟨bb, o, rfl, -⟩ := ha.at_ (j := 0) (by rw [bs_length]; omega)
  have hsl := cut_hi bb o b.length c q (by omega) (by omega)
  have hsl2 := cut_lo bb o b.length c q (by omega) (by omega)
  have hcv : ∀ W : World, RdA W (some ⟨bb, o, none⟩) c (bs b) → (convert 36 9 (.slice (some ⟨bb, o, none⟩) q c)).run Tryz.prog W = .ok (.string ⟨(b.take q).toArray⟩) W := fun W hW => Num.str_of W _ _ (b.take q) (by
    have ht := hW.take q
    unfold RdA at ht
    rwa [← bs_take, bs_length, List.length_take, Nat.min_eq_left (show q ≤ b.length by omega)] at ht)
  have hcv2 := fun o2 : Obj => hcv _ (ha.keep (Stp.alloc (Stp.alloc (Stp.refl w) (.cells (scells s) 50)) o2))
  clear hcv
  obtain ⟨T, hT⟩ : ∃ T, b.take q = T := ⟨_, rfl⟩
  rw [hT] at hcv2 ⊢
  obtain ⟨D, hD⟩ : ∃ D, b.drop q = D := ⟨_, rfl⟩
  have hsub : Head.sub b q (512 - q) = D := by
    rw [← hD]
    exact List.take_of_length_le (by rw [List.length_drop]; omega)
  have hrd : RdA w (some ⟨bb, o + q, none⟩) (c - q) (bs D) := by
    have := Head.rd_sub ha (i := q) (n := 512 - q) (by omega)
    rw [hsub] at this
    unfold RdA
    rw [bs_length, ← hD, List.length_drop, hb]
    rwa [hD]
  have hDl : b.length - q = D.length := by rw [← hD, List.length_drop]
  rw [hD]
  rw [hDl] at hsl2
  obtain ⟨x, hx⟩ : ∃ x, textL T = x := ⟨_, rfl⟩
  obtain ⟨z, hz0⟩ : ∃ z, BlockM.zeroV D = z := ⟨_, rfl⟩
  rw [hx, hz0]
  obtain ⟨t, ht⟩ : ∃ t, (if s.phase = 1 then { s with phase := 0, size := 0, left := 0, name := T } else { s with phase := 0, size := 0, left := 0, link := T }) = t := ⟨_, rfl⟩
  rw [ht]
  have HT := Lib.hid ht
  clear ht
  have HX := Lib.hid hx
  have HZ := Lib.hid hz0
  have HR := Lib.hid (hrd.keep hs1)
  have HL := Lib.hid (show D.length < 9223372036854775808 by omega)
  have HTl := Lib.hid (show T.length ≤ 9223372036854775807 by rw [← hT, List.length_take]; omega)
  have hsub2 : s.size - 1 = (q : Int) := by omega
  have g1 : -9223372036854775808 ≤ s.size - 1 := by omega
  have g2 : s.size - 1 < 9223372036854775808 := by omega
  have HB := Lib.hid hb
  have H0 := Lib.hid hs1
  have Hb := Lib.hid ((Blk.new w 50 (scells s)).alloc (.cells (scells zeroS) 50))
  have Hr := Lib.hid (Blk.new (w.alloc (.cells (scells s) 50)) 50 (scells zeroS))
  rw [World.size_alloc] at Hr
  obtain ⟨g0, hg0⟩ : ∃ x, w.heap.size = x := ⟨_, rfl⟩
  have HG0 := Lib.hid hg0
  rw [hg0] at Hb Hr
  have q9 : ∀ o : Obj, ((w.alloc (.cells (scells s) 50)).alloc o).cell? ⟨g0, 9, none⟩ = some (.int .i64 s.size) := fun o => by rw [← hg0, ((Blk.new w 50 (scells s)).alloc o).cell]; rfl
  clear ha hq hb hcl hT hD hsub hrd hDl hx hz0 h1 h2 hs1
  go_enter Tryz.func27, Tryz.ntmps27
  go_upto_region 4 with (first
    | (go_at_call 34; (with_reducible refine (Long.rtext_s T HTl.out _).mono ?_); rintro e w2 ⟨rfl, hs⟩; rw [HX.out]; replace H0 := Lib.hid (Stp.trans H0.out hs); replace Hb := Lib.hid (Hb.out.keep hs Hb.out.lt); replace Hr := Lib.hid (Hr.out.keep hs Hr.out.lt); replace HR := Lib.hid (HR.out.keep hs); clear hs q9; obtain ⟨q0, q1, q2, q3, q4, q5, q6, q7, q8, q9, q10, q11, q12, q13⟩ := st_cells Hb.out)
    | (go_at_call 26; (with_reducible refine (Block.rzero_s D _ _ _ HR.out HL.out).mono ?_); rintro e w3 ⟨rfl, hs⟩; rw [HZ.out]; replace H0 := Lib.hid (Stp.trans H0.out hs); replace Hb := Lib.hid (Hb.out.keep hs Hb.out.lt); replace Hr := Lib.hid (Hr.out.keep hs Hr.out.lt); clear hs q0 q1 q2 q3 q4 q5 q6 q7 q8 q9 q10 q11 q12 q13; obtain ⟨q0, q1, q2, q3, q4, q5, q6, q7, q8, q9, q10, q11, q12, q13⟩ := st_cells Hb.out))
  clear hsl hsl2 hcv2 hsub2 g1 g2 hg0
  obtain ⟨r0, r1, r2, r3, r4, r5, r6, r7, r8, r9, r10, r11, r12, r13⟩ := st_cells Hr.out
  have hz := rfree Hr.out
  have hy := rfree Hb.out
  have fin : ∀ (t : St) (W0 : World), Blk W0 (g0 + 1) 50 (scells zeroS) → Stp w W0 → Blk (fillA W0 (g0 + 1) t) (g0 + 1) 50 (scells t) ∧ Stp w (fillA W0 (g0 + 1) t) := fun t W0 h1 h2 => ⟨filla_blk t h1, filla_st t h2 (by have := HG0.out; omega)⟩
  have Fin := Lib.hid fin
  clear fin
  cases x
  · go_wp2_with fail
    all_goals
      change bodyPost _ _ _ _ _ (fillA (w3) (g0 + 1) s)
      obtain ⟨hB, hW⟩ := Fin.out s (w3) Hr.out H0.out
      generalize fillA (w3) (g0 + 1) s = W7 at hB hW ⊢
      clear q0 q1 q2 q3 q4 q5 q6 q7 q8 q9 q10 q11 q12 q13 r0 r1 r2 r3 r4 r5 r6 r7 r8 r9 r10 r11 r12 r13 hz hy
      obtain ⟨r0, r1, r2, r3, r4, r5, r6, r7, r8, r9, r10, r11, r12, r13⟩ := st_cells hB
      exact bodyPost_ret (v := .tuple #[sv s, .slice none 0 0, .int .i64 2]) (by simp [results, Tryz.results27, go_sem, r0, r1, r2, r3, r4, r5, r6, r7, r8, r9, r10, r11, r12, r13]) rfl ⟨.inr ⟨by simp, rfl⟩, hW⟩
  · cases z
    · go_wp2_with fail
      change bodyPost _ _ _ _ _ (fillA (w3) (g0 + 1) s)
      obtain ⟨hB, hW⟩ := Fin.out s (w3) Hr.out H0.out
      generalize fillA (w3) (g0 + 1) s = W7 at hB hW ⊢
      clear q0 q1 q2 q3 q4 q5 q6 q7 q8 q9 q10 q11 q12 q13 r0 r1 r2 r3 r4 r5 r6 r7 r8 r9 r10 r11 r12 r13 hz hy
      obtain ⟨r0, r1, r2, r3, r4, r5, r6, r7, r8, r9, r10, r11, r12, r13⟩ := st_cells hB
      exact bodyPost_ret (v := .tuple #[sv s, .slice none 0 0, .int .i64 2]) (by simp [results, Tryz.results27, go_sem, r0, r1, r2, r3, r4, r5, r6, r7, r8, r9, r10, r11, r12, r13]) rfl ⟨rfl, hW⟩
    · by_cases h1 : s.phase = 1
      · have k1 : (s.phase == 1) = true := by rw [h1]; rfl
        have HS := Lib.hid (show { s with phase := 0, size := 0, left := 0, name := T } = t by rw [← HT.out, if_pos h1])
        clear h1
        go_wp2_with fail
        change bodyPost _ _ _ _ _ (fillA ((((w3.setCell ⟨g0, 12, none⟩ (.string ⟨T.toArray⟩)).setCell ⟨g0, 0, none⟩ (.int .i64 0)).setCell ⟨g0, 9, none⟩ (.int .i64 0)).setCell ⟨g0, 10, none⟩ (.int .i64 0)) (g0 + 1) { s with phase := 0, size := 0, left := 0, name := T })
        obtain ⟨hB, hW⟩ := Fin.out { s with phase := 0, size := 0, left := 0, name := T } ((((w3.setCell ⟨g0, 12, none⟩ (.string ⟨T.toArray⟩)).setCell ⟨g0, 0, none⟩ (.int .i64 0)).setCell ⟨g0, 9, none⟩ (.int .i64 0)).setCell ⟨g0, 10, none⟩ (.int .i64 0)) ((((Hr.out.far (p := ⟨g0, 12, none⟩) (Nat.succ_ne_self g0) _).far (p := ⟨g0, 0, none⟩) (Nat.succ_ne_self g0) _).far (p := ⟨g0, 9, none⟩) (Nat.succ_ne_self g0) _).far (p := ⟨g0, 10, none⟩) (Nat.succ_ne_self g0) _) (Below.setCell (Below.setCell (Below.setCell (Below.setCell H0.out (p := ⟨g0, 12, none⟩) (Nat.le_of_eq HG0.out) _) (p := ⟨g0, 0, none⟩) (Nat.le_of_eq HG0.out) _) (p := ⟨g0, 9, none⟩) (Nat.le_of_eq HG0.out) _) (p := ⟨g0, 10, none⟩) (Nat.le_of_eq HG0.out) _)
        generalize fillA ((((w3.setCell ⟨g0, 12, none⟩ (.string ⟨T.toArray⟩)).setCell ⟨g0, 0, none⟩ (.int .i64 0)).setCell ⟨g0, 9, none⟩ (.int .i64 0)).setCell ⟨g0, 10, none⟩ (.int .i64 0)) (g0 + 1) { s with phase := 0, size := 0, left := 0, name := T } = W7 at hB hW ⊢
        clear q0 q1 q2 q3 q4 q5 q6 q7 q8 q9 q10 q11 q12 q13 r0 r1 r2 r3 r4 r5 r6 r7 r8 r9 r10 r11 r12 r13 hz hy
        obtain ⟨r0, r1, r2, r3, r4, r5, r6, r7, r8, r9, r10, r11, r12, r13⟩ := st_cells hB
        exact bodyPost_ret (v := .tuple #[sv { s with phase := 0, size := 0, left := 0, name := T }, .slice none 0 0, .int .i64 0]) (by simp [results, Tryz.results27, go_sem, r0, r1, r2, r3, r4, r5, r6, r7, r8, r9, r10, r11, r12, r13]) rfl ⟨by rw [← HS.out], hW⟩
      · have k1 : (s.phase == 1) = false := beq_eq_false_iff_ne.2 h1
        have HS := Lib.hid (show { s with phase := 0, size := 0, left := 0, link := T } = t by rw [← HT.out, if_neg h1])
        clear h1
        go_wp2_with fail
        change bodyPost _ _ _ _ _ (fillA ((((w3.setCell ⟨g0, 13, none⟩ (.string ⟨T.toArray⟩)).setCell ⟨g0, 0, none⟩ (.int .i64 0)).setCell ⟨g0, 9, none⟩ (.int .i64 0)).setCell ⟨g0, 10, none⟩ (.int .i64 0)) (g0 + 1) { s with phase := 0, size := 0, left := 0, link := T })
        obtain ⟨hB, hW⟩ := Fin.out { s with phase := 0, size := 0, left := 0, link := T } ((((w3.setCell ⟨g0, 13, none⟩ (.string ⟨T.toArray⟩)).setCell ⟨g0, 0, none⟩ (.int .i64 0)).setCell ⟨g0, 9, none⟩ (.int .i64 0)).setCell ⟨g0, 10, none⟩ (.int .i64 0)) ((((Hr.out.far (p := ⟨g0, 13, none⟩) (Nat.succ_ne_self g0) _).far (p := ⟨g0, 0, none⟩) (Nat.succ_ne_self g0) _).far (p := ⟨g0, 9, none⟩) (Nat.succ_ne_self g0) _).far (p := ⟨g0, 10, none⟩) (Nat.succ_ne_self g0) _) (Below.setCell (Below.setCell (Below.setCell (Below.setCell H0.out (p := ⟨g0, 13, none⟩) (Nat.le_of_eq HG0.out) _) (p := ⟨g0, 0, none⟩) (Nat.le_of_eq HG0.out) _) (p := ⟨g0, 9, none⟩) (Nat.le_of_eq HG0.out) _) (p := ⟨g0, 10, none⟩) (Nat.le_of_eq HG0.out) _)
        generalize fillA ((((w3.setCell ⟨g0, 13, none⟩ (.string ⟨T.toArray⟩)).setCell ⟨g0, 0, none⟩ (.int .i64 0)).setCell ⟨g0, 9, none⟩ (.int .i64 0)).setCell ⟨g0, 10, none⟩ (.int .i64 0)) (g0 + 1) { s with phase := 0, size := 0, left := 0, link := T } = W7 at hB hW ⊢
        clear q0 q1 q2 q3 q4 q5 q6 q7 q8 q9 q10 q11 q12 q13 r0 r1 r2 r3 r4 r5 r6 r7 r8 r9 r10 r11 r12 r13 hz hy
        obtain ⟨r0, r1, r2, r3, r4, r5, r6, r7, r8, r9, r10, r11, r12, r13⟩ := st_cells hB
        exact bodyPost_ret (v := .tuple #[sv { s with phase := 0, size := 0, left := 0, link := T }, .slice none 0 0, .int .i64 0]) (by simp [results, Tryz.results27, go_sem, r0, r1, r2, r3, r4, r5, r6, r7, r8, r9, r10, r11, r12, r13]) rfl ⟨by rw [← HS.out], hW⟩
end Go.Proofs.YtgjdbbhfgfodlaaGreat.Parse

namespace Go.Proofs.YtgjdbbhfgfodlaaGreat.Parse
open Go.RowKit Go.Proofs.YtgjdbbhfgfodlaaGreat.Str Go.Proofs.YtgjdbbhfgfodlaaGreat.Base Go.Proofs.YtgjdbbhfgfodlaaGreat.Node Go.Proofs.YtgjdbbhfgfodlaaGreat.Long

theorem rstp_ad {v w : World} {o : Obj} (h : Stp v w.drew) : Stp v (w.alloc o).drew := Stp.alloc h o
theorem rblk_ad (w : World) (t : TypeId) (cs : Array Value) {X : World} (hs : Stp (w.alloc (.cells cs t)).drew X) : Blk X w.heap.size t cs := Blk.keep (show Blk (w.alloc (.cells cs t)).drew w.heap.size t cs from Blk.new w t cs) hs (Blk.lt (Blk.new w t cs))
theorem rowE_lit (x : Evt) (w : World) : RowE (w.alloc (.cells (ecells x) 40)) w.heap.size (.slice (some ⟨w.heap.size, 0, none⟩) 1 1) [x] := by
  refine ⟨rfl, .inr ⟨w.heap.size, 1, ecells x, rfl, Nat.le_refl _, heap_alloc_new w _, Nat.le_refl _, by unfold maxLen; omega, rfl, rfl⟩⟩
theorem rdE_lit (x : Evt) (w : World) : RdE (w.alloc (.cells (ecells x) 40)) (some ⟨w.heap.size, 0, none⟩) 1 [x] := by
  obtain ⟨A, c, e, h⟩ := (rowE_lit x w).rd
  cases e
  exact h
theorem filla_keepE {w : World} {g : Nat} {A : Option Addr} {c : Nat} {xs : List Evt} (t : St) (h : RdE w A c xs) (hz : Blk w g 50 (scells zeroS)) : RdE (fillA w g t) A c xs := by
  cases xs with
  | nil => exact RdE.nil' _ _ _
  | cons x xs =>
    obtain ⟨h1, h2⟩ := h
    obtain ⟨b, o, e, hb, hc⟩ := h2 (by simp)
    refine ⟨h1, fun _ => ⟨b, o, e, ?_, fun q u hq => ?_⟩⟩
    · have : ∀ (vs : List Value) (i : Nat) (w1 : World), (fillC g vs i w1).heap.size = w1.heap.size := by
        intro vs
        induction vs with
        | nil => intro i w1; rfl
        | cons v vs ih => intro i w1; rw [fillC, ih]; simp [World.setCell]
      rw [this]
      exact hb
    · by_cases hbg : b = g
      · subst hbg
        exfalso
        have h9 := hc 9 _ (by show (etc (x :: xs))[9]? = some (.string ⟨x.data.toArray⟩); rfl)
        have h0 := hc 0 _ (by show (etc (x :: xs))[0]? = some (.int .i64 x.kind); rfl)
        have h1' := hc 1 _ (by show (etc (x :: xs))[1]? = some (.string ⟨x.node.path.toArray⟩); rfl)
        have h2' := hc 2 _ (by show (etc (x :: xs))[2]? = some (.string ⟨x.node.link.toArray⟩); rfl)
        have h3' := hc 3 _ (by show (etc (x :: xs))[3]? = some (.int .u8 (x.node.kind.toNat : Int)); rfl)
        have h4' := hc 4 _ (by show (etc (x :: xs))[4]? = some (.int .i64 x.node.mode); rfl)
        have h8' := hc 8 _ (by show (etc (x :: xs))[8]? = some (.string ⟨x.node.data.toArray⟩); rfl)
        rw [hz.cell] at h9 h0 h1' h2' h3' h4' h8'
        match o with
        | 0 => simp at h9
        | 1 => simp at h0
        | 2 => simp at h0
        | 3 => simp at h0
        | 4 => simp at h1'
        | 5 => simp at h1'
        | 6 => simp at h1'
        | 7 => simp at h2'
        | 8 => simp at h0
        | 9 => simp at h1'
        | 10 => simp at h3'
        | 11 => simp at h0
        | 12 => simp at h0
        | 13 => simp at h0
        | o + 14 => simp at h0
      · have : ∀ (vs : List Value) (i : Nat) (w1 : World), (fillC g vs i w1).cell? ⟨b, o + q, none⟩ = w1.cell? ⟨b, o + q, none⟩ := by
          intro vs
          induction vs with
          | nil => intro i w1; rfl
          | cons v vs ih =>
            intro i w1
            rw [fillC, ih]
            exact World.cell?_of_block (Below.heap_setCell w1 ⟨g, i, none⟩ v b hbg)
        rw [this]
        exact hc q u hq

set_option maxRecDepth 100000 in
set_option maxHeartbeats 4000000 in
theorem rdata_d (s : St) (h1 : 1 ≤ s.left) (h2 : s.left ≤ 4000) (b : L) (hb : b.length = 512) (A : Option Addr) (c : Nat) (w : World) (ha : RdA w A c (bs b)) :
    Calls Tryz.prog 28 #[sv s, .slice A 512 c] w fun e w' => ∃ B d, e = .returned (.tuple #[sv (dataS s b).1, .slice B (dataS s b).2.1.length d, .int .i64 0]) ∧ RdE w' B d (dataS s b).2.1 ∧ Stp w w' := by
  have hs1 := Stp.alloc (Stp.alloc (Stp.refl w) (.cells (scells s) 50)) (.cells (scells zeroS) 50)
  have H0 := Lib.hid hs1
  have Hb := Lib.hid ((Blk.new w 50 (scells s)).alloc (.cells (scells zeroS) 50))
  have Hr := Lib.hid (Blk.new (w.alloc (.cells (scells s) 50)) 50 (scells zeroS))
  rw [World.size_alloc] at Hr
  obtain ⟨g0, hg0⟩ : ∃ x, w.heap.size = x := ⟨_, rfl⟩
  have HG0 := Lib.hid hg0
  rw [hg0] at Hb Hr
  have hcl := ha.length_le
  rw [bs_length, hb] at hcl
  obtain ⟨bb, o, rfl, -⟩ := ha.at_ (j := 0) (by rw [bs_length]; omega)
  obtain ⟨n, hn⟩ : ∃ n : Nat, min s.left 512 = (n : Int) := ⟨(min s.left 512).toNat, by omega⟩
  have hsl := cut_hi bb o 512 c n (by omega) (by omega)
  have hcv : ∀ W : World, RdA W (some ⟨bb, o, none⟩) c (bs b) → (convert 36 9 (.slice (some ⟨bb, o, none⟩) n c)).run Tryz.prog W = .ok (.string ⟨(b.take n).toArray⟩) W := fun W hW => Num.str_of W _ _ (b.take n) (by
    have ht := hW.take n
    unfold RdA at ht
    rwa [← bs_take, bs_length, List.length_take, Nat.min_eq_left (show n ≤ b.length by omega)] at ht)
  have hcv2 := fun o2 : Obj => hcv _ (ha.keep (Stp.alloc (Stp.alloc (Stp.refl w) (.cells (scells s) 50)) o2))
  obtain ⟨q0, q1, q2, q3, q4, q5, q6, q7, q8, q9, q10, q11, q12, q13⟩ := st_cells Hb.out
  obtain ⟨r0, r1, r2, r3, r4, r5, r6, r7, r8, r9, r10, r11, r12, r13⟩ := st_cells Hr.out
  have hz := rfree Hr.out
  have hy := rfree Hb.out
  have fin : ∀ (t : St) (W0 : World), Blk W0 (g0 + 1) 50 (scells zeroS) → Stp w W0 → Blk (fillA W0 (g0 + 1) t) (g0 + 1) 50 (scells t) ∧ Stp w (fillA W0 (g0 + 1) t) := fun t W0 h1 h2 => ⟨filla_blk t h1, filla_st t h2 (by have := HG0.out; omega)⟩
  have Fin := Lib.hid fin
  clear fin
  obtain ⟨T, hT⟩ : ∃ T, b.take n = T := ⟨_, rfl⟩
  rw [hT] at hcv2
  by_cases hle : s.left ≤ 512
  · have hln : s.left = (n : Int) := by omega
    have hres : dataS s b = (zeroS, [⟨1, zeroN, T⟩, ⟨2, zeroN, []⟩], 0) := by
      unfold dataS
      rw [if_pos hle, hln, Int.toNat_natCast, hT]
    rw [hres]
    rw [hln] at q10
    have k1 : decide ((512 : Int) < (n : Int)) = false := decide_eq_false (by omega)
    have k2 : IntKind.i64.wrap ((n : Int) - (n : Int)) = 0 := by rw [IntKind.wrap_i64]; omega
    clear hres hcv ha hs1 hb hT hn hle h1 h2
    subst hg0
    have HrB := Lib.hid (Blk.new (w.alloc (.cells (scells { s with left := 0 }) 50)) 50 (scells zeroS))
    rw [World.size_alloc] at HrB
    have HW2 := Lib.hid (Stp.alloc (Stp.alloc (Stp.refl w) (.cells (scells { s with left := 0 }) 50)) (.cells (scells zeroS) 50))
    obtain ⟨W2, hW2⟩ : ∃ W2, (w.alloc (.cells (scells { s with left := 0 }) 50)).alloc (.cells (scells zeroS) 50) = W2 := ⟨_, rfl⟩
    rw [hW2] at HrB HW2
    have hsz2 : W2.heap.size = w.heap.size + 1 + 1 := by rw [← hW2, World.size_alloc, World.size_alloc]
    have hrow := rowE_lit ⟨1, zeroN, T⟩ W2
    rw [hsz2] at hrow
    have HV := Lib.hid (show RowE ((W2.alloc (.cells (ecells ⟨1, zeroN, T⟩) 40)).alloc (.cells (ecells ⟨2, zeroN, []⟩) 40)) (w.heap.size + 1 + 1) (.slice (some ⟨w.heap.size + 1 + 1, 0, none⟩) 1 1) [⟨1, zeroN, T⟩] from World.ownsRow.alloc hrow _)
    have hl2 := rdE_lit ⟨2, zeroN, []⟩ (W2.alloc (.cells (ecells ⟨1, zeroN, T⟩) 40))
    rw [World.size_alloc, hsz2] at hl2
    have HL2 := Lib.hid hl2
    have HrC := Lib.hid ((HrB.out.alloc (.cells (ecells ⟨1, zeroN, T⟩) 40)).alloc (.cells (ecells ⟨2, zeroN, []⟩) 40))
    have HNE := Lib.hid (Block.blk_not_row HrC.out (by decide) HV.out)
    have Hbs := Lib.hid (show w.heap.size + 1 + 1 ≤ ((W2.alloc (.cells (ecells ⟨1, zeroN, T⟩) 40)).alloc (.cells (ecells ⟨2, zeroN, []⟩) 40)).heap.size by rw [World.size_alloc, World.size_alloc, hsz2]; omega)
    have HW4 := Lib.hid (Stp.alloc (Stp.alloc HW2.out (.cells (ecells ⟨1, zeroN, T⟩) 40)) (.cells (ecells ⟨2, zeroN, []⟩) 40))
    clear hrow hl2 hsz2
    subst hW2
    go_enter Tryz.func28, Tryz.ntmps28
    go_wp2_with (at_builtin; go_loud (refine wpList_app_evs _ (by rfl) (.tmp 28) (.tmp 30) rfl (w.heap.size + 1 + 1) _ [⟨1, zeroN, T⟩] rfl HV.out [⟨2, zeroN, []⟩] _ 1 _ rfl HL2.out rfl (by simp) Hbs.out ?_; intro v' w5 hR hg; have H5 := Lib.hid (HV.out.stp HW4.out (by omega) hg); obtain ⟨B5, d5, rfl, hE⟩ := hR.rd; have HE := Lib.hid hE; have hr5 := HrC.out.grown hg HNE.out; have Hr5 := Lib.hid hr5; clear hR hg hE; clear q0 q1 q2 q3 q4 q5 q6 q7 q8 q9 q10 q11 q12 q13 r0 r1 r2 r3 r4 r5 r6 r7 r8 r9 r10 r11 r12 r13 hz hy; obtain ⟨r0, r1, r2, r3, r4, r5, r6, r7, r8, r9, r10, r11, r12, r13⟩ := st_cells hr5; have hz := rfree hr5))
    change bodyPost _ _ _ _ _ (fillA w5 (w.heap.size + 1) zeroS)
    obtain ⟨hB, hW⟩ := Fin.out zeroS w5 Hr5.out H5.out
    have hE := filla_keepE zeroS HE.out Hr5.out
    generalize fillA w5 (w.heap.size + 1) zeroS = W7 at hB hW hE ⊢
    clear r0 r1 r2 r3 r4 r5 r6 r7 r8 r9 r10 r11 r12 r13 hz
    obtain ⟨r0, r1, r2, r3, r4, r5, r6, r7, r8, r9, r10, r11, r12, r13⟩ := st_cells hB
    exact bodyPost_ret (v := .tuple #[sv zeroS, .slice B5 2 d5, .int .i64 0]) (by simp [results, Tryz.results28, go_sem, r0, r1, r2, r3, r4, r5, r6, r7, r8, r9, r10, r11, r12, r13]) rfl ⟨B5, d5, rfl, hE, hW⟩
  · obtain rfl : n = 512 := by omega
    have hres : dataS s b = ({ s with left := s.left - 512 }, [⟨1, zeroN, T⟩], 0) := by
      unfold dataS
      rw [if_neg hle, hT]
    rw [hres]
    have k1 : decide ((512 : Int) < s.left) = true := decide_eq_true (by omega)
    have k2 : IntKind.i64.wrap (s.left - 512) = s.left - 512 := by rw [IntKind.wrap_i64]; omega
    have k3 : (s.left - 512 == 0) = false := beq_eq_false_iff_ne.2 (by omega)
    have hsl' : ∀ w : World, (Instr.slice 36 (.slice (some ⟨bb, o, none⟩) 512 c) none (some (.int .i64 512)) none).run Tryz.prog w = .ok (.slice (some ⟨bb, o, none⟩) 512 c) w := hsl
    clear hres hcv ha hs1 hb hT hn hle h1 h2 hsl
    subst hg0
    obtain ⟨S, hS⟩ : ∃ S, { s with left := s.left - 512 } = S := ⟨_, rfl⟩
    have HrB := Lib.hid (Blk.new (w.alloc (.cells (scells S) 50)) 50 (scells zeroS))
    rw [World.size_alloc] at HrB
    have HbB := Lib.hid ((Blk.new w 50 (scells S)).alloc (.cells (scells zeroS) 50))
    have HW2 := Lib.hid (Stp.alloc (Stp.alloc (Stp.refl w) (.cells (scells S) 50)) (.cells (scells zeroS) 50))
    obtain ⟨W2, hW2⟩ : ∃ W2, (w.alloc (.cells (scells S) 50)).alloc (.cells (scells zeroS) 50) = W2 := ⟨_, rfl⟩
    rw [hW2] at HrB HW2 HbB
    have hsz2 : W2.heap.size = w.heap.size + 1 + 1 := by rw [← hW2, World.size_alloc, World.size_alloc]
    have hl2 := rdE_lit ⟨1, zeroN, T⟩ W2
    rw [hsz2] at hl2
    have HL2 := Lib.hid hl2
    have HrC := Lib.hid (HrB.out.alloc (.cells (ecells ⟨1, zeroN, T⟩) 40))
    have HW4 := Lib.hid (Stp.alloc HW2.out (.cells (ecells ⟨1, zeroN, T⟩) 40))
    clear hl2 hsz2
    subst hW2 hS
    go_enter Tryz.func28, Tryz.ntmps28
    go_wp2_with fail
    obtain ⟨W7, hW7⟩ : ∃ W7, ((w.alloc (.cells #[.int .i64 s.phase, .string ⟨s.node.path.toArray⟩, .string ⟨s.node.link.toArray⟩, .int .u8 (s.node.kind.toNat : Int), .int .i64 s.node.mode, .int .i64 s.node.uid, .int .i64 s.node.gid, .int .i64 s.node.time, .string ⟨s.node.data.toArray⟩, .int .i64 s.size, .int .i64 (s.left - 512), .string ⟨s.text.toArray⟩, .string ⟨s.name.toArray⟩, .string ⟨s.link.toArray⟩] 50)).alloc (.cells #[.int .i64 s.phase, .string ⟨s.node.path.toArray⟩, .string ⟨s.node.link.toArray⟩, .int .u8 (s.node.kind.toNat : Int), .int .i64 s.node.mode, .int .i64 s.node.uid, .int .i64 s.node.gid, .int .i64 s.node.time, .string ⟨s.node.data.toArray⟩, .int .i64 s.size, .int .i64 (s.left - 512), .string ⟨s.text.toArray⟩, .string ⟨s.name.toArray⟩, .string ⟨s.link.toArray⟩] 50)).alloc (.cells #[.int .i64 1, .string ⟨#[]⟩, .string ⟨#[]⟩, .int .u8 0, .int .i64 0, .int .i64 0, .int .i64 0, .int .i64 0, .string ⟨#[]⟩, .string ⟨T.toArray⟩] 40) = W7 := ⟨_, rfl⟩
    rw [hW7]
    have hB : Blk W7 (w.heap.size + 1) 50 (scells { s with left := s.left - 512 }) := by
      rw [← hW7]
      have := (Blk.new (w.alloc (.cells (scells { s with left := s.left - 512 }) 50)) 50 (scells { s with left := s.left - 512 })).alloc (.cells (ecells ⟨1, zeroN, T⟩) 40)
      rw [World.size_alloc] at this
      exact this
    have hW : Stp w W7 := by
      rw [← hW7]
      exact Stp.alloc (Stp.alloc (Stp.alloc (Stp.refl w) _) _) _
    have hE : RdE W7 (some ⟨w.heap.size + 1 + 1, 0, none⟩) 1 [⟨1, zeroN, T⟩] := by
      rw [← hW7]
      have := rdE_lit ⟨1, zeroN, T⟩ ((w.alloc (.cells (scells { s with left := s.left - 512 }) 50)).alloc (.cells (scells { s with left := s.left - 512 }) 50))
      rw [World.size_alloc, World.size_alloc] at this
      exact this
    clear hW7 q0 q1 q2 q3 q4 q5 q6 q7 q8 q9 q10 q11 q12 q13 r0 r1 r2 r3 r4 r5 r6 r7 r8 r9 r10 r11 r12 r13 hz hy
    obtain ⟨r0, r1, r2, r3, r4, r5, r6, r7, r8, r9, r10, r11, r12, r13⟩ := st_cells hB
    exact bodyPost_ret (v := .tuple #[sv { s with left := s.left - 512 }, .slice (some ⟨w.heap.size + 1 + 1, 0, none⟩) 1 1, .int .i64 0]) (by simp [results, Tryz.results28, go_sem, r0, r1, r2, r3, r4, r5, r6, r7, r8, r9, r10, r11, r12, r13]) rfl ⟨_, _, rfl, hE, hW⟩
end Go.Proofs.YtgjdbbhfgfodlaaGreat.Parse

