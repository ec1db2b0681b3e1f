/-
  The walk of the statement ParseParts over package parse's contracts: the statement itself is proved in a text of its own.
-/
import Derived.Test.YtejgnhicgeiceaaParseApp
import Derived.Test.YtejgnhicgeiceaaParseNodeW
namespace Go.Proofs.Ytejgnhicgeiceaa.Parse
open Go.RowKit Go.Proofs.Ytejgnhicgeiceaa.Str Go.Proofs.Ytejgnhicgeiceaa.Base Go.Proofs.Ytejgnhicgeiceaa.Node Go.Proofs.Ytejgnhicgeiceaa.Long
open Go.Proofs.Ytejgnhicgeiceaa.Tree (oneB)

section
variable {P : Program} {ops : Array Oper} {o : Oper} {a : Act} {K : Act → World → Prop} {Q : Exit → Act → World → Prop} {E : Prop}
theorem step_app_rows2 (w : World) (hgd : o.guard = none) (s x : Operand) (t : TypeId) (ho : o.op = .call { callee := .builtin .append, args := #[s, x], argTypes := #[t, t] })
    (lo : Nat) (e : TypeId) (ht : P.underlying t = some (.slice e)) (hi : (P.info? e).map (fun i => (i.zero, i.size, i.bytes)) = some (some (.slice none 0 0), 1, 24))
    (v : Value) (ls : List L) (hs : a.eval s = v) (h : Base.Rows w lo e v ls) {A : Option Addr} {n c : Nat} {ms : List L} (hx : a.eval x = .slice A n c) (hm : RdL w A c ms) (hn : ms.length = n) (hl : ls.length + n ≤ 1000000000) (hlo : lo ≤ w.heap.size)
    (hK : ∀ v' w', Base.Rows w' lo e v' (ls ++ ms) → w.grownBy w' v.ownBlock → K (a.put o.dst v') w') :
    if Region.wanted o (yielded ops a.tmps) = true then Oper.wp P o a w K Q else E := by
  obtain ⟨v', w', hr', h2, h3⟩ := h.more (P := P) t o.type ht hi hm hn (by rw [hn]; exact hl) hlo
  rw [if_pos (by simp [Region.wanted, hgd])]
  unfold Oper.wp execOp
  simp only [ho, resolve, invoke, builtin, Sem.run_bind, Sem.run_pure, Result.andThen_ok, List.map_toArray, List.map_cons, List.map_nil, hs, hx, hr']
  exact hK v' w' h2 h3
end
theorem share7 {G R : Value → Option Addr → Nat → Option Addr → Nat → Nat → World → Prop} {goal : Prop} (main : (∀ v A c B d g W, R v A c B d g W → G v A c B d g W) → goal) (fin : ∀ v A c B d g W, R v A c B d g W → G v A c B d g W) : goal := main fin
theorem rows_far {w : World} {lo : Nat} {e : TypeId} {v : Value} {ls : List L} (h : Base.Rows w lo e v ls) : some w.heap.size ≠ v.ownBlock := by
  obtain ⟨us, h1, -, -, -⟩ := h
  intro hh
  have := (h1.lt _ hh.symm).2
  omega
theorem rde_fills {w : World} {g d : Nat} {t : TypeId} {A : Option Addr} {xs : List Evt} (s : St) (h : RdE w A d xs) (hb : Blk w g t (scells zeroS)) : RdE (fillS w g s) A d xs := by
  cases xs with
  | nil => exact RdE.nil' _ _ _
  | cons x xs =>
    obtain ⟨b, o, rfl, -, -, -, -, q3, -, -, -, -, -, q9⟩ := h.cells (j := 0) rfl
    have hne : b ≠ g := by
      rintro rfl
      rw [hb.cell] at q3 q9
      rw [Nat.zero_mul, Nat.add_zero] at q3 q9
      rcases o with _ | _ | _ | _ | _ | _ | _ | _ | _ | _ | _ | o
      all_goals first
        | (simp [zeroS, zeroN] at q9; done)
        | (simp [zeroS, zeroN] at q3; done)
    exact rde_far (rde_far (rde_far (rde_far (rde_far (rde_far (rde_far (rde_far (rde_far (rde_far (rde_far (rde_far (rde_far (rde_far h hne _) hne _) hne _) hne _) hne _) hne _) hne _) hne _) hne _) hne _) hne _) hne _) hne _) hne _
theorem bmay_n (ls : List L) (n : Nat) (hn : ls.length = n) (A : Option Addr) (c : Nat) (w : World) (ha : RdL w A c ls) (hl : n < 9223372036854775808) :
    Calls Try.prog 20 #[.slice A n c] w fun e w' => e = .returned (.bool (BlockM.mayV ls)) ∧ Stp w w' := by
  subst hn
  exact Block.may_s ls A c w ha hl
theorem run_small {s : St} (hs : SmallS s) (l : List L) : SmallS (runS s l).1 := by
  induction l generalizing s with
  | nil => exact hs
  | cons b l ih =>
    by_cases h : (stepS s b).2.2 = 0
    · by_cases h5 : (stepS s b).1.phase = 5
      · rw [run_end l h h5]; exact step_small hs b
      · rw [run_on l h h5]; exact ih (step_small hs b)
    · rw [run_bad l h]; exact hs
set_option maxRecDepth 100000 in
set_option maxHeartbeats 4000000 in
theorem parts_no (I : ParseI) (s : St) (hs : SmallS s) (a b : List L) (na nb : Nat) (hna : a.length = na) (hnb : b.length = nb) (A B : Option Addr) (c d : Nat) (w : World) (ha : RdL w A c a) (hb : RdL w B d b) (hla : na < 9223372036854775808) (hlb : nb < 9223372036854775808) (hgo : ¬ (fewS s = true ∧ na ≤ 30 ∧ nb ≤ 30 ∧ BlockM.mayV a = true ∧ BlockM.mayV b = true)) :
    Calls Try.prog 6 #[sv s, .slice A na c, .slice B nb d] w fun e w' => e = .returned (.bool true) ∧ Stp w w' := by
  have h0 := Stp.alloc (Stp.refl w) (.cells (scells s) 25)
  have Hb := Lib.hid (Blk.new w 25 (scells s))
  have Ra := Lib.hid (ha.keep h0)
  have Rb := Lib.hid (hb.keep h0)
  obtain ⟨q0, q1, q2, q3, q4, q5, q6, q7, q8, q9, q10, q11, q12, q13⟩ := st_cells Hb.out
  have HI := Lib.hid I
  have Hs := Lib.hid hs
  have HnA := Lib.hid hna
  have HnB := Lib.hid hnb
  have HlA := Lib.hid hla
  have HlB := Lib.hid hlb
  obtain ⟨F, hF⟩ : ∃ x, fewS s = x := ⟨_, rfl⟩
  obtain ⟨Ma, hMa⟩ : ∃ x, BlockM.mayV a = x := ⟨_, rfl⟩
  obtain ⟨Mb, hMb⟩ : ∃ x, BlockM.mayV b = x := ⟨_, rfl⟩
  have HF := Lib.hid hF
  have HMa := Lib.hid hMa
  have HMb := Lib.hid hMb
  rw [hF, hMa, hMb] at hgo
  clear I hs ha hb hna hnb hF hMa hMb
  have key : F = false ∨ (F = true ∧ 30 < na) ∨ (F = true ∧ na ≤ 30 ∧ 30 < nb) ∨ (F = true ∧ na ≤ 30 ∧ nb ≤ 30 ∧ Ma = false) ∨ (F = true ∧ na ≤ 30 ∧ nb ≤ 30 ∧ Ma = true ∧ Mb = false) := by
    cases F <;> cases Ma <;> cases Mb <;> simp_all <;> omega
  clear hgo hla hlb
  rcases key with rfl | ⟨rfl, k1⟩ | ⟨rfl, k1, k2⟩ | ⟨rfl, k1, k2, rfl⟩ | ⟨rfl, k1, k2, rfl, rfl⟩
  · skip
    go_enter Try.func6, Try.ntmps6
    go_wp2_with (first
      | (go_at_call 10; (with_reducible refine (awake_s HI.out _).mono ?_); rintro e w1 ⟨rfl, hs⟩; replace Hb := Lib.hid (Hb.out.keep hs Hb.out.lt); replace Ra := Lib.hid (Ra.out.keep hs); replace Rb := Lib.hid (Rb.out.keep hs); replace h0 := Stp.trans h0 hs; clear hs q0 q1 q2 q3 q4 q5 q6 q7 q8 q9 q10 q11 q12 q13; obtain ⟨q0, q1, q2, q3, q4, q5, q6, q7, q8, q9, q10, q11, q12, q13⟩ := st_cells Hb.out)
      | (go_at_call 11; (with_reducible refine (fews_s s _).mono ?_); rintro e w2 ⟨rfl, hs⟩; rw [HF.out]; replace Hb := Lib.hid (Hb.out.keep hs Hb.out.lt); replace Ra := Lib.hid (Ra.out.keep hs); replace Rb := Lib.hid (Rb.out.keep hs); replace h0 := Stp.trans h0 hs; clear hs q0 q1 q2 q3 q4 q5 q6 q7 q8 q9 q10 q11 q12 q13; obtain ⟨q0, q1, q2, q3, q4, q5, q6, q7, q8, q9, q10, q11, q12, q13⟩ := st_cells Hb.out)
      | (go_at_call 20; (with_reducible refine (bmay_n a _ HnA.out _ _ _ Ra.out HlA.out).mono ?_); rintro e w3 ⟨rfl, hs⟩; rw [HMa.out]; replace Hb := Lib.hid (Hb.out.keep hs Hb.out.lt); replace Ra := Lib.hid (Ra.out.keep hs); replace Rb := Lib.hid (Rb.out.keep hs); replace h0 := Stp.trans h0 hs; clear hs q0 q1 q2 q3 q4 q5 q6 q7 q8 q9 q10 q11 q12 q13; obtain ⟨q0, q1, q2, q3, q4, q5, q6, q7, q8, q9, q10, q11, q12, q13⟩ := st_cells Hb.out)
      | (go_at_call 20; (with_reducible refine (bmay_n b _ HnB.out _ _ _ Rb.out HlB.out).mono ?_); rintro e w4 ⟨rfl, hs⟩; rw [HMb.out]; replace Hb := Lib.hid (Hb.out.keep hs Hb.out.lt); replace Ra := Lib.hid (Ra.out.keep hs); replace Rb := Lib.hid (Rb.out.keep hs); replace h0 := Stp.trans h0 hs; clear hs q0 q1 q2 q3 q4 q5 q6 q7 q8 q9 q10 q11 q12 q13; obtain ⟨q0, q1, q2, q3, q4, q5, q6, q7, q8, q9, q10, q11, q12, q13⟩ := st_cells Hb.out))
    go_ret
    exact ⟨rfl, h0⟩
  · have g1 : (30 : Int) < (na : Int) := by omega
    have g2 : decide ((30 : Int) < (na : Int)) = true := decide_eq_true g1
    clear k1
    go_enter Try.func6, Try.ntmps6
    go_wp2_with (first
      | (go_at_call 10; (with_reducible refine (awake_s HI.out _).mono ?_); rintro e w1 ⟨rfl, hs⟩; replace Hb := Lib.hid (Hb.out.keep hs Hb.out.lt); replace Ra := Lib.hid (Ra.out.keep hs); replace Rb := Lib.hid (Rb.out.keep hs); replace h0 := Stp.trans h0 hs; clear hs q0 q1 q2 q3 q4 q5 q6 q7 q8 q9 q10 q11 q12 q13; obtain ⟨q0, q1, q2, q3, q4, q5, q6, q7, q8, q9, q10, q11, q12, q13⟩ := st_cells Hb.out)
      | (go_at_call 11; (with_reducible refine (fews_s s _).mono ?_); rintro e w2 ⟨rfl, hs⟩; rw [HF.out]; replace Hb := Lib.hid (Hb.out.keep hs Hb.out.lt); replace Ra := Lib.hid (Ra.out.keep hs); replace Rb := Lib.hid (Rb.out.keep hs); replace h0 := Stp.trans h0 hs; clear hs q0 q1 q2 q3 q4 q5 q6 q7 q8 q9 q10 q11 q12 q13; obtain ⟨q0, q1, q2, q3, q4, q5, q6, q7, q8, q9, q10, q11, q12, q13⟩ := st_cells Hb.out)
      | (go_at_call 20; (with_reducible refine (bmay_n a _ HnA.out _ _ _ Ra.out HlA.out).mono ?_); rintro e w3 ⟨rfl, hs⟩; rw [HMa.out]; replace Hb := Lib.hid (Hb.out.keep hs Hb.out.lt); replace Ra := Lib.hid (Ra.out.keep hs); replace Rb := Lib.hid (Rb.out.keep hs); replace h0 := Stp.trans h0 hs; clear hs q0 q1 q2 q3 q4 q5 q6 q7 q8 q9 q10 q11 q12 q13; obtain ⟨q0, q1, q2, q3, q4, q5, q6, q7, q8, q9, q10, q11, q12, q13⟩ := st_cells Hb.out)
      | (go_at_call 20; (with_reducible refine (bmay_n b _ HnB.out _ _ _ Rb.out HlB.out).mono ?_); rintro e w4 ⟨rfl, hs⟩; rw [HMb.out]; replace Hb := Lib.hid (Hb.out.keep hs Hb.out.lt); replace Ra := Lib.hid (Ra.out.keep hs); replace Rb := Lib.hid (Rb.out.keep hs); replace h0 := Stp.trans h0 hs; clear hs q0 q1 q2 q3 q4 q5 q6 q7 q8 q9 q10 q11 q12 q13; obtain ⟨q0, q1, q2, q3, q4, q5, q6, q7, q8, q9, q10, q11, q12, q13⟩ := st_cells Hb.out))
    go_ret
    exact ⟨rfl, h0⟩
  · have g1 : ¬ (30 : Int) < (na : Int) := by omega
    have g2 : decide ((30 : Int) < (na : Int)) = false := decide_eq_false g1
    have g3 : (30 : Int) < (nb : Int) := by omega
    have g4 : decide ((30 : Int) < (nb : Int)) = true := decide_eq_true g3
    clear k1 k2 g1
    go_enter Try.func6, Try.ntmps6
    go_wp2_with (first
      | (go_at_call 10; (with_reducible refine (awake_s HI.out _).mono ?_); rintro e w1 ⟨rfl, hs⟩; replace Hb := Lib.hid (Hb.out.keep hs Hb.out.lt); replace Ra := Lib.hid (Ra.out.keep hs); replace Rb := Lib.hid (Rb.out.keep hs); replace h0 := Stp.trans h0 hs; clear hs q0 q1 q2 q3 q4 q5 q6 q7 q8 q9 q10 q11 q12 q13; obtain ⟨q0, q1, q2, q3, q4, q5, q6, q7, q8, q9, q10, q11, q12, q13⟩ := st_cells Hb.out)
      | (go_at_call 11; (with_reducible refine (fews_s s _).mono ?_); rintro e w2 ⟨rfl, hs⟩; rw [HF.out]; replace Hb := Lib.hid (Hb.out.keep hs Hb.out.lt); replace Ra := Lib.hid (Ra.out.keep hs); replace Rb := Lib.hid (Rb.out.keep hs); replace h0 := Stp.trans h0 hs; clear hs q0 q1 q2 q3 q4 q5 q6 q7 q8 q9 q10 q11 q12 q13; obtain ⟨q0, q1, q2, q3, q4, q5, q6, q7, q8, q9, q10, q11, q12, q13⟩ := st_cells Hb.out)
      | (go_at_call 20; (with_reducible refine (bmay_n a _ HnA.out _ _ _ Ra.out HlA.out).mono ?_); rintro e w3 ⟨rfl, hs⟩; rw [HMa.out]; replace Hb := Lib.hid (Hb.out.keep hs Hb.out.lt); replace Ra := Lib.hid (Ra.out.keep hs); replace Rb := Lib.hid (Rb.out.keep hs); replace h0 := Stp.trans h0 hs; clear hs q0 q1 q2 q3 q4 q5 q6 q7 q8 q9 q10 q11 q12 q13; obtain ⟨q0, q1, q2, q3, q4, q5, q6, q7, q8, q9, q10, q11, q12, q13⟩ := st_cells Hb.out)
      | (go_at_call 20; (with_reducible refine (bmay_n b _ HnB.out _ _ _ Rb.out HlB.out).mono ?_); rintro e w4 ⟨rfl, hs⟩; rw [HMb.out]; replace Hb := Lib.hid (Hb.out.keep hs Hb.out.lt); replace Ra := Lib.hid (Ra.out.keep hs); replace Rb := Lib.hid (Rb.out.keep hs); replace h0 := Stp.trans h0 hs; clear hs q0 q1 q2 q3 q4 q5 q6 q7 q8 q9 q10 q11 q12 q13; obtain ⟨q0, q1, q2, q3, q4, q5, q6, q7, q8, q9, q10, q11, q12, q13⟩ := st_cells Hb.out))
    go_ret
    exact ⟨rfl, h0⟩
  · have g1 : ¬ (30 : Int) < (na : Int) := by omega
    have g2 : decide ((30 : Int) < (na : Int)) = false := decide_eq_false g1
    have g3 : ¬ (30 : Int) < (nb : Int) := by omega
    have g4 : decide ((30 : Int) < (nb : Int)) = false := decide_eq_false g3
    clear k1 k2 g1 g3
    go_enter Try.func6, Try.ntmps6
    go_wp2_with (first
      | (go_at_call 10; (with_reducible refine (awake_s HI.out _).mono ?_); rintro e w1 ⟨rfl, hs⟩; replace Hb := Lib.hid (Hb.out.keep hs Hb.out.lt); replace Ra := Lib.hid (Ra.out.keep hs); replace Rb := Lib.hid (Rb.out.keep hs); replace h0 := Stp.trans h0 hs; clear hs q0 q1 q2 q3 q4 q5 q6 q7 q8 q9 q10 q11 q12 q13; obtain ⟨q0, q1, q2, q3, q4, q5, q6, q7, q8, q9, q10, q11, q12, q13⟩ := st_cells Hb.out)
      | (go_at_call 11; (with_reducible refine (fews_s s _).mono ?_); rintro e w2 ⟨rfl, hs⟩; rw [HF.out]; replace Hb := Lib.hid (Hb.out.keep hs Hb.out.lt); replace Ra := Lib.hid (Ra.out.keep hs); replace Rb := Lib.hid (Rb.out.keep hs); replace h0 := Stp.trans h0 hs; clear hs q0 q1 q2 q3 q4 q5 q6 q7 q8 q9 q10 q11 q12 q13; obtain ⟨q0, q1, q2, q3, q4, q5, q6, q7, q8, q9, q10, q11, q12, q13⟩ := st_cells Hb.out)
      | (go_at_call 20; (with_reducible refine (bmay_n a _ HnA.out _ _ _ Ra.out HlA.out).mono ?_); rintro e w3 ⟨rfl, hs⟩; rw [HMa.out]; replace Hb := Lib.hid (Hb.out.keep hs Hb.out.lt); replace Ra := Lib.hid (Ra.out.keep hs); replace Rb := Lib.hid (Rb.out.keep hs); replace h0 := Stp.trans h0 hs; clear hs q0 q1 q2 q3 q4 q5 q6 q7 q8 q9 q10 q11 q12 q13; obtain ⟨q0, q1, q2, q3, q4, q5, q6, q7, q8, q9, q10, q11, q12, q13⟩ := st_cells Hb.out)
      | (go_at_call 20; (with_reducible refine (bmay_n b _ HnB.out _ _ _ Rb.out HlB.out).mono ?_); rintro e w4 ⟨rfl, hs⟩; rw [HMb.out]; replace Hb := Lib.hid (Hb.out.keep hs Hb.out.lt); replace Ra := Lib.hid (Ra.out.keep hs); replace Rb := Lib.hid (Rb.out.keep hs); replace h0 := Stp.trans h0 hs; clear hs q0 q1 q2 q3 q4 q5 q6 q7 q8 q9 q10 q11 q12 q13; obtain ⟨q0, q1, q2, q3, q4, q5, q6, q7, q8, q9, q10, q11, q12, q13⟩ := st_cells Hb.out))
    go_ret
    exact ⟨rfl, h0⟩
  · have g1 : ¬ (30 : Int) < (na : Int) := by omega
    have g2 : decide ((30 : Int) < (na : Int)) = false := decide_eq_false g1
    have g3 : ¬ (30 : Int) < (nb : Int) := by omega
    have g4 : decide ((30 : Int) < (nb : Int)) = false := decide_eq_false g3
    clear k1 k2 g1 g3
    go_enter Try.func6, Try.ntmps6
    go_wp2_with (first
      | (go_at_call 10; (with_reducible refine (awake_s HI.out _).mono ?_); rintro e w1 ⟨rfl, hs⟩; replace Hb := Lib.hid (Hb.out.keep hs Hb.out.lt); replace Ra := Lib.hid (Ra.out.keep hs); replace Rb := Lib.hid (Rb.out.keep hs); replace h0 := Stp.trans h0 hs; clear hs q0 q1 q2 q3 q4 q5 q6 q7 q8 q9 q10 q11 q12 q13; obtain ⟨q0, q1, q2, q3, q4, q5, q6, q7, q8, q9, q10, q11, q12, q13⟩ := st_cells Hb.out)
      | (go_at_call 11; (with_reducible refine (fews_s s _).mono ?_); rintro e w2 ⟨rfl, hs⟩; rw [HF.out]; replace Hb := Lib.hid (Hb.out.keep hs Hb.out.lt); replace Ra := Lib.hid (Ra.out.keep hs); replace Rb := Lib.hid (Rb.out.keep hs); replace h0 := Stp.trans h0 hs; clear hs q0 q1 q2 q3 q4 q5 q6 q7 q8 q9 q10 q11 q12 q13; obtain ⟨q0, q1, q2, q3, q4, q5, q6, q7, q8, q9, q10, q11, q12, q13⟩ := st_cells Hb.out)
      | (go_at_call 20; (with_reducible refine (bmay_n a _ HnA.out _ _ _ Ra.out HlA.out).mono ?_); rintro e w3 ⟨rfl, hs⟩; rw [HMa.out]; replace Hb := Lib.hid (Hb.out.keep hs Hb.out.lt); replace Ra := Lib.hid (Ra.out.keep hs); replace Rb := Lib.hid (Rb.out.keep hs); replace h0 := Stp.trans h0 hs; clear hs q0 q1 q2 q3 q4 q5 q6 q7 q8 q9 q10 q11 q12 q13; obtain ⟨q0, q1, q2, q3, q4, q5, q6, q7, q8, q9, q10, q11, q12, q13⟩ := st_cells Hb.out)
      | (go_at_call 20; (with_reducible refine (bmay_n b _ HnB.out _ _ _ Rb.out HlB.out).mono ?_); rintro e w4 ⟨rfl, hs⟩; rw [HMb.out]; replace Hb := Lib.hid (Hb.out.keep hs Hb.out.lt); replace Ra := Lib.hid (Ra.out.keep hs); replace Rb := Lib.hid (Rb.out.keep hs); replace h0 := Stp.trans h0 hs; clear hs q0 q1 q2 q3 q4 q5 q6 q7 q8 q9 q10 q11 q12 q13; obtain ⟨q0, q1, q2, q3, q4, q5, q6, q7, q8, q9, q10, q11, q12, q13⟩ := st_cells Hb.out))
    go_ret
    exact ⟨rfl, h0⟩
set_option maxRecDepth 100000 in
set_option maxHeartbeats 8000000 in
theorem parts_a (I : ParseI) (s : St) (hs : SmallS s) (a b : List L) (na nb : Nat) (hna : a.length = na) (hnb : b.length = nb) (A B : Option Addr) (c d : Nat) (w : World) (ha : RdL w A c a) (hb : RdL w B d b) (hla : na < 9223372036854775808) (hlb : nb < 9223372036854775808) (hgo : fewS s = true ∧ na ≤ 30 ∧ nb ≤ 30 ∧ BlockM.mayV a = true ∧ BlockM.mayV b = true)
    (t u v : St) (x y z : List Evt) (n m q : Nat) (e1 e2 e3 : Int) (hr1 : runS s a = (t, x, n, e1)) (hr2 : runS t b = (u, y, m, e2)) (hr3 : runS s (a ++ b) = (v, z, q, e3)) (hst : (e1 != 0) = true ∨ ((e1 != 0) = false ∧ (t.phase == 5) = true ∧ (0 : Int) < (n : Int))) (heq3 : v = t ∧ z = x ∧ q = n ∧ e3 = e1) :
    Calls Try.prog 6 #[sv s, .slice A na c, .slice B nb d] w fun e w' => e = .returned (.bool true) ∧ Stp w w' := by
  have h0 := Stp.alloc (Stp.refl w) (.cells (scells s) 25)
  have Hb := Lib.hid (Blk.new w 25 (scells s))
  have Ra := Lib.hid (ha.keep h0)
  have Rb := Lib.hid (hb.keep h0)
  obtain ⟨q0, q1, q2, q3, q4, q5, q6, q7, q8, q9, q10, q11, q12, q13⟩ := st_cells Hb.out
  have HI := Lib.hid I
  have Hs := Lib.hid hs
  have HnA := Lib.hid hna
  have HnB := Lib.hid hnb
  have HlA := Lib.hid hla
  have HlB := Lib.hid hlb
  obtain ⟨F, hF⟩ : ∃ x, fewS s = x := ⟨_, rfl⟩
  obtain ⟨Ma, hMa⟩ : ∃ x, BlockM.mayV a = x := ⟨_, rfl⟩
  obtain ⟨Mb, hMb⟩ : ∃ x, BlockM.mayV b = x := ⟨_, rfl⟩
  have HF := Lib.hid hF
  have HMa := Lib.hid hMa
  have HMb := Lib.hid hMb
  rw [hF, hMa, hMb] at hgo
  clear I hs ha hb hna hnb hF hMa hMb
  obtain ⟨rfl, k1, k2, rfl, rfl⟩ := hgo
  have Ht := Lib.hid (show SmallS t by have := run_small Hs.out a; rw [hr1] at this; exact this)
  have f1 := run_facts a s
  have f2 := run_facts b t
  have f3 := run_facts (a ++ b) s
  rw [hr1] at f1
  rw [hr2] at f2
  rw [hr3] at f3
  have l1 : x.length ≤ 2 * n := f1.len
  have l2 : y.length ≤ 2 * m := f2.len
  have l3 : z.length ≤ 2 * q := f3.len
  have p1 : n ≤ na := by rw [← HnA.out]; exact f1.n
  have p2 : m ≤ nb := by rw [← HnB.out]; exact f2.n
  have p3 : q ≤ na + nb := by have := f3.n; rw [List.length_append, HnA.out, HnB.out] at this; exact this
  have H1 := Lib.hid hr1
  have H2 := Lib.hid hr2
  have H3 := Lib.hid hr3
  obtain ⟨i, hi⟩ : ∃ i, x.length = i := ⟨_, rfl⟩
  obtain ⟨j, hj⟩ : ∃ j, y.length = j := ⟨_, rfl⟩
  obtain ⟨k, hk⟩ : ∃ k, z.length = k := ⟨_, rfl⟩
  rw [hi] at l1
  rw [hj] at l2
  rw [hk] at l3
  have Hi := Lib.hid hi
  have Hj := Lib.hid hj
  have Hk := Lib.hid hk
  obtain ⟨N, hN⟩ : ∃ N, (a ++ b).length = N := ⟨_, rfl⟩
  have HN := Lib.hid hN
  have Hl30 := Lib.hid (show a.length + nb ≤ 60 ∧ na ≤ 30 by rw [HnA.out]; omega)
  have Hl60 := Lib.hid (show N ≤ 1000 by rw [← hN, List.length_append, HnA.out, HnB.out]; omega)
  have HbA := Lib.hid (show ∀ l ∈ a, l.length < 9223372036854775808 from fun l hl => by rw [BlockM.mayV_iff.1 HMa.out l hl]; omega)
  have HbB := Lib.hid (show ∀ l ∈ b, l.length < 9223372036854775808 from fun l hl => by rw [BlockM.mayV_iff.1 HMb.out l hl]; omega)
  have Hab := Lib.hid (show ∀ l ∈ a ++ b, l.length < 9223372036854775808 from fun l hl => by rcases List.mem_append.1 hl with h | h; exact HbA.out l h; exact HbB.out l h)
  have Hli := Lib.hid (show i ≤ 60 ∧ j ≤ 60 ∧ k ≤ 120 by omega)
  have g1 : ¬ (30 : Int) < (na : Int) := by omega
  have g2 : decide ((30 : Int) < (na : Int)) = false := decide_eq_false g1
  have g3 : ¬ (30 : Int) < (nb : Int) := by omega
  have g4 : decide ((30 : Int) < (nb : Int)) = false := decide_eq_false g3
  have Hn60 := Lib.hid (show n ≤ 30 ∧ m ≤ 30 by omega)
  have Hn1000 := Lib.hid (show na ≤ 1000 ∧ nb ≤ 1000 by omega)
  have Hst := Lib.hid hst
  have Heq3 := Lib.hid heq3
  clear hst heq3
  clear hr1 hr2 hr3 f1 f2 f3 hi hj hk hN l1 l2 l3 p1 p2 p3 hla hlb k1 k2 g1 g3
  go_enter Try.func6, Try.ntmps6
  go_wp2_with (first
      | (go_at_call 10; (with_reducible refine (awake_s HI.out _).mono ?_); rintro e w1 ⟨rfl, hs⟩; replace Hb := Lib.hid (Hb.out.keep hs Hb.out.lt); replace Ra := Lib.hid (Ra.out.keep hs); replace Rb := Lib.hid (Rb.out.keep hs); replace h0 := Stp.trans h0 hs; clear hs q0 q1 q2 q3 q4 q5 q6 q7 q8 q9 q10 q11 q12 q13; obtain ⟨q0, q1, q2, q3, q4, q5, q6, q7, q8, q9, q10, q11, q12, q13⟩ := st_cells Hb.out)
      | (go_at_call 11; (with_reducible refine (fews_s s _).mono ?_); rintro e w2 ⟨rfl, hs⟩; rw [HF.out]; replace Hb := Lib.hid (Hb.out.keep hs Hb.out.lt); replace Ra := Lib.hid (Ra.out.keep hs); replace Rb := Lib.hid (Rb.out.keep hs); replace h0 := Stp.trans h0 hs; clear hs q0 q1 q2 q3 q4 q5 q6 q7 q8 q9 q10 q11 q12 q13; obtain ⟨q0, q1, q2, q3, q4, q5, q6, q7, q8, q9, q10, q11, q12, q13⟩ := st_cells Hb.out)
      | (go_at_call 20; (with_reducible refine (bmay_n a _ HnA.out _ _ _ Ra.out HlA.out).mono ?_); rintro e w3 ⟨rfl, hs⟩; rw [HMa.out]; replace Hb := Lib.hid (Hb.out.keep hs Hb.out.lt); replace Ra := Lib.hid (Ra.out.keep hs); replace Rb := Lib.hid (Rb.out.keep hs); replace h0 := Stp.trans h0 hs; clear hs q0 q1 q2 q3 q4 q5 q6 q7 q8 q9 q10 q11 q12 q13; obtain ⟨q0, q1, q2, q3, q4, q5, q6, q7, q8, q9, q10, q11, q12, q13⟩ := st_cells Hb.out)
      | (go_at_call 20; (with_reducible refine (bmay_n b _ HnB.out _ _ _ Rb.out HlB.out).mono ?_); rintro e w4 ⟨rfl, hs⟩; rw [HMb.out]; replace Hb := Lib.hid (Hb.out.keep hs Hb.out.lt); replace Ra := Lib.hid (Ra.out.keep hs); replace Rb := Lib.hid (Rb.out.keep hs); replace h0 := Stp.trans h0 hs; clear hs q0 q1 q2 q3 q4 q5 q6 q7 q8 q9 q10 q11 q12 q13; obtain ⟨q0, q1, q2, q3, q4, q5, q6, q7, q8, q9, q10, q11, q12, q13⟩ := st_cells Hb.out)
      | (go_at_call 16; (with_reducible refine (HI.out.run s _ rfl Hs.out a na HnA.out Hn1000.out.1 HbA.out t x i n e1 H1.out Hi.out _ _ _ Ra.out).mono ?_); rintro e w5 ⟨B5, d5, rfl, he, hs⟩; have He1 := Lib.hid (he.keep (Stp.alloc (Stp.refl _) (.cells (scells t) 25))); have HbT := Lib.hid (Blk.new w5 25 (scells t)); replace Hb := Lib.hid (Hb.out.keep hs Hb.out.lt); replace Ra := Lib.hid (Ra.out.keep hs); replace Rb := Lib.hid (Rb.out.keep hs); replace h0 := Stp.trans h0 hs; clear hs q0 q1 q2 q3 q4 q5 q6 q7 q8 q9 q10 q11 q12 q13; obtain ⟨q0, q1, q2, q3, q4, q5, q6, q7, q8, q9, q10, q11, q12, q13⟩ := st_cells Hb.out; replace Ra := Lib.hid (Ra.out.keep (Stp.alloc (Stp.refl _) (.cells (scells t) 25))); replace Rb := Lib.hid (Rb.out.keep (Stp.alloc (Stp.refl _) (.cells (scells t) 25))); replace Hb := Lib.hid (Hb.out.alloc (.cells (scells t) 25)); replace h0 := Stp.alloc h0 (.cells (scells t) 25); clear he q0 q1 q2 q3 q4 q5 q6 q7 q8 q9 q10 q11 q12 q13; obtain ⟨q0, q1, q2, q3, q4, q5, q6, q7, q8, q9, q10, q11, q12, q13⟩ := st_cells Hb.out; obtain ⟨t0, t1, t2, t3, t4, t5, t6, t7, t8, t9, t10, t11, t12, t13⟩ := st_cells HbT.out)
      | (go_at_call 16; (with_reducible refine (HI.out.run t _ rfl Ht.out b nb HnB.out Hn1000.out.2 HbB.out u y j m e2 H2.out Hj.out _ _ _ Rb.out).mono ?_); rintro e w6 ⟨B6, d6, rfl, he, hs⟩; have hs2 := Stp.alloc hs (.cells (scells u) 25); have He2 := Lib.hid (he.keep (Stp.alloc (Stp.refl _) (.cells (scells u) 25))); have HbU := Lib.hid (Blk.new w6 25 (scells u)); replace Ra := Lib.hid (Ra.out.keep hs2); replace Rb := Lib.hid (Rb.out.keep hs2); replace Hb := Lib.hid (Hb.out.keep hs2 Hb.out.lt); replace HbT := Lib.hid (HbT.out.keep hs2 HbT.out.lt); replace He1 := Lib.hid (He1.out.keep hs2); replace h0 := Stp.trans h0 hs2; clear he hs hs2 q0 q1 q2 q3 q4 q5 q6 q7 q8 q9 q10 q11 q12 q13 t0 t1 t2 t3 t4 t5 t6 t7 t8 t9 t10 t11 t12 t13))
  obtain ⟨gt, hgt⟩ : ∃ g, w5.heap.size = g := ⟨_, rfl⟩
  obtain ⟨gu, hgu⟩ : ∃ g, w6.heap.size = g := ⟨_, rfl⟩
  rw [hgt] at HbT
  rw [hgu] at HbU
  rw [hgt, hgu]
  obtain ⟨wx, hwx⟩ : ∃ x, w6.alloc (.cells (scells u) 25) = x := ⟨_, rfl⟩
  change Code.wp _ _ _ _ (w6.alloc (.cells (scells u) 25))
  rw [hwx] at HbT HbU He1 He2 Ra Rb Hb h0 ⊢
  have H0 := Lib.hid h0
  have key : ∀ W, Stp wx W → (Stp wx W ∧ (W.cell? ⟨w.heap.size, 0, none⟩ = some (.int .i64 s.phase) ∧ W.cell? ⟨w.heap.size, 1, none⟩ = some (.string ⟨s.node.path.toArray⟩) ∧ W.cell? ⟨w.heap.size, 2, none⟩ = some (.string ⟨s.node.link.toArray⟩) ∧ W.cell? ⟨w.heap.size, 3, none⟩ = some (.int .u8 (s.node.kind.toNat : Int)) ∧ W.cell? ⟨w.heap.size, 4, none⟩ = some (.int .i64 s.node.mode) ∧ W.cell? ⟨w.heap.size, 5, none⟩ = some (.int .i64 s.node.uid) ∧ W.cell? ⟨w.heap.size, 6, none⟩ = some (.int .i64 s.node.gid) ∧ W.cell? ⟨w.heap.size, 7, none⟩ = some (.int .i64 s.node.time) ∧ W.cell? ⟨w.heap.size, 8, none⟩ = some (.string ⟨s.node.data.toArray⟩) ∧ W.cell? ⟨w.heap.size, 9, none⟩ = some (.int .i64 s.size) ∧ W.cell? ⟨w.heap.size, 10, none⟩ = some (.int .i64 s.left) ∧ W.cell? ⟨w.heap.size, 11, none⟩ = some (.string ⟨s.text.toArray⟩) ∧ W.cell? ⟨w.heap.size, 12, none⟩ = some (.string ⟨s.name.toArray⟩) ∧ W.cell? ⟨w.heap.size, 13, none⟩ = some (.string ⟨s.link.toArray⟩))) := fun W hW => ⟨hW, st_cells (Hb.out.keep hW Hb.out.lt)⟩
  have Key := Lib.hid key
  clear key h0 hwx hgt hgu
  refine share7 (G := ?G) (R := fun v7 A8 c8 B9 d9 gg W7 => Blk W7 gg 25 (scells v) ∧ Stp wx W7 ∧ Hid (RdE W7 B9 d9 z)) (fun hfin => ?main) ?fin
  case main =>
    refine wp_region_held_drew (S := fun W : World => Stp wx W ∧ (W.cell? ⟨w.heap.size, 0, none⟩ = some (.int .i64 s.phase) ∧ W.cell? ⟨w.heap.size, 1, none⟩ = some (.string ⟨s.node.path.toArray⟩) ∧ W.cell? ⟨w.heap.size, 2, none⟩ = some (.string ⟨s.node.link.toArray⟩) ∧ W.cell? ⟨w.heap.size, 3, none⟩ = some (.int .u8 (s.node.kind.toNat : Int)) ∧ W.cell? ⟨w.heap.size, 4, none⟩ = some (.int .i64 s.node.mode) ∧ W.cell? ⟨w.heap.size, 5, none⟩ = some (.int .i64 s.node.uid) ∧ W.cell? ⟨w.heap.size, 6, none⟩ = some (.int .i64 s.node.gid) ∧ W.cell? ⟨w.heap.size, 7, none⟩ = some (.int .i64 s.node.time) ∧ W.cell? ⟨w.heap.size, 8, none⟩ = some (.string ⟨s.node.data.toArray⟩) ∧ W.cell? ⟨w.heap.size, 9, none⟩ = some (.int .i64 s.size) ∧ W.cell? ⟨w.heap.size, 10, none⟩ = some (.int .i64 s.left) ∧ W.cell? ⟨w.heap.size, 11, none⟩ = some (.string ⟨s.text.toArray⟩) ∧ W.cell? ⟨w.heap.size, 12, none⟩ = some (.string ⟨s.name.toArray⟩) ∧ W.cell? ⟨w.heap.size, 13, none⟩ = some (.string ⟨s.link.toArray⟩))) (by kernel_rfl) (Key.out _ (Head.stp_drew (Stp.refl _))) (fun hHeld => ?_)
    refine wpAnyH_take (i := 0) (oi := { dst := some 68, op := Go.Op.load 25 (Go.Operand.tmp 3), type := 25, pos := "law.go:120", after := #[], guard := none }) (v := ?v0a) rfl (by kernel_rfl) (by kernel_rfl) (by kernel_rfl) (fun _ _ _ h => h) (Or.inl ⟨by rfl, ?hy0a⟩) (by assumption) ?rest0a
    case hy0a => (intro w hSw; (try dsimp only at hSw); go_simp; try with_reducible rfl)
    try simp only [Act.put, List.setIfInBounds_toArray, List.set_cons_zero, List.set_cons_succ]
    refine wpAnyH_take (i := 1) (oi := { dst := some 69, op := Go.Op.move (Go.Operand.tmp 1), type := 35, pos := "law.go:120", after := #[], guard := none }) (v := ?v1a) rfl (by kernel_rfl) (by kernel_rfl) (by kernel_rfl) (fun _ _ _ h => h) (Or.inl ⟨by rfl, ?hy1a⟩) (by assumption) ?rest1a
    case hy1a => (intro w hSw; (try dsimp only at hSw); go_simp; try with_reducible rfl)
    try simp only [Act.put, List.setIfInBounds_toArray, List.set_cons_zero, List.set_cons_succ]
    refine wpAnyH_take (i := 3) (oi := { dst := some 71, op := Go.Op.move (Go.Operand.tmp 2), type := 35, pos := "law.go:120", after := #[], guard := none }) (v := ?v3a) rfl (by kernel_rfl) (by kernel_rfl) (by kernel_rfl) (fun _ _ _ h => h) (Or.inl ⟨by rfl, ?hy3a⟩) (by assumption) ?rest3a
    case hy3a => (intro w hSw; (try dsimp only at hSw); go_simp; try with_reducible rfl)
    try simp only [Act.put, List.setIfInBounds_toArray, List.set_cons_zero, List.set_cons_succ]
    refine wpAnyH_ready (rs := [2, 11]) (by kernel_rfl) (by simp) ?_
    refine AllReadyH.cons (o := { dst := some 70, op := Go.Op.call { callee := Go.Callee.builtin Go.Builtin.append, args := #[Go.Operand.const (Go.Value.slice none 0 0), Go.Operand.tmp 69], argTypes := #[35, 35] }, type := 35, pos := "law.go:120", after := #[{ on := 1, ground := Go.Ground.data }], guard := none }) rfl (fun K hK => ?wayc) (AllReadyH.cons (o := { dst := some 17, op := Go.Op.alloc 25, type := 0, pos := "law.go:120", after := #[], guard := none }) rfl (fun K hK => ?waya) AllReadyH.nil)
    case wayc =>
      refine step_app_rows2 _ rfl _ _ 35 rfl _ 26 Try.underlying35 (by kernel_rfl) _ [] rfl (Base.Rows.nil _ _ _) rfl (Ra.out.keep (Head.stp_drew (Stp.refl wx))) HnA.out (by have := Hl30.out; simp only [List.length_nil]; omega) (Nat.le_refl _) ?_
      intro v7 w7 hv7 hg7
      have HP := Lib.hid (Base.Rows.stp (Base.Rows.nil _ _ 26) (Stp.refl _) (Nat.le_refl _) hg7)
      have H7 := Lib.hid (Stp.trans (Head.stp_drew (Stp.refl wx)) HP.out)
      have HR7 := Lib.hid (show Base.Rows w7 _ 26 v7 a from hv7)
      clear hv7 hg7
      refine hK.out _ _ (Key.out _ (H7.out)) (fun hHeld2 => ?_)
      clear hK K hHeld
      have hHeld := hHeld2
      clear hHeld2
      try simp only [Act.put, List.setIfInBounds_toArray, List.set_cons_zero, List.set_cons_succ]
      refine wpAnyH_ready (rs := [4, 11]) (by kernel_rfl) (by simp) ?_
      refine AllReadyH.cons (o := { dst := some 72, op := Go.Op.call { callee := Go.Callee.builtin Go.Builtin.append, args := #[Go.Operand.tmp 70, Go.Operand.tmp 71], argTypes := #[35, 35] }, type := 35, pos := "law.go:120", after := #[{ on := 2, ground := Go.Ground.data }, { on := 3, ground := Go.Ground.data }, { on := 2, ground := Go.Ground.chain }], guard := none }) rfl (fun K hK => ?waycc) (AllReadyH.cons (o := { dst := some 17, op := Go.Op.alloc 25, type := 0, pos := "law.go:120", after := #[], guard := none }) rfl (fun K hK => ?wayca) AllReadyH.nil)
      case waycc =>
        refine step_app_rows2 _ rfl _ _ 35 rfl _ 26 Try.underlying35 (by kernel_rfl) _ a rfl (HR7.out.keep (Stp.refl _)) rfl (Rb.out.keep (H7.out)) HnB.out (by have := Hl30.out; omega) (HP.out.size) ?_
        intro v8 w8 hv8 hg8
        have H8 := Lib.hid (Base.Rows.stp (HR7.out.keep (Stp.refl _)) (H7.out) (Nat.le_refl _) hg8)
        obtain ⟨A8, c8, he8, hr8⟩ := Base.Rows.rdL hv8
        rw [HN.out] at he8
        subst he8
        have HR8 := Lib.hid hr8
        clear hv8 hg8 hr8
        refine hK.out _ _ (Key.out _ (H8.out)) (fun hHeld2 => ?_)
        clear hK K hHeld
        have hHeld := hHeld2
        clear hHeld2
        try simp only [Act.put, List.setIfInBounds_toArray, List.set_cons_zero, List.set_cons_succ]
        refine wpAnyH_ready (rs := [5, 11]) (by kernel_rfl) (by simp) ?_
        refine AllReadyH.cons (o := { dst := some 73, op := Go.Op.call { callee := Go.Callee.value (Go.Operand.func 16), args := #[Go.Operand.tmp 68, Go.Operand.tmp 72], argTypes := #[25, 35] }, type := 38, pos := "law.go:120", after := #[{ on := 0, ground := Go.Ground.data }, { on := 4, ground := Go.Ground.data }, { on := 4, ground := Go.Ground.chain }], guard := none }) rfl (fun K hK => ?wayccc) (AllReadyH.cons (o := { dst := some 17, op := Go.Op.alloc 25, type := 0, pos := "law.go:120", after := #[], guard := none }) rfl (fun K hK => ?waycca) AllReadyH.nil)
        case wayccc =>
          go_simp
          refine (HI.out.run s _ rfl Hs.out (a ++ b) N HN.out Hl60.out Hab.out v z k q e3 H3.out Hk.out _ _ _ (HR8.out.keep (Stp.refl _))).mono ?_
          rintro e w9 ⟨B9, d9, rfl, he, hs⟩
          have H9 := Lib.hid (Stp.trans (H8.out) hs)
          have He9 := Lib.hid he
          skip
          clear hs he
          go_wp2_with fail
          refine hK.out _ _ (Key.out _ (H9.out)) (fun hHeld2 => ?_)
          clear hK K hHeld
          have hHeld := hHeld2
          clear hHeld2
          try simp only [Act.put, List.setIfInBounds_toArray, List.set_cons_zero, List.set_cons_succ]
          refine wpAnyH_take (i := 6) (oi := { dst := some 67, op := Go.Op.move (Go.Operand.tmp 73), type := 38, pos := "law.go:120", after := #[{ on := 5, ground := Go.Ground.data }], guard := none }) (v := ?v6e) rfl (by kernel_rfl) (by kernel_rfl) (by kernel_rfl) (fun _ _ _ h => h) (Or.inl ⟨by rfl, ?hy6e⟩) (by assumption) ?rest6e
          case hy6e => (intro w hSw; (try dsimp only at hSw); go_simp; try with_reducible rfl)
          try simp only [Act.put, List.setIfInBounds_toArray, List.set_cons_zero, List.set_cons_succ]
          refine wpAnyH_take (i := 7) (oi := { dst := some 74, op := Go.Op.extract (Go.Operand.tmp 67) 0, type := 25, pos := "law.go:120", after := #[{ on := 6, ground := Go.Ground.data }], guard := none }) (v := ?v7e) rfl (by kernel_rfl) (by kernel_rfl) (by kernel_rfl) (fun _ _ _ h => h) (Or.inl ⟨by rfl, ?hy7e⟩) (by assumption) ?rest7e
          case hy7e => (intro w hSw; (try dsimp only at hSw); go_simp; try with_reducible rfl)
          try simp only [Act.put, List.setIfInBounds_toArray, List.set_cons_zero, List.set_cons_succ]
          refine wpAnyH_take (i := 8) (oi := { dst := some 75, op := Go.Op.extract (Go.Operand.tmp 67) 1, type := 29, pos := "law.go:120", after := #[{ on := 6, ground := Go.Ground.data }, { on := 12, ground := Go.Ground.gcOnly Go.Departure.lateStores }], guard := none }) (v := ?v8e) rfl (by kernel_rfl) (by kernel_rfl) (by kernel_rfl) (fun _ _ _ h => h) (Or.inl ⟨by rfl, ?hy8e⟩) (by assumption) ?rest8e
          case hy8e => (intro w hSw; (try dsimp only at hSw); go_simp; try with_reducible rfl)
          try simp only [Act.put, List.setIfInBounds_toArray, List.set_cons_zero, List.set_cons_succ]
          refine wpAnyH_take (i := 9) (oi := { dst := some 76, op := Go.Op.extract (Go.Operand.tmp 67) 2, type := 3, pos := "law.go:120", after := #[{ on := 6, ground := Go.Ground.data }, { on := 13, ground := Go.Ground.gcOnly Go.Departure.lateStores }], guard := none }) (v := ?v9e) rfl (by kernel_rfl) (by kernel_rfl) (by kernel_rfl) (fun _ _ _ h => h) (Or.inl ⟨by rfl, ?hy9e⟩) (by assumption) ?rest9e
          case hy9e => (intro w hSw; (try dsimp only at hSw); go_simp; try with_reducible rfl)
          try simp only [Act.put, List.setIfInBounds_toArray, List.set_cons_zero, List.set_cons_succ]
          refine wpAnyH_take (i := 10) (oi := { dst := some 77, op := Go.Op.extract (Go.Operand.tmp 67) 3, type := 30, pos := "law.go:120", after := #[{ on := 6, ground := Go.Ground.data }, { on := 14, ground := Go.Ground.gcOnly Go.Departure.lateStores }], guard := none }) (v := ?v10e) rfl (by kernel_rfl) (by kernel_rfl) (by kernel_rfl) (fun _ _ _ h => h) (Or.inl ⟨by rfl, ?hy10e⟩) (by assumption) ?rest10e
          case hy10e => (intro w hSw; (try dsimp only at hSw); go_simp; try with_reducible rfl)
          try simp only [Act.put, List.setIfInBounds_toArray, List.set_cons_zero, List.set_cons_succ]
          refine wpAnyH_ready (rs := [11]) (by kernel_rfl) (by simp) ?_
          refine AllReadyH.cons (o := { dst := some 17, op := Go.Op.alloc 25, type := 0, pos := "law.go:120", after := #[], guard := none }) rfl (fun K hK => ?_) AllReadyH.nil
          go_simp
          refine hK.out _ _ (Key.out _ (Stp.alloc H9.out _)) (fun hHeld2 => ?_)
          clear hK K hHeld
          have hHeld := hHeld2
          clear hHeld2
          try simp only [Act.put, List.setIfInBounds_toArray, List.set_cons_zero, List.set_cons_succ]
          refine wpAnyH_ready (rs := [12]) (by kernel_rfl) (by simp) ?_
          refine AllReadyH.cons (o := { dst := none, op := Go.Op.store 25 (Go.Operand.tmp 17) (Go.Operand.tmp 74), type := 0, pos := "law.go:120", after := #[{ on := 11, ground := Go.Ground.data }, { on := 7, ground := Go.Ground.data }, { on := 5, ground := Go.Ground.chain }, { on := 0, ground := Go.Ground.phase }, { on := 1, ground := Go.Ground.phase }, { on := 2, ground := Go.Ground.phase }, { on := 3, ground := Go.Ground.phase }, { on := 4, ground := Go.Ground.phase }, { on := 5, ground := Go.Ground.phase }, { on := 6, ground := Go.Ground.phase }, { on := 7, ground := Go.Ground.phase }, { on := 8, ground := Go.Ground.textOnly Go.Departure.lateStores }, { on := 9, ground := Go.Ground.textOnly Go.Departure.lateStores }, { on := 10, ground := Go.Ground.textOnly Go.Departure.lateStores }, { on := 11, ground := Go.Ground.phase }], guard := none }) rfl (fun K hK => ?_) AllReadyH.nil
          go_simp
          refine hK.out _ _ (Key.out _ (Stp.alloc H9.out _)) (fun hHeld2 => ?_)
          clear hK K hHeld
          have hHeld := hHeld2
          clear hHeld2
          try simp only [Act.put, List.setIfInBounds_toArray, List.set_cons_zero, List.set_cons_succ]
          refine wpAnyH_take (i := 13) (oi := { dst := some 18, op := Go.Op.assign (Go.Operand.tmp 75), type := 29, pos := "law.go:120", after := #[{ on := 8, ground := Go.Ground.data }, { on := 12, ground := Go.Ground.chain }, { on := 0, ground := Go.Ground.phase }, { on := 1, ground := Go.Ground.phase }, { on := 2, ground := Go.Ground.phase }, { on := 3, ground := Go.Ground.phase }, { on := 4, ground := Go.Ground.phase }, { on := 5, ground := Go.Ground.phase }, { on := 6, ground := Go.Ground.phase }, { on := 7, ground := Go.Ground.phase }, { on := 8, ground := Go.Ground.phase }, { on := 9, ground := Go.Ground.textOnly Go.Departure.lateStores }, { on := 10, ground := Go.Ground.textOnly Go.Departure.lateStores }, { on := 11, ground := Go.Ground.phase }, { on := 12, ground := Go.Ground.phase }], guard := none }) (v := ?v13e) rfl (by kernel_rfl) (by kernel_rfl) (by kernel_rfl) (fun _ _ _ h => h) (Or.inl ⟨by rfl, ?hy13e⟩) (by assumption) ?rest13e
          case hy13e => (intro w hSw; (try dsimp only at hSw); go_simp; try with_reducible rfl)
          try simp only [Act.put, List.setIfInBounds_toArray, List.set_cons_zero, List.set_cons_succ]
          refine wpAnyH_take (i := 14) (oi := { dst := some 19, op := Go.Op.assign (Go.Operand.tmp 76), type := 3, pos := "law.go:120", after := #[{ on := 9, ground := Go.Ground.data }, { on := 13, ground := Go.Ground.chain }, { on := 0, ground := Go.Ground.phase }, { on := 1, ground := Go.Ground.phase }, { on := 2, ground := Go.Ground.phase }, { on := 3, ground := Go.Ground.phase }, { on := 4, ground := Go.Ground.phase }, { on := 5, ground := Go.Ground.phase }, { on := 6, ground := Go.Ground.phase }, { on := 7, ground := Go.Ground.phase }, { on := 8, ground := Go.Ground.phase }, { on := 9, ground := Go.Ground.phase }, { on := 10, ground := Go.Ground.textOnly Go.Departure.lateStores }, { on := 11, ground := Go.Ground.phase }, { on := 12, ground := Go.Ground.phase }, { on := 13, ground := Go.Ground.phase }], guard := none }) (v := ?v14e) rfl (by kernel_rfl) (by kernel_rfl) (by kernel_rfl) (fun _ _ _ h => h) (Or.inl ⟨by rfl, ?hy14e⟩) (by assumption) ?rest14e
          case hy14e => (intro w hSw; (try dsimp only at hSw); go_simp; try with_reducible rfl)
          try simp only [Act.put, List.setIfInBounds_toArray, List.set_cons_zero, List.set_cons_succ]
          refine wpAnyH_take (i := 15) (oi := { dst := some 20, op := Go.Op.assign (Go.Operand.tmp 77), type := 30, pos := "law.go:120", after := #[{ on := 10, ground := Go.Ground.data }, { on := 14, ground := Go.Ground.chain }, { on := 0, ground := Go.Ground.phase }, { on := 1, ground := Go.Ground.phase }, { on := 2, ground := Go.Ground.phase }, { on := 3, ground := Go.Ground.phase }, { on := 4, ground := Go.Ground.phase }, { on := 5, ground := Go.Ground.phase }, { on := 6, ground := Go.Ground.phase }, { on := 7, ground := Go.Ground.phase }, { on := 8, ground := Go.Ground.phase }, { on := 9, ground := Go.Ground.phase }, { on := 10, ground := Go.Ground.phase }, { on := 11, ground := Go.Ground.phase }, { on := 12, ground := Go.Ground.phase }, { on := 13, ground := Go.Ground.phase }, { on := 14, ground := Go.Ground.phase }], guard := none }) (v := ?v15e) rfl (by kernel_rfl) (by kernel_rfl) (by kernel_rfl) (fun _ _ _ h => h) (Or.inl ⟨by rfl, ?hy15e⟩) (by assumption) ?rest15e
          case hy15e => (intro w hSw; (try dsimp only at hSw); go_simp; try with_reducible rfl)
          try simp only [Act.put, List.setIfInBounds_toArray, List.set_cons_zero, List.set_cons_succ]
          refine wpAnyH_done (by kernel_rfl) ?_ _
          change Exit.then _ _ Exit.normal _ (w9.alloc (.cells (scells v) 25))
          have hB := Blk.new w9 25 (scells v)
          have hW := Stp.alloc H9.out (.cells (scells v) 25)
          have hE := Lib.hid (He9.out.keep (Stp.alloc (Stp.refl _) (.cells (scells v) 25)))
          generalize w9.alloc (.cells (scells v) 25) = W7 at hB hW hE ⊢
          generalize w9.heap.size = gg at hB ⊢
          exact hfin v7 A8 c8 B9 d9 gg W7 ⟨hB, hW, hE⟩
        case waycca =>
          go_simp
          refine hK.out _ _ (Key.out _ (Stp.alloc H8.out _)) (fun hHeld2 => ?_)
          clear hK K hHeld
          have hHeld := hHeld2
          clear hHeld2
          try simp only [Act.put, List.setIfInBounds_toArray, List.set_cons_zero, List.set_cons_succ]
          refine wpAnyH_ready (rs := [5]) (by kernel_rfl) (by simp) ?_
          refine AllReadyH.cons (o := { dst := some 73, op := Go.Op.call { callee := Go.Callee.value (Go.Operand.func 16), args := #[Go.Operand.tmp 68, Go.Operand.tmp 72], argTypes := #[25, 35] }, type := 38, pos := "law.go:120", after := #[{ on := 0, ground := Go.Ground.data }, { on := 4, ground := Go.Ground.data }, { on := 4, ground := Go.Ground.chain }], guard := none }) rfl (fun K hK => ?_) AllReadyH.nil
          go_simp
          refine (HI.out.run s _ rfl Hs.out (a ++ b) N HN.out Hl60.out Hab.out v z k q e3 H3.out Hk.out _ _ _ (HR8.out.keep (Stp.alloc (Stp.refl _) _))).mono ?_
          rintro e w9 ⟨B9, d9, rfl, he, hs⟩
          have H9 := Lib.hid (Stp.trans (Stp.alloc H8.out _) hs)
          have He9 := Lib.hid he
          have Hz := Lib.hid (Blk.keep (Blk.new w8 25 (scells zeroS)) hs (Blk.lt (Blk.new w8 25 (scells zeroS))))
          clear hs he
          go_wp2_with fail
          refine hK.out _ _ (Key.out _ (H9.out)) (fun hHeld2 => ?_)
          clear hK K hHeld
          have hHeld := hHeld2
          clear hHeld2
          try simp only [Act.put, List.setIfInBounds_toArray, List.set_cons_zero, List.set_cons_succ]
          refine wpAnyH_take (i := 6) (oi := { dst := some 67, op := Go.Op.move (Go.Operand.tmp 73), type := 38, pos := "law.go:120", after := #[{ on := 5, ground := Go.Ground.data }], guard := none }) (v := ?v6f) rfl (by kernel_rfl) (by kernel_rfl) (by kernel_rfl) (fun _ _ _ h => h) (Or.inl ⟨by rfl, ?hy6f⟩) (by assumption) ?rest6f
          case hy6f => (intro w hSw; (try dsimp only at hSw); go_simp; try with_reducible rfl)
          try simp only [Act.put, List.setIfInBounds_toArray, List.set_cons_zero, List.set_cons_succ]
          refine wpAnyH_take (i := 7) (oi := { dst := some 74, op := Go.Op.extract (Go.Operand.tmp 67) 0, type := 25, pos := "law.go:120", after := #[{ on := 6, ground := Go.Ground.data }], guard := none }) (v := ?v7f) rfl (by kernel_rfl) (by kernel_rfl) (by kernel_rfl) (fun _ _ _ h => h) (Or.inl ⟨by rfl, ?hy7f⟩) (by assumption) ?rest7f
          case hy7f => (intro w hSw; (try dsimp only at hSw); go_simp; try with_reducible rfl)
          try simp only [Act.put, List.setIfInBounds_toArray, List.set_cons_zero, List.set_cons_succ]
          refine wpAnyH_take (i := 8) (oi := { dst := some 75, op := Go.Op.extract (Go.Operand.tmp 67) 1, type := 29, pos := "law.go:120", after := #[{ on := 6, ground := Go.Ground.data }, { on := 12, ground := Go.Ground.gcOnly Go.Departure.lateStores }], guard := none }) (v := ?v8f) rfl (by kernel_rfl) (by kernel_rfl) (by kernel_rfl) (fun _ _ _ h => h) (Or.inl ⟨by rfl, ?hy8f⟩) (by assumption) ?rest8f
          case hy8f => (intro w hSw; (try dsimp only at hSw); go_simp; try with_reducible rfl)
          try simp only [Act.put, List.setIfInBounds_toArray, List.set_cons_zero, List.set_cons_succ]
          refine wpAnyH_take (i := 9) (oi := { dst := some 76, op := Go.Op.extract (Go.Operand.tmp 67) 2, type := 3, pos := "law.go:120", after := #[{ on := 6, ground := Go.Ground.data }, { on := 13, ground := Go.Ground.gcOnly Go.Departure.lateStores }], guard := none }) (v := ?v9f) rfl (by kernel_rfl) (by kernel_rfl) (by kernel_rfl) (fun _ _ _ h => h) (Or.inl ⟨by rfl, ?hy9f⟩) (by assumption) ?rest9f
          case hy9f => (intro w hSw; (try dsimp only at hSw); go_simp; try with_reducible rfl)
          try simp only [Act.put, List.setIfInBounds_toArray, List.set_cons_zero, List.set_cons_succ]
          refine wpAnyH_take (i := 10) (oi := { dst := some 77, op := Go.Op.extract (Go.Operand.tmp 67) 3, type := 30, pos := "law.go:120", after := #[{ on := 6, ground := Go.Ground.data }, { on := 14, ground := Go.Ground.gcOnly Go.Departure.lateStores }], guard := none }) (v := ?v10f) rfl (by kernel_rfl) (by kernel_rfl) (by kernel_rfl) (fun _ _ _ h => h) (Or.inl ⟨by rfl, ?hy10f⟩) (by assumption) ?rest10f
          case hy10f => (intro w hSw; (try dsimp only at hSw); go_simp; try with_reducible rfl)
          try simp only [Act.put, List.setIfInBounds_toArray, List.set_cons_zero, List.set_cons_succ]
          obtain ⟨z0, z1, z2, z3, z4, z5, z6, z7, z8, z9, z10, z11, z12, z13⟩ := st_cells Hz.out
          obtain ⟨y0, y1, y2, y3, y4, y5, y6, y7, y8, y9, y10, y11, y12, y13⟩ := st_free Hz.out
          refine wpAnyH_ready (rs := [12]) (by kernel_rfl) (by simp) ?_
          refine AllReadyH.cons (o := { dst := none, op := Go.Op.store 25 (Go.Operand.tmp 17) (Go.Operand.tmp 74), type := 0, pos := "law.go:120", after := #[{ on := 11, ground := Go.Ground.data }, { on := 7, ground := Go.Ground.data }, { on := 5, ground := Go.Ground.chain }, { on := 0, ground := Go.Ground.phase }, { on := 1, ground := Go.Ground.phase }, { on := 2, ground := Go.Ground.phase }, { on := 3, ground := Go.Ground.phase }, { on := 4, ground := Go.Ground.phase }, { on := 5, ground := Go.Ground.phase }, { on := 6, ground := Go.Ground.phase }, { on := 7, ground := Go.Ground.phase }, { on := 8, ground := Go.Ground.textOnly Go.Departure.lateStores }, { on := 9, ground := Go.Ground.textOnly Go.Departure.lateStores }, { on := 10, ground := Go.Ground.textOnly Go.Departure.lateStores }, { on := 11, ground := Go.Ground.phase }], guard := none }) rfl (fun K hK => ?_) AllReadyH.nil
          go_simp
          refine hK.out _ _ (Key.out _ (fills_stp v H9.out (H8.out.size))) (fun hHeld2 => ?_)
          clear hK K hHeld
          have hHeld := hHeld2
          clear hHeld2
          try simp only [Act.put, List.setIfInBounds_toArray, List.set_cons_zero, List.set_cons_succ]
          clear z0 z1 z2 z3 z4 z5 z6 z7 z8 z9 z10 z11 z12 z13 y0 y1 y2 y3 y4 y5 y6 y7 y8 y9 y10 y11 y12 y13
          refine wpAnyH_take (i := 13) (oi := { dst := some 18, op := Go.Op.assign (Go.Operand.tmp 75), type := 29, pos := "law.go:120", after := #[{ on := 8, ground := Go.Ground.data }, { on := 12, ground := Go.Ground.chain }, { on := 0, ground := Go.Ground.phase }, { on := 1, ground := Go.Ground.phase }, { on := 2, ground := Go.Ground.phase }, { on := 3, ground := Go.Ground.phase }, { on := 4, ground := Go.Ground.phase }, { on := 5, ground := Go.Ground.phase }, { on := 6, ground := Go.Ground.phase }, { on := 7, ground := Go.Ground.phase }, { on := 8, ground := Go.Ground.phase }, { on := 9, ground := Go.Ground.textOnly Go.Departure.lateStores }, { on := 10, ground := Go.Ground.textOnly Go.Departure.lateStores }, { on := 11, ground := Go.Ground.phase }, { on := 12, ground := Go.Ground.phase }], guard := none }) (v := ?v13f) rfl (by kernel_rfl) (by kernel_rfl) (by kernel_rfl) (fun _ _ _ h => h) (Or.inl ⟨by rfl, ?hy13f⟩) (by assumption) ?rest13f
          case hy13f => (intro w hSw; (try dsimp only at hSw); go_simp; try with_reducible rfl)
          try simp only [Act.put, List.setIfInBounds_toArray, List.set_cons_zero, List.set_cons_succ]
          refine wpAnyH_take (i := 14) (oi := { dst := some 19, op := Go.Op.assign (Go.Operand.tmp 76), type := 3, pos := "law.go:120", after := #[{ on := 9, ground := Go.Ground.data }, { on := 13, ground := Go.Ground.chain }, { on := 0, ground := Go.Ground.phase }, { on := 1, ground := Go.Ground.phase }, { on := 2, ground := Go.Ground.phase }, { on := 3, ground := Go.Ground.phase }, { on := 4, ground := Go.Ground.phase }, { on := 5, ground := Go.Ground.phase }, { on := 6, ground := Go.Ground.phase }, { on := 7, ground := Go.Ground.phase }, { on := 8, ground := Go.Ground.phase }, { on := 9, ground := Go.Ground.phase }, { on := 10, ground := Go.Ground.textOnly Go.Departure.lateStores }, { on := 11, ground := Go.Ground.phase }, { on := 12, ground := Go.Ground.phase }, { on := 13, ground := Go.Ground.phase }], guard := none }) (v := ?v14f) rfl (by kernel_rfl) (by kernel_rfl) (by kernel_rfl) (fun _ _ _ h => h) (Or.inl ⟨by rfl, ?hy14f⟩) (by assumption) ?rest14f
          case hy14f => (intro w hSw; (try dsimp only at hSw); go_simp; try with_reducible rfl)
          try simp only [Act.put, List.setIfInBounds_toArray, List.set_cons_zero, List.set_cons_succ]
          refine wpAnyH_take (i := 15) (oi := { dst := some 20, op := Go.Op.assign (Go.Operand.tmp 77), type := 30, pos := "law.go:120", after := #[{ on := 10, ground := Go.Ground.data }, { on := 14, ground := Go.Ground.chain }, { on := 0, ground := Go.Ground.phase }, { on := 1, ground := Go.Ground.phase }, { on := 2, ground := Go.Ground.phase }, { on := 3, ground := Go.Ground.phase }, { on := 4, ground := Go.Ground.phase }, { on := 5, ground := Go.Ground.phase }, { on := 6, ground := Go.Ground.phase }, { on := 7, ground := Go.Ground.phase }, { on := 8, ground := Go.Ground.phase }, { on := 9, ground := Go.Ground.phase }, { on := 10, ground := Go.Ground.phase }, { on := 11, ground := Go.Ground.phase }, { on := 12, ground := Go.Ground.phase }, { on := 13, ground := Go.Ground.phase }, { on := 14, ground := Go.Ground.phase }], guard := none }) (v := ?v15f) rfl (by kernel_rfl) (by kernel_rfl) (by kernel_rfl) (fun _ _ _ h => h) (Or.inl ⟨by rfl, ?hy15f⟩) (by assumption) ?rest15f
          case hy15f => (intro w hSw; (try dsimp only at hSw); go_simp; try with_reducible rfl)
          try simp only [Act.put, List.setIfInBounds_toArray, List.set_cons_zero, List.set_cons_succ]
          refine wpAnyH_done (by kernel_rfl) ?_ _
          change Exit.then _ _ Exit.normal _ (fillS w9 w8.heap.size v)
          have hB := fills_blk v Hz.out
          have hW := fills_stp (g := w8.heap.size) v H9.out (H8.out.size)
          have hE := Lib.hid (rde_fills v He9.out Hz.out)
          generalize fillS w9 w8.heap.size v = W7 at hB hW hE ⊢
          generalize w8.heap.size = gg at hB ⊢
          exact hfin v7 A8 c8 B9 d9 gg W7 ⟨hB, hW, hE⟩
      case wayca =>
        go_simp
        refine hK.out _ _ (Key.out _ (Stp.alloc H7.out _)) (fun hHeld2 => ?_)
        clear hK K hHeld
        have hHeld := hHeld2
        clear hHeld2
        try simp only [Act.put, List.setIfInBounds_toArray, List.set_cons_zero, List.set_cons_succ]
        refine wpAnyH_ready (rs := [4]) (by kernel_rfl) (by simp) ?_
        refine AllReadyH.cons (o := { dst := some 72, op := Go.Op.call { callee := Go.Callee.builtin Go.Builtin.append, args := #[Go.Operand.tmp 70, Go.Operand.tmp 71], argTypes := #[35, 35] }, type := 35, pos := "law.go:120", after := #[{ on := 2, ground := Go.Ground.data }, { on := 3, ground := Go.Ground.data }, { on := 2, ground := Go.Ground.chain }], guard := none }) rfl (fun K hK => ?_) AllReadyH.nil
        refine step_app_rows2 _ rfl _ _ 35 rfl _ 26 Try.underlying35 (by kernel_rfl) _ a rfl (HR7.out.keep (Stp.alloc (Stp.refl _) _)) rfl (Rb.out.keep (Stp.alloc H7.out _)) HnB.out (by have := Hl30.out; omega) (Nat.le_trans HP.out.size (Below.size (Stp.alloc (Stp.refl w7) _))) ?_
        intro v8 w8 hv8 hg8
        have H8 := Lib.hid (Base.Rows.stp (HR7.out.keep (Stp.alloc (Stp.refl _) _)) (Stp.alloc H7.out _) (Nat.le_refl _) hg8)
        have Hz8 := Lib.hid (Blk.grown (Blk.new w7 25 (scells zeroS)) hg8 (rows_far HR7.out))
        obtain ⟨A8, c8, he8, hr8⟩ := Base.Rows.rdL hv8
        rw [HN.out] at he8
        subst he8
        have HR8 := Lib.hid hr8
        clear hv8 hg8 hr8
        refine hK.out _ _ (Key.out _ (H8.out)) (fun hHeld2 => ?_)
        clear hK K hHeld
        have hHeld := hHeld2
        clear hHeld2
        try simp only [Act.put, List.setIfInBounds_toArray, List.set_cons_zero, List.set_cons_succ]
        refine wpAnyH_ready (rs := [5]) (by kernel_rfl) (by simp) ?_
        refine AllReadyH.cons (o := { dst := some 73, op := Go.Op.call { callee := Go.Callee.value (Go.Operand.func 16), args := #[Go.Operand.tmp 68, Go.Operand.tmp 72], argTypes := #[25, 35] }, type := 38, pos := "law.go:120", after := #[{ on := 0, ground := Go.Ground.data }, { on := 4, ground := Go.Ground.data }, { on := 4, ground := Go.Ground.chain }], guard := none }) rfl (fun K hK => ?_) AllReadyH.nil
        go_simp
        refine (HI.out.run s _ rfl Hs.out (a ++ b) N HN.out Hl60.out Hab.out v z k q e3 H3.out Hk.out _ _ _ (HR8.out.keep (Stp.refl _))).mono ?_
        rintro e w9 ⟨B9, d9, rfl, he, hs⟩
        have H9 := Lib.hid (Stp.trans (H8.out) hs)
        have He9 := Lib.hid he
        have Hz := Lib.hid (Blk.keep Hz8.out hs (Blk.lt Hz8.out))
        clear hs he
        go_wp2_with fail
        refine hK.out _ _ (Key.out _ (H9.out)) (fun hHeld2 => ?_)
        clear hK K hHeld
        have hHeld := hHeld2
        clear hHeld2
        try simp only [Act.put, List.setIfInBounds_toArray, List.set_cons_zero, List.set_cons_succ]
        refine wpAnyH_take (i := 6) (oi := { dst := some 67, op := Go.Op.move (Go.Operand.tmp 73), type := 38, pos := "law.go:120", after := #[{ on := 5, ground := Go.Ground.data }], guard := none }) (v := ?v6g) rfl (by kernel_rfl) (by kernel_rfl) (by kernel_rfl) (fun _ _ _ h => h) (Or.inl ⟨by rfl, ?hy6g⟩) (by assumption) ?rest6g
        case hy6g => (intro w hSw; (try dsimp only at hSw); go_simp; try with_reducible rfl)
        try simp only [Act.put, List.setIfInBounds_toArray, List.set_cons_zero, List.set_cons_succ]
        refine wpAnyH_take (i := 7) (oi := { dst := some 74, op := Go.Op.extract (Go.Operand.tmp 67) 0, type := 25, pos := "law.go:120", after := #[{ on := 6, ground := Go.Ground.data }], guard := none }) (v := ?v7g) rfl (by kernel_rfl) (by kernel_rfl) (by kernel_rfl) (fun _ _ _ h => h) (Or.inl ⟨by rfl, ?hy7g⟩) (by assumption) ?rest7g
        case hy7g => (intro w hSw; (try dsimp only at hSw); go_simp; try with_reducible rfl)
        try simp only [Act.put, List.setIfInBounds_toArray, List.set_cons_zero, List.set_cons_succ]
        refine wpAnyH_take (i := 8) (oi := { dst := some 75, op := Go.Op.extract (Go.Operand.tmp 67) 1, type := 29, pos := "law.go:120", after := #[{ on := 6, ground := Go.Ground.data }, { on := 12, ground := Go.Ground.gcOnly Go.Departure.lateStores }], guard := none }) (v := ?v8g) rfl (by kernel_rfl) (by kernel_rfl) (by kernel_rfl) (fun _ _ _ h => h) (Or.inl ⟨by rfl, ?hy8g⟩) (by assumption) ?rest8g
        case hy8g => (intro w hSw; (try dsimp only at hSw); go_simp; try with_reducible rfl)
        try simp only [Act.put, List.setIfInBounds_toArray, List.set_cons_zero, List.set_cons_succ]
        refine wpAnyH_take (i := 9) (oi := { dst := some 76, op := Go.Op.extract (Go.Operand.tmp 67) 2, type := 3, pos := "law.go:120", after := #[{ on := 6, ground := Go.Ground.data }, { on := 13, ground := Go.Ground.gcOnly Go.Departure.lateStores }], guard := none }) (v := ?v9g) rfl (by kernel_rfl) (by kernel_rfl) (by kernel_rfl) (fun _ _ _ h => h) (Or.inl ⟨by rfl, ?hy9g⟩) (by assumption) ?rest9g
        case hy9g => (intro w hSw; (try dsimp only at hSw); go_simp; try with_reducible rfl)
        try simp only [Act.put, List.setIfInBounds_toArray, List.set_cons_zero, List.set_cons_succ]
        refine wpAnyH_take (i := 10) (oi := { dst := some 77, op := Go.Op.extract (Go.Operand.tmp 67) 3, type := 30, pos := "law.go:120", after := #[{ on := 6, ground := Go.Ground.data }, { on := 14, ground := Go.Ground.gcOnly Go.Departure.lateStores }], guard := none }) (v := ?v10g) rfl (by kernel_rfl) (by kernel_rfl) (by kernel_rfl) (fun _ _ _ h => h) (Or.inl ⟨by rfl, ?hy10g⟩) (by assumption) ?rest10g
        case hy10g => (intro w hSw; (try dsimp only at hSw); go_simp; try with_reducible rfl)
        try simp only [Act.put, List.setIfInBounds_toArray, List.set_cons_zero, List.set_cons_succ]
        obtain ⟨z0, z1, z2, z3, z4, z5, z6, z7, z8, z9, z10, z11, z12, z13⟩ := st_cells Hz.out
        obtain ⟨y0, y1, y2, y3, y4, y5, y6, y7, y8, y9, y10, y11, y12, y13⟩ := st_free Hz.out
        refine wpAnyH_ready (rs := [12]) (by kernel_rfl) (by simp) ?_
        refine AllReadyH.cons (o := { dst := none, op := Go.Op.store 25 (Go.Operand.tmp 17) (Go.Operand.tmp 74), type := 0, pos := "law.go:120", after := #[{ on := 11, ground := Go.Ground.data }, { on := 7, ground := Go.Ground.data }, { on := 5, ground := Go.Ground.chain }, { on := 0, ground := Go.Ground.phase }, { on := 1, ground := Go.Ground.phase }, { on := 2, ground := Go.Ground.phase }, { on := 3, ground := Go.Ground.phase }, { on := 4, ground := Go.Ground.phase }, { on := 5, ground := Go.Ground.phase }, { on := 6, ground := Go.Ground.phase }, { on := 7, ground := Go.Ground.phase }, { on := 8, ground := Go.Ground.textOnly Go.Departure.lateStores }, { on := 9, ground := Go.Ground.textOnly Go.Departure.lateStores }, { on := 10, ground := Go.Ground.textOnly Go.Departure.lateStores }, { on := 11, ground := Go.Ground.phase }], guard := none }) rfl (fun K hK => ?_) AllReadyH.nil
        go_simp
        refine hK.out _ _ (Key.out _ (fills_stp v H9.out (H7.out.size))) (fun hHeld2 => ?_)
        clear hK K hHeld
        have hHeld := hHeld2
        clear hHeld2
        try simp only [Act.put, List.setIfInBounds_toArray, List.set_cons_zero, List.set_cons_succ]
        clear z0 z1 z2 z3 z4 z5 z6 z7 z8 z9 z10 z11 z12 z13 y0 y1 y2 y3 y4 y5 y6 y7 y8 y9 y10 y11 y12 y13
        refine wpAnyH_take (i := 13) (oi := { dst := some 18, op := Go.Op.assign (Go.Operand.tmp 75), type := 29, pos := "law.go:120", after := #[{ on := 8, ground := Go.Ground.data }, { on := 12, ground := Go.Ground.chain }, { on := 0, ground := Go.Ground.phase }, { on := 1, ground := Go.Ground.phase }, { on := 2, ground := Go.Ground.phase }, { on := 3, ground := Go.Ground.phase }, { on := 4, ground := Go.Ground.phase }, { on := 5, ground := Go.Ground.phase }, { on := 6, ground := Go.Ground.phase }, { on := 7, ground := Go.Ground.phase }, { on := 8, ground := Go.Ground.phase }, { on := 9, ground := Go.Ground.textOnly Go.Departure.lateStores }, { on := 10, ground := Go.Ground.textOnly Go.Departure.lateStores }, { on := 11, ground := Go.Ground.phase }, { on := 12, ground := Go.Ground.phase }], guard := none }) (v := ?v13g) rfl (by kernel_rfl) (by kernel_rfl) (by kernel_rfl) (fun _ _ _ h => h) (Or.inl ⟨by rfl, ?hy13g⟩) (by assumption) ?rest13g
        case hy13g => (intro w hSw; (try dsimp only at hSw); go_simp; try with_reducible rfl)
        try simp only [Act.put, List.setIfInBounds_toArray, List.set_cons_zero, List.set_cons_succ]
        refine wpAnyH_take (i := 14) (oi := { dst := some 19, op := Go.Op.assign (Go.Operand.tmp 76), type := 3, pos := "law.go:120", after := #[{ on := 9, ground := Go.Ground.data }, { on := 13, ground := Go.Ground.chain }, { on := 0, ground := Go.Ground.phase }, { on := 1, ground := Go.Ground.phase }, { on := 2, ground := Go.Ground.phase }, { on := 3, ground := Go.Ground.phase }, { on := 4, ground := Go.Ground.phase }, { on := 5, ground := Go.Ground.phase }, { on := 6, ground := Go.Ground.phase }, { on := 7, ground := Go.Ground.phase }, { on := 8, ground := Go.Ground.phase }, { on := 9, ground := Go.Ground.phase }, { on := 10, ground := Go.Ground.textOnly Go.Departure.lateStores }, { on := 11, ground := Go.Ground.phase }, { on := 12, ground := Go.Ground.phase }, { on := 13, ground := Go.Ground.phase }], guard := none }) (v := ?v14g) rfl (by kernel_rfl) (by kernel_rfl) (by kernel_rfl) (fun _ _ _ h => h) (Or.inl ⟨by rfl, ?hy14g⟩) (by assumption) ?rest14g
        case hy14g => (intro w hSw; (try dsimp only at hSw); go_simp; try with_reducible rfl)
        try simp only [Act.put, List.setIfInBounds_toArray, List.set_cons_zero, List.set_cons_succ]
        refine wpAnyH_take (i := 15) (oi := { dst := some 20, op := Go.Op.assign (Go.Operand.tmp 77), type := 30, pos := "law.go:120", after := #[{ on := 10, ground := Go.Ground.data }, { on := 14, ground := Go.Ground.chain }, { on := 0, ground := Go.Ground.phase }, { on := 1, ground := Go.Ground.phase }, { on := 2, ground := Go.Ground.phase }, { on := 3, ground := Go.Ground.phase }, { on := 4, ground := Go.Ground.phase }, { on := 5, ground := Go.Ground.phase }, { on := 6, ground := Go.Ground.phase }, { on := 7, ground := Go.Ground.phase }, { on := 8, ground := Go.Ground.phase }, { on := 9, ground := Go.Ground.phase }, { on := 10, ground := Go.Ground.phase }, { on := 11, ground := Go.Ground.phase }, { on := 12, ground := Go.Ground.phase }, { on := 13, ground := Go.Ground.phase }, { on := 14, ground := Go.Ground.phase }], guard := none }) (v := ?v15g) rfl (by kernel_rfl) (by kernel_rfl) (by kernel_rfl) (fun _ _ _ h => h) (Or.inl ⟨by rfl, ?hy15g⟩) (by assumption) ?rest15g
        case hy15g => (intro w hSw; (try dsimp only at hSw); go_simp; try with_reducible rfl)
        try simp only [Act.put, List.setIfInBounds_toArray, List.set_cons_zero, List.set_cons_succ]
        refine wpAnyH_done (by kernel_rfl) ?_ _
        change Exit.then _ _ Exit.normal _ (fillS w9 w7.heap.size v)
        have hB := fills_blk v Hz.out
        have hW := fills_stp (g := w7.heap.size) v H9.out (H7.out.size)
        have hE := Lib.hid (rde_fills v He9.out Hz.out)
        generalize fillS w9 w7.heap.size v = W7 at hB hW hE ⊢
        generalize w7.heap.size = gg at hB ⊢
        exact hfin v7 A8 c8 B9 d9 gg W7 ⟨hB, hW, hE⟩
    case waya =>
      go_simp
      refine hK.out _ _ (Key.out _ (stp_ad (Head.stp_drew (Stp.refl wx)))) (fun hHeld2 => ?_)
      clear hK K hHeld
      have hHeld := hHeld2
      clear hHeld2
      try simp only [Act.put, List.setIfInBounds_toArray, List.set_cons_zero, List.set_cons_succ]
      refine wpAnyH_ready (rs := [2]) (by kernel_rfl) (by simp) ?_
      refine AllReadyH.cons (o := { dst := some 70, op := Go.Op.call { callee := Go.Callee.builtin Go.Builtin.append, args := #[Go.Operand.const (Go.Value.slice none 0 0), Go.Operand.tmp 69], argTypes := #[35, 35] }, type := 35, pos := "law.go:120", after := #[{ on := 1, ground := Go.Ground.data }], guard := none }) rfl (fun K hK => ?_) AllReadyH.nil
      refine step_app_rows2 _ rfl _ _ 35 rfl _ 26 Try.underlying35 (by kernel_rfl) _ [] rfl (Base.Rows.nil _ _ _) rfl (Ra.out.keep (stp_ad (Head.stp_drew (Stp.refl wx)))) HnA.out (by have := Hl30.out; simp only [List.length_nil]; omega) (Nat.le_refl _) ?_
      intro v7 w7 hv7 hg7
      have HP := Lib.hid (Base.Rows.stp (Base.Rows.nil _ _ 26) (Stp.refl _) (Nat.le_refl _) hg7)
      have H7 := Lib.hid (Stp.trans (stp_ad (Head.stp_drew (Stp.refl wx))) HP.out)
      have HR7 := Lib.hid (show Base.Rows w7 _ 26 v7 a from hv7)
      clear hv7 hg7
      refine hK.out _ _ (Key.out _ (H7.out)) (fun hHeld2 => ?_)
      clear hK K hHeld
      have hHeld := hHeld2
      clear hHeld2
      try simp only [Act.put, List.setIfInBounds_toArray, List.set_cons_zero, List.set_cons_succ]
      refine wpAnyH_ready (rs := [4]) (by kernel_rfl) (by simp) ?_
      refine AllReadyH.cons (o := { dst := some 72, op := Go.Op.call { callee := Go.Callee.builtin Go.Builtin.append, args := #[Go.Operand.tmp 70, Go.Operand.tmp 71], argTypes := #[35, 35] }, type := 35, pos := "law.go:120", after := #[{ on := 2, ground := Go.Ground.data }, { on := 3, ground := Go.Ground.data }, { on := 2, ground := Go.Ground.chain }], guard := none }) rfl (fun K hK => ?_) AllReadyH.nil
      refine step_app_rows2 _ rfl _ _ 35 rfl _ 26 Try.underlying35 (by kernel_rfl) _ a rfl (HR7.out.keep (Stp.refl _)) rfl (Rb.out.keep (H7.out)) HnB.out (by have := Hl30.out; omega) (HP.out.size) ?_
      intro v8 w8 hv8 hg8
      have H8' := Lib.hid (Base.Rows.stp (HR7.out.keep (Stp.refl _)) HP.out (Nat.le_refl _) hg8)
      have H8 := Lib.hid (Stp.trans (stp_ad (Head.stp_drew (Stp.refl wx))) H8'.out)
      obtain ⟨A8, c8, he8, hr8⟩ := Base.Rows.rdL hv8
      rw [HN.out] at he8
      subst he8
      have HR8 := Lib.hid hr8
      clear hv8 hg8 hr8
      refine hK.out _ _ (Key.out _ (H8.out)) (fun hHeld2 => ?_)
      clear hK K hHeld
      have hHeld := hHeld2
      clear hHeld2
      try simp only [Act.put, List.setIfInBounds_toArray, List.set_cons_zero, List.set_cons_succ]
      refine wpAnyH_ready (rs := [5]) (by kernel_rfl) (by simp) ?_
      refine AllReadyH.cons (o := { dst := some 73, op := Go.Op.call { callee := Go.Callee.value (Go.Operand.func 16), args := #[Go.Operand.tmp 68, Go.Operand.tmp 72], argTypes := #[25, 35] }, type := 38, pos := "law.go:120", after := #[{ on := 0, ground := Go.Ground.data }, { on := 4, ground := Go.Ground.data }, { on := 4, ground := Go.Ground.chain }], guard := none }) rfl (fun K hK => ?_) AllReadyH.nil
      go_simp
      refine (HI.out.run s _ rfl Hs.out (a ++ b) N HN.out Hl60.out Hab.out v z k q e3 H3.out Hk.out _ _ _ (HR8.out.keep (Stp.refl _))).mono ?_
      rintro e w9 ⟨B9, d9, rfl, he, hs⟩
      have H9 := Lib.hid (Stp.trans (H8.out) hs)
      have He9 := Lib.hid he
      have Hz := Lib.hid (blk_ad wx 25 (scells zeroS) (Stp.trans H8'.out hs))
      clear hs he
      go_wp2_with fail
      refine hK.out _ _ (Key.out _ (H9.out)) (fun hHeld2 => ?_)
      clear hK K hHeld
      have hHeld := hHeld2
      clear hHeld2
      try simp only [Act.put, List.setIfInBounds_toArray, List.set_cons_zero, List.set_cons_succ]
      refine wpAnyH_take (i := 6) (oi := { dst := some 67, op := Go.Op.move (Go.Operand.tmp 73), type := 38, pos := "law.go:120", after := #[{ on := 5, ground := Go.Ground.data }], guard := none }) (v := ?v6h) rfl (by kernel_rfl) (by kernel_rfl) (by kernel_rfl) (fun _ _ _ h => h) (Or.inl ⟨by rfl, ?hy6h⟩) (by assumption) ?rest6h
      case hy6h => (intro w hSw; (try dsimp only at hSw); go_simp; try with_reducible rfl)
      try simp only [Act.put, List.setIfInBounds_toArray, List.set_cons_zero, List.set_cons_succ]
      refine wpAnyH_take (i := 7) (oi := { dst := some 74, op := Go.Op.extract (Go.Operand.tmp 67) 0, type := 25, pos := "law.go:120", after := #[{ on := 6, ground := Go.Ground.data }], guard := none }) (v := ?v7h) rfl (by kernel_rfl) (by kernel_rfl) (by kernel_rfl) (fun _ _ _ h => h) (Or.inl ⟨by rfl, ?hy7h⟩) (by assumption) ?rest7h
      case hy7h => (intro w hSw; (try dsimp only at hSw); go_simp; try with_reducible rfl)
      try simp only [Act.put, List.setIfInBounds_toArray, List.set_cons_zero, List.set_cons_succ]
      refine wpAnyH_take (i := 8) (oi := { dst := some 75, op := Go.Op.extract (Go.Operand.tmp 67) 1, type := 29, pos := "law.go:120", after := #[{ on := 6, ground := Go.Ground.data }, { on := 12, ground := Go.Ground.gcOnly Go.Departure.lateStores }], guard := none }) (v := ?v8h) rfl (by kernel_rfl) (by kernel_rfl) (by kernel_rfl) (fun _ _ _ h => h) (Or.inl ⟨by rfl, ?hy8h⟩) (by assumption) ?rest8h
      case hy8h => (intro w hSw; (try dsimp only at hSw); go_simp; try with_reducible rfl)
      try simp only [Act.put, List.setIfInBounds_toArray, List.set_cons_zero, List.set_cons_succ]
      refine wpAnyH_take (i := 9) (oi := { dst := some 76, op := Go.Op.extract (Go.Operand.tmp 67) 2, type := 3, pos := "law.go:120", after := #[{ on := 6, ground := Go.Ground.data }, { on := 13, ground := Go.Ground.gcOnly Go.Departure.lateStores }], guard := none }) (v := ?v9h) rfl (by kernel_rfl) (by kernel_rfl) (by kernel_rfl) (fun _ _ _ h => h) (Or.inl ⟨by rfl, ?hy9h⟩) (by assumption) ?rest9h
      case hy9h => (intro w hSw; (try dsimp only at hSw); go_simp; try with_reducible rfl)
      try simp only [Act.put, List.setIfInBounds_toArray, List.set_cons_zero, List.set_cons_succ]
      refine wpAnyH_take (i := 10) (oi := { dst := some 77, op := Go.Op.extract (Go.Operand.tmp 67) 3, type := 30, pos := "law.go:120", after := #[{ on := 6, ground := Go.Ground.data }, { on := 14, ground := Go.Ground.gcOnly Go.Departure.lateStores }], guard := none }) (v := ?v10h) rfl (by kernel_rfl) (by kernel_rfl) (by kernel_rfl) (fun _ _ _ h => h) (Or.inl ⟨by rfl, ?hy10h⟩) (by assumption) ?rest10h
      case hy10h => (intro w hSw; (try dsimp only at hSw); go_simp; try with_reducible rfl)
      try simp only [Act.put, List.setIfInBounds_toArray, List.set_cons_zero, List.set_cons_succ]
      obtain ⟨z0, z1, z2, z3, z4, z5, z6, z7, z8, z9, z10, z11, z12, z13⟩ := st_cells Hz.out
      obtain ⟨y0, y1, y2, y3, y4, y5, y6, y7, y8, y9, y10, y11, y12, y13⟩ := st_free Hz.out
      refine wpAnyH_ready (rs := [12]) (by kernel_rfl) (by simp) ?_
      refine AllReadyH.cons (o := { dst := none, op := Go.Op.store 25 (Go.Operand.tmp 17) (Go.Operand.tmp 74), type := 0, pos := "law.go:120", after := #[{ on := 11, ground := Go.Ground.data }, { on := 7, ground := Go.Ground.data }, { on := 5, ground := Go.Ground.chain }, { on := 0, ground := Go.Ground.phase }, { on := 1, ground := Go.Ground.phase }, { on := 2, ground := Go.Ground.phase }, { on := 3, ground := Go.Ground.phase }, { on := 4, ground := Go.Ground.phase }, { on := 5, ground := Go.Ground.phase }, { on := 6, ground := Go.Ground.phase }, { on := 7, ground := Go.Ground.phase }, { on := 8, ground := Go.Ground.textOnly Go.Departure.lateStores }, { on := 9, ground := Go.Ground.textOnly Go.Departure.lateStores }, { on := 10, ground := Go.Ground.textOnly Go.Departure.lateStores }, { on := 11, ground := Go.Ground.phase }], guard := none }) rfl (fun K hK => ?_) AllReadyH.nil
      go_simp
      refine hK.out _ _ (Key.out _ (fills_stp v H9.out (Nat.le_refl _))) (fun hHeld2 => ?_)
      clear hK K hHeld
      have hHeld := hHeld2
      clear hHeld2
      try simp only [Act.put, List.setIfInBounds_toArray, List.set_cons_zero, List.set_cons_succ]
      clear z0 z1 z2 z3 z4 z5 z6 z7 z8 z9 z10 z11 z12 z13 y0 y1 y2 y3 y4 y5 y6 y7 y8 y9 y10 y11 y12 y13
      refine wpAnyH_take (i := 13) (oi := { dst := some 18, op := Go.Op.assign (Go.Operand.tmp 75), type := 29, pos := "law.go:120", after := #[{ on := 8, ground := Go.Ground.data }, { on := 12, ground := Go.Ground.chain }, { on := 0, ground := Go.Ground.phase }, { on := 1, ground := Go.Ground.phase }, { on := 2, ground := Go.Ground.phase }, { on := 3, ground := Go.Ground.phase }, { on := 4, ground := Go.Ground.phase }, { on := 5, ground := Go.Ground.phase }, { on := 6, ground := Go.Ground.phase }, { on := 7, ground := Go.Ground.phase }, { on := 8, ground := Go.Ground.phase }, { on := 9, ground := Go.Ground.textOnly Go.Departure.lateStores }, { on := 10, ground := Go.Ground.textOnly Go.Departure.lateStores }, { on := 11, ground := Go.Ground.phase }, { on := 12, ground := Go.Ground.phase }], guard := none }) (v := ?v13h) rfl (by kernel_rfl) (by kernel_rfl) (by kernel_rfl) (fun _ _ _ h => h) (Or.inl ⟨by rfl, ?hy13h⟩) (by assumption) ?rest13h
      case hy13h => (intro w hSw; (try dsimp only at hSw); go_simp; try with_reducible rfl)
      try simp only [Act.put, List.setIfInBounds_toArray, List.set_cons_zero, List.set_cons_succ]
      refine wpAnyH_take (i := 14) (oi := { dst := some 19, op := Go.Op.assign (Go.Operand.tmp 76), type := 3, pos := "law.go:120", after := #[{ on := 9, ground := Go.Ground.data }, { on := 13, ground := Go.Ground.chain }, { on := 0, ground := Go.Ground.phase }, { on := 1, ground := Go.Ground.phase }, { on := 2, ground := Go.Ground.phase }, { on := 3, ground := Go.Ground.phase }, { on := 4, ground := Go.Ground.phase }, { on := 5, ground := Go.Ground.phase }, { on := 6, ground := Go.Ground.phase }, { on := 7, ground := Go.Ground.phase }, { on := 8, ground := Go.Ground.phase }, { on := 9, ground := Go.Ground.phase }, { on := 10, ground := Go.Ground.textOnly Go.Departure.lateStores }, { on := 11, ground := Go.Ground.phase }, { on := 12, ground := Go.Ground.phase }, { on := 13, ground := Go.Ground.phase }], guard := none }) (v := ?v14h) rfl (by kernel_rfl) (by kernel_rfl) (by kernel_rfl) (fun _ _ _ h => h) (Or.inl ⟨by rfl, ?hy14h⟩) (by assumption) ?rest14h
      case hy14h => (intro w hSw; (try dsimp only at hSw); go_simp; try with_reducible rfl)
      try simp only [Act.put, List.setIfInBounds_toArray, List.set_cons_zero, List.set_cons_succ]
      refine wpAnyH_take (i := 15) (oi := { dst := some 20, op := Go.Op.assign (Go.Operand.tmp 77), type := 30, pos := "law.go:120", after := #[{ on := 10, ground := Go.Ground.data }, { on := 14, ground := Go.Ground.chain }, { on := 0, ground := Go.Ground.phase }, { on := 1, ground := Go.Ground.phase }, { on := 2, ground := Go.Ground.phase }, { on := 3, ground := Go.Ground.phase }, { on := 4, ground := Go.Ground.phase }, { on := 5, ground := Go.Ground.phase }, { on := 6, ground := Go.Ground.phase }, { on := 7, ground := Go.Ground.phase }, { on := 8, ground := Go.Ground.phase }, { on := 9, ground := Go.Ground.phase }, { on := 10, ground := Go.Ground.phase }, { on := 11, ground := Go.Ground.phase }, { on := 12, ground := Go.Ground.phase }, { on := 13, ground := Go.Ground.phase }, { on := 14, ground := Go.Ground.phase }], guard := none }) (v := ?v15h) rfl (by kernel_rfl) (by kernel_rfl) (by kernel_rfl) (fun _ _ _ h => h) (Or.inl ⟨by rfl, ?hy15h⟩) (by assumption) ?rest15h
      case hy15h => (intro w hSw; (try dsimp only at hSw); go_simp; try with_reducible rfl)
      try simp only [Act.put, List.setIfInBounds_toArray, List.set_cons_zero, List.set_cons_succ]
      refine wpAnyH_done (by kernel_rfl) ?_ _
      change Exit.then _ _ Exit.normal _ (fillS w9 wx.heap.size v)
      have hB := fills_blk v Hz.out
      have hW := fills_stp (g := wx.heap.size) v H9.out (Nat.le_refl _)
      have hE := Lib.hid (rde_fills v He9.out Hz.out)
      generalize fillS w9 wx.heap.size v = W7 at hB hW hE ⊢
      generalize wx.heap.size = gg at hB ⊢
      exact hfin v7 A8 c8 B9 d9 gg W7 ⟨hB, hW, hE⟩
  case fin =>
    intro v7 A8 c8 B9 d9 gg W7 ⟨hB, hW, hE⟩
    replace He1 := Lib.hid (He1.out.keep hW)
    obtain ⟨u0, u1, u2, u3, u4, u5, u6, u7, u8, u9, u10, u11, u12, u13⟩ := st_cells hB
    obtain ⟨v0, v1, v2, v3, v4, v5, v6, v7, v8, v9, v10, v11, v12, v13⟩ := st_cells (HbT.out.keep hW HbT.out.lt)
    obtain ⟨rfl, rfl, rfl, rfl⟩ := Heq3.out
    have heq : ∀ w, (Op.equalIn 10000 25 (sv v) (sv v)).run Try.prog w = .ok true w := fun w => by rw [eq_states]; simp
    have hng := eq_states_free
    rcases Hst.out with o1 | ⟨o1, o2, o3⟩
    all_goals
      go_wp2_with (go_at_call 21; (with_reducible refine (HI.out.same z z k i Hk.out Hi.out (by have := Hli.out; omega) (by have := Hli.out; omega) _ _ _ _ _ hE.out He1.out).mono ?_); rintro e w10 ⟨rfl, hs⟩; rw [decide_eq_true rfl]; replace hW := Stp.trans hW hs; clear hs)
      go_ret
      exact ⟨rfl, Stp.trans H0.out hW⟩
end Go.Proofs.Ytejgnhicgeiceaa.Parse
