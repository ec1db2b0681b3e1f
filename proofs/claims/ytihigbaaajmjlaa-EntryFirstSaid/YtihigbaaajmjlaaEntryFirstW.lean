/-
  The walk of EntryFirst: no statement is proved here.
-/
import Derived.Test.YtihigbaaajmjlaaEntryI
import Derived.Test.YtihigbaaajmjlaaHeadGet
namespace Go.Proofs.Ytihigbaaajmjlaa.Entry
open Go.RowKit Go.Proofs.Ytihigbaaajmjlaa.Str Go.Proofs.Ytihigbaaajmjlaa.Base Go.Proofs.Ytihigbaaajmjlaa.Node Go.Proofs.Ytihigbaaajmjlaa.Head Go.Proofs.Ytihigbaaajmjlaa.Long
open Go.Proofs.Ytihigbaaajmjlaa.Tree (oneB)

set_option maxRecDepth 100000 in
set_option maxHeartbeats 2000000 in
theorem first_no (I : EntryI) (n : Nd) (hn : SmallN n) (w : World) (hno : fewN n = false ∨ oneB n = false) :
    Calls Try.prog 7 #[nv n] w fun e w' => e = .returned (.bool true) ∧ Stp w w' := by
  have h0 := Stp.alloc (Stp.refl w) (.cells (ncells n) 23)
  have Hb := Lib.hid (Blk.new w 23 (ncells n))
  obtain ⟨q0, q1, q2, q3, q4, q5, q6, q7⟩ := nd_cells Hb.out
  have HI := Lib.hid I
  have Hn := Lib.hid hn
  clear hn I
  obtain ⟨F, hF⟩ : ∃ x, fewN n = x := ⟨_, rfl⟩
  obtain ⟨O, hO⟩ : ∃ x, oneB n = x := ⟨_, rfl⟩
  rw [hF, hO] at hno
  have HF := Lib.hid hF
  have HO := Lib.hid hO
  clear hF hO
  cases F
  · clear hno
    go_enter Try.func7, Try.ntmps7
    go_wp2_with (first
    | (go_at_call 9; (with_reducible refine (awake_s HI.out _).mono ?_); rintro e w9 ⟨rfl, hs⟩; replace Hb := Lib.hid (Hb.out.keep hs Hb.out.lt); replace h0 := Stp.trans h0 hs; clear hs q0 q1 q2 q3 q4 q5 q6 q7; obtain ⟨q0, q1, q2, q3, q4, q5, q6, q7⟩ := nd_cells Hb.out)
    | (go_at_call 10; (with_reducible refine (few_s n _).mono ?_); rintro e w9 ⟨rfl, hs⟩; rw [HF.out]; replace Hb := Lib.hid (Hb.out.keep hs Hb.out.lt); replace h0 := Stp.trans h0 hs; clear hs q0 q1 q2 q3 q4 q5 q6 q7; obtain ⟨q0, q1, q2, q3, q4, q5, q6, q7⟩ := nd_cells Hb.out))
    all_goals go_ret
    all_goals exact ⟨rfl, h0⟩
  · obtain rfl : O = false := by rcases hno with h | h <;> first | exact h | cases h
    clear hno
    go_enter Try.func7, Try.ntmps7
    go_wp2_with (first
    | (go_at_call 9; (with_reducible refine (awake_s HI.out _).mono ?_); rintro e w9 ⟨rfl, hs⟩; replace Hb := Lib.hid (Hb.out.keep hs Hb.out.lt); replace h0 := Stp.trans h0 hs; clear hs q0 q1 q2 q3 q4 q5 q6 q7; obtain ⟨q0, q1, q2, q3, q4, q5, q6, q7⟩ := nd_cells Hb.out)
    | (go_at_call 10; (with_reducible refine (few_s n _).mono ?_); rintro e w9 ⟨rfl, hs⟩; rw [HF.out]; replace Hb := Lib.hid (Hb.out.keep hs Hb.out.lt); replace h0 := Stp.trans h0 hs; clear hs q0 q1 q2 q3 q4 q5 q6 q7; obtain ⟨q0, q1, q2, q3, q4, q5, q6, q7⟩ := nd_cells Hb.out)
    | (go_at_call 20; (with_reducible refine (Tree.tone_s n Hn.out _).mono ?_); rintro e w9 ⟨rfl, hs⟩; rw [HO.out]; replace Hb := Lib.hid (Hb.out.keep hs Hb.out.lt); replace h0 := Stp.trans h0 hs; clear hs q0 q1 q2 q3 q4 q5 q6 q7; obtain ⟨q0, q1, q2, q3, q4, q5, q6, q7⟩ := nd_cells Hb.out))
    all_goals go_ret
    all_goals exact ⟨rfl, h0⟩
theorem hget_v (l : L) (m : Nat) (hm : l.length = m) (A : Option Addr) (c : Nat) (w : World) (ha : RdA w A c (bs l)) :
    Calls Try.prog 22 #[.slice A m c] w fun e w' => e = .returned (.tuple #[hv (getH l), .int .i64 (codeB l)]) ∧ Stp w w' := by
  subst hm
  exact hget_s l A c w ha
set_option maxRecDepth 100000 in
set_option maxHeartbeats 4000000 in
theorem first_core (I : EntryI) (n : Nd) (hn : SmallN n) (w : World) (hF : fewN n = true) (hO : oneB n = true) (H : Hd) (hH : firstH n = H) (N D : Nat) (hN : (putE n).length = N) (hD : dataE n = D) (hD8 : D ≤ 8) (hN1 : 1 ≤ N) (b1 b2 b3 ow lb : Bool)
    (g1 : ((H.ty.toNat : Int) == 75) = b1) (g2 : ((H.ty.toNat : Int) == 76) = b2) (g3 : ((H.ty.toNat : Int) == (n.kind.toNat : Int)) = b3) (gow : ((N : Int) == 1 + (D : Int)) = ow) (gl : decide ((100 : Int) < (n.link.length : Int)) = lb)
    (hc : (ow = true ∧ b3 = true) ∨ (ow = false ∧ b1 = true ∧ lb = true) ∨ (ow = false ∧ b1 = false ∧ lb = false ∧ b2 = true)) :
    Calls Try.prog 7 #[nv n] w fun e w' => e = .returned (.bool true) ∧ Stp w w' := by
  have h0 := Stp.alloc (Stp.refl w) (.cells (ncells n) 23)
  have Hb := Lib.hid (Blk.new w 23 (ncells n))
  obtain ⟨q0, q1, q2, q3, q4, q5, q6, q7⟩ := nd_cells Hb.out
  have HI := Lib.hid I
  have Hn := Lib.hid hn
  clear hn I
  have HF := Lib.hid hF
  have HO := Lib.hid hO
  have HN := Lib.hid hN
  have HD := Lib.hid (show (dataE n : Int) = (D : Int) by rw [hD])
  obtain ⟨fm, fs⟩ := first_ok hO
  rw [hH] at fm fs
  have hp := putE_first hO
  rw [hH] at hp
  have H00 := Lib.hid hp
  have HL := Lib.hid (blk_length fm fs)
  have HC := Lib.hid (code_blk fm fs)
  have HG := Lib.hid (get_blk fm fs)
  have g0 : ((N : Int) == 0) = false := beq_eq_false_iff_ne.2 (by omega)
  have w1 : IntKind.i64.wrap (1 + (D : Int)) = 1 + (D : Int) := by
    rw [IntKind.wrap_i64]
    omega
  clear hF hO hD hN hH fm fs hp
  rcases hc with ⟨rfl, rfl⟩ | ⟨rfl, rfl, rfl⟩ | ⟨rfl, rfl, rfl, rfl⟩
  all_goals
    go_enter Try.func7, Try.ntmps7
    go_wp2_with (first
    | (go_at_call 9; (with_reducible refine (awake_s HI.out _).mono ?_); rintro e w9 ⟨rfl, hs⟩; replace Hb := Lib.hid (Hb.out.keep hs Hb.out.lt); replace h0 := Stp.trans h0 hs; clear hs q0 q1 q2 q3 q4 q5 q6 q7; obtain ⟨q0, q1, q2, q3, q4, q5, q6, q7⟩ := nd_cells Hb.out)
    | (go_at_call 10; (with_reducible refine (few_s n _).mono ?_); rintro e w9 ⟨rfl, hs⟩; rw [HF.out]; replace Hb := Lib.hid (Hb.out.keep hs Hb.out.lt); replace h0 := Stp.trans h0 hs; clear hs q0 q1 q2 q3 q4 q5 q6 q7; obtain ⟨q0, q1, q2, q3, q4, q5, q6, q7⟩ := nd_cells Hb.out)
    | (go_at_call 20; (with_reducible refine (Tree.tone_s n Hn.out _).mono ?_); rintro e w9 ⟨rfl, hs⟩; rw [HO.out]; replace Hb := Lib.hid (Hb.out.keep hs Hb.out.lt); replace h0 := Stp.trans h0 hs; clear hs q0 q1 q2 q3 q4 q5 q6 q7; obtain ⟨q0, q1, q2, q3, q4, q5, q6, q7⟩ := nd_cells Hb.out)
    | (go_at_call 13; (with_reducible refine (HI.out.put n _ rfl Hn.out _).mono ?_); rintro e w9 ⟨U, cU, rfl, hu, hs⟩; rw [HO.out, HN.out]; have Hu := Lib.hid hu; clear hu; replace Hb := Lib.hid (Hb.out.keep hs Hb.out.lt); replace h0 := Stp.trans h0 hs; clear hs q0 q1 q2 q3 q4 q5 q6 q7; obtain ⟨q0, q1, q2, q3, q4, q5, q6, q7⟩ := nd_cells Hb.out; obtain ⟨bu, ou, A1, c1, rfl, ca, ra⟩ := Hu.out.at_ H00.out; rw [Nat.add_zero, HL.out] at ca; have Hra := Lib.hid ra; clear ra)
    | (go_at_call 22; (with_reducible refine (hget_v (blk H) 512 HL.out A1 c1 _ Hra.out).mono ?_); rintro e w9 ⟨rfl, hs⟩; rw [HC.out, HG.out]; have Hw := Lib.hid ((Hb.out.keep hs Hb.out.lt).alloc (.cells (hcells H) 27)); replace h0 := Stp.alloc (Stp.trans h0 hs) (.cells (hcells H) 27); have Hz := Lib.hid (Blk.new w9 27 (hcells H)); clear hs ca q0 q1 q2 q3 q4 q5 q6 q7; obtain ⟨q0, q1, q2, q3, q4, q5, q6, q7⟩ := nd_cells Hw.out)
    | (go_at_call 18; (with_reducible refine (HI.out.data n _ rfl Hn.out _).mono ?_); rintro e w9 ⟨rfl, hs⟩; rw [HD.out]; have Hy := Lib.hid (Hz.out.keep hs Hz.out.lt); replace Hw := Lib.hid (Hw.out.keep hs Hw.out.lt); replace h0 := Stp.trans h0 hs; clear hs q0 q1 q2 q3 q4 q5 q6 q7; obtain ⟨q0, q1, q2, q3, q4, q5, q6, q7⟩ := nd_cells Hw.out; obtain ⟨x0, x1, x2, x3, x4, x5, x6, x7, x8, x9, x10⟩ := hd_cells Hy.out))
  all_goals first
    | (go_ret; exact ⟨rfl, h0⟩)
    | (exfalso; simp only [decide_eq_false_iff_not, decide_eq_true_eq] at gl; omega)
theorem first_in (I : EntryI) (n : Nd) (hn : SmallN n) (w : World) (hF : fewN n = true) (hO : oneB n = true) :
    Calls Try.prog 7 #[nv n] w fun e w' => e = .returned (.bool true) ∧ Stp w w' := by
  have hl := putE_length hO
  have ha := ahead_length hO
  have hd := dataE_yes hO
  have hm : BlockM.manyN n.data.length ≤ 8 := BlockM.manyN_small (by have := (oneF hO).data; omega)
  refine first_core I n hn w hF hO _ rfl _ _ rfl rfl (by omega) (by omega) _ _ _ _ _ rfl rfl rfl rfl rfl ?_
  unfold firstH
  cases h1 : needL n
  · have hk : ¬ 100 < n.link.length := by unfold needL at h1; simpa using h1
    cases h2 : needN n
    · left
      rw [h1, h2] at ha
      simp only [Bool.false_eq_true, if_false] at ha ⊢
      exact ⟨beq_iff_eq.2 (by rw [hl, ha, hd]; omega), beq_iff_eq.2 rfl⟩
    · right; right
      rw [h1, h2] at ha
      simp only [Bool.false_eq_true, if_false, if_true] at ha ⊢
      exact ⟨beq_eq_false_iff_ne.2 (by rw [hl, ha, hd]; omega), rfl, decide_eq_false (by omega), rfl⟩
  · have hk : 100 < n.link.length := by unfold needL at h1; simpa using h1
    right; left
    rw [h1] at ha
    simp only [if_true] at ha ⊢
    exact ⟨beq_eq_false_iff_ne.2 (by rw [hl, ha, hd]; split <;> omega), rfl, decide_eq_true (by omega)⟩
theorem first_s (I : EntryI) (n : Nd) (hn : SmallN n) (w : World) :
    Calls Try.prog 7 #[nv n] w fun e w' => e = .returned (.bool true) ∧ Below w.heap.size w w' := by
  cases hF : fewN n with
  | false => exact first_no I n hn w (.inl hF)
  | true =>
    cases hO : oneB n with
    | false => exact first_no I n hn w (.inr hO)
    | true => exact first_in I n hn w hF hO
end Go.Proofs.Ytihigbaaajmjlaa.Entry
