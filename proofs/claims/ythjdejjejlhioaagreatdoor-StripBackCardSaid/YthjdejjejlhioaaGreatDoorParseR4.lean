/-
  What package parse's code does of a long text: whole, isTextSize, awaitText. No statement is proved here.
-/
import Derived.Test.YthjdejjejlhioaaGreatDoorParseR
import Derived.Test.YthjdejjejlhioaaGreatDoorHeadHlp
import Derived.Deep.Cut
import Derived.BigRegion
namespace Go.Proofs.YthjdejjejlhioaaGreatDoor.Parse
open Go.RowKit Go.Proofs.YthjdejjejlhioaaGreatDoor.Str Go.Proofs.YthjdejjejlhioaaGreatDoor.Base Go.Proofs.YthjdejjejlhioaaGreatDoor.Node Go.Proofs.YthjdejjejlhioaaGreatDoor.Long Go.Proofs.YthjdejjejlhioaaGreatDoor.Head

theorem must_yes (e0 : Int) (w : World) : Calls Tryz.prog 102 #[.bool true, .int .i64 e0] w fun e w' => e = .returned (.tuple #[]) ∧ w' = w :=
  (must_s true e0 w).mono fun _ _ h => ⟨(h.1.resolve_right (fun hh => by cases hh.1)).2, h.2⟩
theorem must_no (e0 : Int) (w : World) : Calls Tryz.prog 102 #[.bool false, .int .i64 e0] w fun e w' => e = .panicked [pe e0] ∧ w' = w :=
  (must_s false e0 w).mono fun _ _ h => ⟨(h.1.resolve_left (fun hh => by cases hh.1)).2, h.2⟩
set_option maxRecDepth 100000 in
set_option maxHeartbeats 1000000 in
theorem whole_p (p q r : L) (hr : (if p = [] then q else p) = r) (hp : p.length ≤ 9223372036854775807) (w : World) :
    Calls Tryz.prog 181 #[.string ⟨p.toArray⟩, .string ⟨q.toArray⟩] w fun e w' => ((p = [] ∨ q = p.take 100) ∧ e = .returned (.string ⟨r.toArray⟩) ∨ ¬ (p = [] ∨ q = p.take 100) ∧ e = .panicked [pe 2]) ∧ Stp w w' := by
  have h0 := Stp.refl w
  by_cases h : p = []
  · rw [if_pos h] at hr
    have hb : (p == []) = true := by rw [h]; rfl
    have HA := Lib.hid h
    subst hr
    clear h
    go_enter Tryz.func181, Tryz.ntmps181
    go_wp2_with fail
    go_ret
    exact ⟨.inl ⟨.inl HA.out, rfl⟩, h0⟩
  · rw [if_neg h] at hr
    have hb : (p == []) = false := beq_eq_false_iff_ne.2 h
    subst hr
    obtain ⟨m, hm⟩ : ∃ m, min p.length 100 = m := ⟨_, rfl⟩
    have hmin : min (p.length : Int) 100 = (m : Int) := by omega
    have hc := cut_h p m (by omega)
    have ht : p.take m = p.take 100 := by
      by_cases h2 : p.length ≤ 100
      · rw [List.take_of_length_le (by omega), List.take_of_length_le h2]
      · rw [show m = 100 by omega]
    rw [ht] at hc
    obtain ⟨T, hT⟩ : ∃ T, p.take 100 = T := ⟨_, rfl⟩
    rw [hT] at hc ⊢
    have HN := Lib.hid h
    clear h hm ht hT
    obtain ⟨c, hc0⟩ : ∃ c, (q == T) = c := ⟨_, rfl⟩
    have HE := Lib.hid hc0
    go_enter Tryz.func181, Tryz.ntmps181
    go_wp2_with (go_at_call 102; (refine (must_s c 2 _).mono ?_); rintro e w2 ⟨⟨hb, rfl⟩ | ⟨hb, rfl⟩, rfl⟩ <;> (have HB := Lib.hid hb; clear hb))
    · go_ret
      exact ⟨.inl ⟨.inr (beq_iff_eq.1 (HE.out.trans HB.out)), rfl⟩, h0⟩
    · exact ⟨rfl, .inr ⟨fun hh => hh.elim HN.out (beq_eq_false_iff_ne.1 (HE.out.trans HB.out)), rfl⟩, h0⟩

set_option maxRecDepth 100000 in
theorem size_s (n : Int) (w : World) : Calls Tryz.prog 30 #[.int .i64 n] w fun e w' => e = .returned (.bool (decide (2 ≤ n) && decide (n ≤ 301))) ∧ Stp w w' := by
  have h0 := Stp.refl w
  go_enter Tryz.func30, Tryz.ntmps30
  go_wp2_with fail
  all_goals go_ret
  all_goals refine ⟨congrArg (fun b => Ending.returned (.bool b)) ?_, h0⟩
  all_goals rw [Bool.eq_iff_iff]
  all_goals simp only [Bool.and_eq_true, decide_eq_true_eq]
  all_goals first | omega | (simp_all; done) | (simp_all; omega)

/-- How the header of a long text ends. -/
def awaitA (s : St) (ph : Int) (had : L) (h : Hd) : Ans :=
  if had ≠ [] then (s, [], 5)
  else if h.size < 2 ∨ 301 < h.size ∨ h ≠ longH h then (s, [], 2)
  else ({ s with phase := ph, size := h.size, left := h.size }, [], 0)
set_option maxRecDepth 100000 in
set_option maxHeartbeats 1000000 in
theorem await_s (g lo : Nat) (s : St) (v : Value) (ph : Int) (had : L) (h : Hd) (w : World) (hl : Lies w g lo s v []) :
    Calls Tryz.prog 162 #[.pointer (some ⟨g, 0, none⟩), .int .i64 ph, .string ⟨had.toArray⟩, hv h] w fun e w' => Took g lo (awaitA s ph had h) w e w' := by
  have hs := Stp.alloc (Stp.refl w) (.cells (hcells h) 113)
  have H := Lib.hid (hl.keep hs)
  have K := Lib.hid (Kp.of_stp (g := g) hs hl.le)
  have Hb := Lib.hid (Blk.new w 113 (hcells h))
  clear hl hs
  obtain ⟨c0, c1, c2, c3, c4, c5, c6, c7, c8, c9, c10⟩ := hd_cells Hb.out
  by_cases hh : had = []
  · have hb : (had == []) = true := by rw [hh]; rfl
    have heq : ∀ W : World, (Op.equalIn 10000 113 (hv h) (.agg #[.string { data := #[46, 47, 46, 47, 64, 76, 111, 110, 103, 76, 105, 110, 107] }, .string { data := #[] }, .string { data := #[] }, .int .i64 0, .int .i64 0, .int .i64 0, .int .i64 h.size, .int .i64 0, .int .u8 (h.ty.toNat : Int), .int .i64 0, .int .i64 0])).run Tryz.prog W = .ok (decide (h = longH h)) W := fun W => eq_heads h (longH h) W
    have hng : Tryz.prog.eqGuardType Tryz.prog.depth 113 = false := by kernel_rfl
    by_cases hx : 2 ≤ h.size ∧ h.size ≤ 301
    · have HX := Lib.hid (show (decide (2 ≤ h.size) && decide (h.size ≤ 301)) = true by simp [hx])
      by_cases hE : h = longH h
      · have e : awaitA s ph had h = ({ s with phase := ph, size := h.size, left := h.size }, [], 0) := by
          unfold awaitA
          rw [if_neg (by rw [hh]; simp), if_neg (by rw [not_or, not_or]; exact ⟨by omega, by omega, fun hn => hn hE⟩)]
        rw [e]
        rw [decide_eq_true hE] at heq
        clear hh e hE hx
        go_enter Tryz.func162, Tryz.ntmps162
        go_upto_region 3 with (first
      | (go_at_call 30; (with_reducible refine (size_s h.size _).mono ?_); rintro e w1 ⟨rfl, hs⟩; rw [HX.out]; replace K := Lib.hid (K.out.stp hs H.out.le); replace H := Lib.hid (H.out.keep hs); replace Hb := Lib.hid (Hb.out.keep hs Hb.out.lt); clear hs c0 c1 c2 c3 c4 c5 c6 c7 c8 c9 c10; obtain ⟨c0, c1, c2, c3, c4, c5, c6, c7, c8, c9, c10⟩ := hd_cells Hb.out)
      | (go_at_call 102; (with_reducible refine (must_yes _ _).mono ?_); rintro e w2 ⟨rfl, rfl⟩)
      | (go_at_call 102; (with_reducible refine (must_no _ _).mono ?_); rintro e w2 ⟨rfl, rfl⟩))
        obtain ⟨q0, q1, q2, q3, q4, q5, q6, q7, q8, q9, q10, q11, q12, q13, q14⟩ := H.out.cells
        have hz := H.out.free
        clear heq hng q1 q2 q3 q4 q5 q6 q7 q8 q11 q12 q13 q14
        go_region
        go_wp2_with fail
        go_end0
        have k3 := (((Kp.refl g lo w2).put 0 (.int .i64 ph)).put 9 (.int .i64 h.size)).put 10 (.int .i64 h.size)
        have hl : Lies (((w2.setCell ⟨g, 0, none⟩ (.int .i64 ph)).setCell ⟨g, 9, none⟩ (.int .i64 h.size)).setCell ⟨g, 10, none⟩ (.int .i64 h.size)) g lo { s with phase := ph, size := h.size, left := h.size } v [] :=
          ⟨((H.out.blk.put 0 _).put 9 _).put 10 _, ((H.out.row.put H.out.lt 0 _).put H.out.lt 9 _).put H.out.lt 10 _, H.out.lt, Nat.le_trans H.out.le k3.size⟩
        exact took_go (hl.keep (stp_dr (Stp.refl _))) ((K.out.trans k3).stp (stp_dr (Stp.refl _)) hl.le)
      · have e : awaitA s ph had h = (s, [], 2) := by
          unfold awaitA
          rw [if_neg (by rw [hh]; simp), if_pos (.inr (.inr hE))]
        rw [e]
        rw [decide_eq_false hE] at heq
        clear hh e hE hx
        go_enter Tryz.func162, Tryz.ntmps162
        go_wp2_with (first
      | (go_at_call 30; (with_reducible refine (size_s h.size _).mono ?_); rintro e w1 ⟨rfl, hs⟩; rw [HX.out]; replace K := Lib.hid (K.out.stp hs H.out.le); replace H := Lib.hid (H.out.keep hs); replace Hb := Lib.hid (Hb.out.keep hs Hb.out.lt); clear hs c0 c1 c2 c3 c4 c5 c6 c7 c8 c9 c10; obtain ⟨c0, c1, c2, c3, c4, c5, c6, c7, c8, c9, c10⟩ := hd_cells Hb.out)
      | (go_at_call 102; (with_reducible refine (must_yes _ _).mono ?_); rintro e w2 ⟨rfl, rfl⟩)
      | (go_at_call 102; (with_reducible refine (must_no _ _).mono ?_); rintro e w2 ⟨rfl, rfl⟩))
        exact ⟨rfl, took_no (by decide) K.out⟩
    · have HX := Lib.hid (show (decide (2 ≤ h.size) && decide (h.size ≤ 301)) = false by rw [Bool.and_eq_false_iff, decide_eq_false_iff_not, decide_eq_false_iff_not]; omega)
      have e : awaitA s ph had h = (s, [], 2) := by
        unfold awaitA
        rw [if_neg (by rw [hh]; simp), if_pos (by omega)]
      rw [e]
      clear hh e hx heq
      go_enter Tryz.func162, Tryz.ntmps162
      go_wp2_with (first
      | (go_at_call 30; (with_reducible refine (size_s h.size _).mono ?_); rintro e w1 ⟨rfl, hs⟩; rw [HX.out]; replace K := Lib.hid (K.out.stp hs H.out.le); replace H := Lib.hid (H.out.keep hs); replace Hb := Lib.hid (Hb.out.keep hs Hb.out.lt); clear hs c0 c1 c2 c3 c4 c5 c6 c7 c8 c9 c10; obtain ⟨c0, c1, c2, c3, c4, c5, c6, c7, c8, c9, c10⟩ := hd_cells Hb.out)
      | (go_at_call 102; (with_reducible refine (must_yes _ _).mono ?_); rintro e w2 ⟨rfl, rfl⟩)
      | (go_at_call 102; (with_reducible refine (must_no _ _).mono ?_); rintro e w2 ⟨rfl, rfl⟩))
      exact ⟨rfl, took_no (by decide) K.out⟩
  · have e : awaitA s ph had h = (s, [], 5) := by unfold awaitA; rw [if_pos hh]
    rw [e]
    have hb : (had == []) = false := beq_eq_false_iff_ne.2 hh
    clear hh e
    go_enter Tryz.func162, Tryz.ntmps162
    go_wp2_with (go_at_call 102; (with_reducible refine (must_no _ _).mono ?_); rintro e w2 ⟨rfl, rfl⟩)
    exact ⟨rfl, took_no (by decide) K.out⟩
end Go.Proofs.YthjdejjejlhioaaGreatDoor.Parse
