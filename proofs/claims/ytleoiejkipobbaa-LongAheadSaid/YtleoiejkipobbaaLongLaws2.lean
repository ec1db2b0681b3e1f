/-
  The walk of LongAhead: no statement is proved here.
-/
import Derived.Test.YtleoiejkipobbaaLongLaws
namespace Go.Proofs.Ytleoiejkipobbaa.Long
open Go.RowKit Go.Proofs.Ytleoiejkipobbaa.Str Go.Proofs.Ytleoiejkipobbaa.Base Go.Proofs.Ytleoiejkipobbaa.Node Go.Proofs.Ytleoiejkipobbaa.Head

set_option linter.unusedSimpArgs false
theorem same_n (ls ms : List L) (e : ls = ms) (A B : Option Addr) (c d : Nat) (w : World) (ha : RdL w A c ls) (hb : RdL w B d ms) (hl : ls.length ≤ 1000000) :
    Calls Try.prog 29 #[.slice A ls.length c, .slice B ms.length d] w fun e w' => e = .returned (.bool true) ∧ Stp w w' := by
  subst e
  refine (Block.rsame_s ls ls A B c d w ha hb (by omega) (by omega)).mono ?_
  rintro e w' ⟨rfl, h⟩
  exact ⟨by simp, h⟩

set_option maxRecDepth 100000 in
set_option maxHeartbeats 8000000 in
theorem ahead_walk (n : Nd) (hn : SmallN n) (w : World) :
    Calls Try.prog 7 #[nv n] w fun e w' => e = .returned (.bool true) ∧ Stp w w' := by
  have h0 := Stp.refl w
  have Hn := Lib.hid hn
  have Hb0 := Lib.hid (Blk.new w 35 (ncells n))
  have H0 := Lib.hid (Stp.alloc h0 (.cells (ncells n) 35))
  obtain ⟨bl, h1⟩ : ∃ b, needL n = b := ⟨_, rfl⟩
  obtain ⟨o1, h2⟩ : ∃ b, putOkL 75 n.link = b := ⟨_, rfl⟩
  obtain ⟨bn, h3⟩ : ∃ b, needN n = b := ⟨_, rfl⟩
  obtain ⟨o2, h4⟩ : ∃ b, putOkL 76 n.path = b := ⟨_, rfl⟩
  have Ha := Lib.hid (ahead_is n h1 h2 h3 h4)
  have F1 := Lib.hid h1
  have F2 := Lib.hid h2
  have F3 := Lib.hid h3
  have F4 := Lib.hid h4
  obtain ⟨fw, hf⟩ : ∃ b, fewN n = b := ⟨_, rfl⟩
  have Hf := Lib.hid hf
  have Hal := Lib.hid (ahead_le n)
  clear h1 h2 h3 h4 hf hn
  go_enter Try.func7, Try.ntmps7
  go_wp2_with (first
    | (go_at_call 21; refine (awake_s _).mono ?_; rintro e w1 ⟨rfl, hs⟩; have Hb := Lib.hid (Hb0.out.keep hs Hb0.out.lt); have H := Lib.hid (Stp.trans H0.out hs); clear hs; obtain ⟨q0, q1, q2, q3, q4, q5, q6, q7⟩ := nd_cells Hb.out)
    | (go_at_call 22; refine (few_s n _).mono ?_; rintro e w2 ⟨rfl, hs⟩; rw [Hf.out]; replace Hb := Lib.hid (Hb.out.keep hs Hb.out.lt); replace H := Lib.hid (Stp.trans H.out hs); clear hs q0 q1 q2 q3 q4 q5 q6 q7; obtain ⟨q0, q1, q2, q3, q4, q5, q6, q7⟩ := nd_cells Hb.out; rcases fw; all_goals (try (obtain ⟨lp, lk, -⟩ := fewN_iff.1 Hf.out)))
    | (go_at_call 30; refine (ahead_s n Hn.out (by omega) (by omega) _).mono ?_; rintro e w3 ⟨A3, c3, rfl, hr, hs⟩; replace Hb := Lib.hid (Hb.out.keep hs Hb.out.lt); replace H := Lib.hid (Stp.trans H.out hs); have Hr3 := Lib.hid hr; clear hr hs q0 q1 q2 q3 q4 q5 q6 q7; obtain ⟨q0, q1, q2, q3, q4, q5, q6, q7⟩ := nd_cells Hb.out)
    | (go_at_call 25; refine (needs_s n Hn.out _).mono ?_; rintro e w4 ⟨rfl, hs⟩; rw [F1.out, F3.out]; replace Hb := Lib.hid (Hb.out.keep hs Hb.out.lt); replace H := Lib.hid (Stp.trans H.out hs); replace Hr3 := Lib.hid (Hr3.out.keep hs); clear hs q0 q1 q2 q3 q4 q5 q6 q7; obtain ⟨q0, q1, -⟩ := nd_cells Hb.out)
    | (go_at_call 23; (with_reducible refine (lput_v 75 _ e75 n.link _ (by omega)).mono ?_); rintro e w5 ⟨A5, c5, rfl, hr, hs⟩; rw [F2.out]; replace Hb := Lib.hid (Hb.out.keep hs Hb.out.lt); replace H := Lib.hid (Stp.trans H.out hs); replace Hr3 := Lib.hid (Hr3.out.keep hs); have Hr5 := Lib.hid hr; clear hr hs q0 q1; obtain ⟨q0, q1, -⟩ := nd_cells Hb.out))
  · go_ret
    exact ⟨rfl, H.out⟩
  refine (lput_v 76 _ e76 n.path _ (by omega)).mono ?_
  rintro e w6 ⟨A6, c6, rfl, hr, hs⟩
  rw [F4.out]
  replace H := Lib.hid (Stp.trans H.out hs)
  replace Hr3 := Lib.hid (Hr3.out.keep hs)
  replace Hr5 := Lib.hid (Hr5.out.keep hs)
  have Hr6 := Lib.hid hr
  have H6 := Lib.hid (Stp.refl w6)
  have HR := Lib.hid (Base.Rows.nil w6 w6.heap.size 24)
  have hp1 := put_le 75 n.link
  have hp2 := put_le 76 n.path
  obtain ⟨AA, hAA⟩ : ∃ x, aheadV n = x := ⟨_, rfl⟩
  obtain ⟨X, hX⟩ : ∃ x, putLs 75 n.link = x := ⟨_, rfl⟩
  obtain ⟨Y, hY⟩ : ∃ x, putLs 76 n.path = x := ⟨_, rfl⟩
  have Hmay := Lib.hid (ahead_may n)
  have hal := Hal.out
  rw [hAA] at Hr3 Ha Hmay hal ⊢
  rw [hX] at Hr5 Ha hp1 ⊢
  rw [hY] at Hr6 Ha hp2 ⊢
  clear hr hs q0 q1 Hb lp lk Hb0 H0 hAA hX hY Hal Hn Hf
  cases bl
  · cases bn
    · have ha := Ha.out
      simp only [Bool.false_and, Bool.true_and, Bool.and_self, Bool.false_eq_true, if_false, if_true, List.nil_append, List.append_nil, Bool.and_false, Bool.and_true] at ha
      have Ha2 := Lib.hid ha
      clear ha
      go_wp2_with (first
        | (go_at_call 29; (have hZ : [] = AA := (by rw [Ha2.out]; try simp); obtain ⟨A9, c9, e9, hL9⟩ := HR.out.rdL; rw [hZ] at e9 hL9; rw [e9]; have HL9 := Lib.hid hL9; (with_reducible refine (same_n AA AA rfl _ _ _ _ _ (Hr3.out.keep H6.out) HL9.out (by omega)).mono ?_); rintro e w8 ⟨rfl, hs⟩; replace Hr3 := Lib.hid ((Hr3.out.keep H6.out).keep hs); replace H := Lib.hid (Stp.trans (Stp.trans H.out H6.out) hs); clear hs e9 hL9 HL9 hZ))
        | (go_at_call 35; refine (Block.may_s AA _ _ _ Hr3.out (by omega)).mono ?_; rintro e w9 ⟨rfl, hs⟩; rw [Hmay.out]; replace H := Lib.hid (Stp.trans H.out hs); clear hs))
      go_ret
      exact ⟨rfl, H.out⟩
    · cases o2
      · have ha := Ha.out
        simp only [Bool.false_and, Bool.true_and, Bool.and_self, Bool.false_eq_true, if_false, if_true, List.nil_append, List.append_nil, Bool.and_false, Bool.and_true] at ha
        have Ha2 := Lib.hid ha
        clear ha
        go_wp2_with (first
          | (go_at_call 29; (have hZ : [] = AA := (by rw [Ha2.out]; try simp); obtain ⟨A9, c9, e9, hL9⟩ := HR.out.rdL; rw [hZ] at e9 hL9; rw [e9]; have HL9 := Lib.hid hL9; (with_reducible refine (same_n AA AA rfl _ _ _ _ _ (Hr3.out.keep H6.out) HL9.out (by omega)).mono ?_); rintro e w8 ⟨rfl, hs⟩; replace Hr3 := Lib.hid ((Hr3.out.keep H6.out).keep hs); replace H := Lib.hid (Stp.trans (Stp.trans H.out H6.out) hs); clear hs e9 hL9 HL9 hZ))
          | (go_at_call 35; refine (Block.may_s AA _ _ _ Hr3.out (by omega)).mono ?_; rintro e w9 ⟨rfl, hs⟩; rw [Hmay.out]; replace H := Lib.hid (Stp.trans H.out hs); clear hs))
        go_ret
        exact ⟨rfl, H.out⟩
      · have ha := Ha.out
        simp only [Bool.false_and, Bool.true_and, Bool.and_self, Bool.false_eq_true, if_false, if_true, List.nil_append, List.append_nil, Bool.and_false, Bool.and_true] at ha
        have Ha2 := Lib.hid ha
        clear ha
        go_wp2_with (first
          | (at_builtin; refine Base.wpList_append_rows (P := Try.prog) rfl (.tmp 54) (.tmp 55) 37 rfl 24 Try.underlying37 slices_info _ rfl HR.out rfl (Hr6.out.keep H6.out) rfl (by simp only [List.length_nil, List.nil_append]; omega) H6.out.size ?_; intro v' w7 hR hg; replace H6 := Lib.hid (HR.out.stp H6.out (Nat.le_refl _) hg); replace HR := Lib.hid hR; clear hR hg)
          | (go_at_call 29; (have hZ : ([] ++ Y) = AA := (by rw [Ha2.out]; try simp); obtain ⟨A9, c9, e9, hL9⟩ := HR.out.rdL; rw [hZ] at e9 hL9; rw [e9]; have HL9 := Lib.hid hL9; (with_reducible refine (same_n AA AA rfl _ _ _ _ _ (Hr3.out.keep H6.out) HL9.out (by omega)).mono ?_); rintro e w8 ⟨rfl, hs⟩; replace Hr3 := Lib.hid ((Hr3.out.keep H6.out).keep hs); replace H := Lib.hid (Stp.trans (Stp.trans H.out H6.out) hs); clear hs e9 hL9 HL9 hZ))
          | (go_at_call 35; refine (Block.may_s AA _ _ _ Hr3.out (by omega)).mono ?_; rintro e w9 ⟨rfl, hs⟩; rw [Hmay.out]; replace H := Lib.hid (Stp.trans H.out hs); clear hs))
        go_ret
        exact ⟨rfl, H.out⟩
  · cases o1
    · cases bn
      · have ha := Ha.out
        simp only [Bool.false_and, Bool.true_and, Bool.and_self, Bool.false_eq_true, if_false, if_true, List.nil_append, List.append_nil, Bool.and_false, Bool.and_true] at ha
        have Ha2 := Lib.hid ha
        clear ha
        go_wp2_with (first
          | (go_at_call 29; (have hZ : [] = AA := (by rw [Ha2.out]; try simp); obtain ⟨A9, c9, e9, hL9⟩ := HR.out.rdL; rw [hZ] at e9 hL9; rw [e9]; have HL9 := Lib.hid hL9; (with_reducible refine (same_n AA AA rfl _ _ _ _ _ (Hr3.out.keep H6.out) HL9.out (by omega)).mono ?_); rintro e w8 ⟨rfl, hs⟩; replace Hr3 := Lib.hid ((Hr3.out.keep H6.out).keep hs); replace H := Lib.hid (Stp.trans (Stp.trans H.out H6.out) hs); clear hs e9 hL9 HL9 hZ))
          | (go_at_call 35; refine (Block.may_s AA _ _ _ Hr3.out (by omega)).mono ?_; rintro e w9 ⟨rfl, hs⟩; rw [Hmay.out]; replace H := Lib.hid (Stp.trans H.out hs); clear hs))
        go_ret
        exact ⟨rfl, H.out⟩
      · cases o2
        · have ha := Ha.out
          simp only [Bool.false_and, Bool.true_and, Bool.and_self, Bool.false_eq_true, if_false, if_true, List.nil_append, List.append_nil, Bool.and_false, Bool.and_true] at ha
          have Ha2 := Lib.hid ha
          clear ha
          go_wp2_with (first
            | (go_at_call 29; (have hZ : [] = AA := (by rw [Ha2.out]; try simp); obtain ⟨A9, c9, e9, hL9⟩ := HR.out.rdL; rw [hZ] at e9 hL9; rw [e9]; have HL9 := Lib.hid hL9; (with_reducible refine (same_n AA AA rfl _ _ _ _ _ (Hr3.out.keep H6.out) HL9.out (by omega)).mono ?_); rintro e w8 ⟨rfl, hs⟩; replace Hr3 := Lib.hid ((Hr3.out.keep H6.out).keep hs); replace H := Lib.hid (Stp.trans (Stp.trans H.out H6.out) hs); clear hs e9 hL9 HL9 hZ))
            | (go_at_call 35; refine (Block.may_s AA _ _ _ Hr3.out (by omega)).mono ?_; rintro e w9 ⟨rfl, hs⟩; rw [Hmay.out]; replace H := Lib.hid (Stp.trans H.out hs); clear hs))
          go_ret
          exact ⟨rfl, H.out⟩
        · have ha := Ha.out
          simp only [Bool.false_and, Bool.true_and, Bool.and_self, Bool.false_eq_true, if_false, if_true, List.nil_append, List.append_nil, Bool.and_false, Bool.and_true] at ha
          have Ha2 := Lib.hid ha
          clear ha
          go_wp2_with (first
            | (at_builtin; refine Base.wpList_append_rows (P := Try.prog) rfl (.tmp 54) (.tmp 55) 37 rfl 24 Try.underlying37 slices_info _ rfl HR.out rfl (Hr6.out.keep H6.out) rfl (by simp only [List.length_nil, List.nil_append]; omega) H6.out.size ?_; intro v' w7 hR hg; replace H6 := Lib.hid (HR.out.stp H6.out (Nat.le_refl _) hg); replace HR := Lib.hid hR; clear hR hg)
            | (go_at_call 29; (have hZ : ([] ++ Y) = AA := (by rw [Ha2.out]; try simp); obtain ⟨A9, c9, e9, hL9⟩ := HR.out.rdL; rw [hZ] at e9 hL9; rw [e9]; have HL9 := Lib.hid hL9; (with_reducible refine (same_n AA AA rfl _ _ _ _ _ (Hr3.out.keep H6.out) HL9.out (by omega)).mono ?_); rintro e w8 ⟨rfl, hs⟩; replace Hr3 := Lib.hid ((Hr3.out.keep H6.out).keep hs); replace H := Lib.hid (Stp.trans (Stp.trans H.out H6.out) hs); clear hs e9 hL9 HL9 hZ))
            | (go_at_call 35; refine (Block.may_s AA _ _ _ Hr3.out (by omega)).mono ?_; rintro e w9 ⟨rfl, hs⟩; rw [Hmay.out]; replace H := Lib.hid (Stp.trans H.out hs); clear hs))
          go_ret
          exact ⟨rfl, H.out⟩
    · cases bn
      · have ha := Ha.out
        simp only [Bool.false_and, Bool.true_and, Bool.and_self, Bool.false_eq_true, if_false, if_true, List.nil_append, List.append_nil, Bool.and_false, Bool.and_true] at ha
        have Ha2 := Lib.hid ha
        clear ha
        go_wp2_with (first
          | (at_builtin; refine Base.wpList_append_rows (P := Try.prog) rfl (.tmp 47) (.tmp 48) 37 rfl 24 Try.underlying37 slices_info _ rfl HR.out rfl (Hr5.out.keep H6.out) rfl (by simp only [List.length_nil, List.nil_append]; omega) H6.out.size ?_; intro v' w7 hR hg; replace H6 := Lib.hid (HR.out.stp H6.out (Nat.le_refl _) hg); replace HR := Lib.hid hR; clear hR hg)
          | (go_at_call 29; (have hZ : ([] ++ X) = AA := (by rw [Ha2.out]; try simp); obtain ⟨A9, c9, e9, hL9⟩ := HR.out.rdL; rw [hZ] at e9 hL9; rw [e9]; have HL9 := Lib.hid hL9; (with_reducible refine (same_n AA AA rfl _ _ _ _ _ (Hr3.out.keep H6.out) HL9.out (by omega)).mono ?_); rintro e w8 ⟨rfl, hs⟩; replace Hr3 := Lib.hid ((Hr3.out.keep H6.out).keep hs); replace H := Lib.hid (Stp.trans (Stp.trans H.out H6.out) hs); clear hs e9 hL9 HL9 hZ))
          | (go_at_call 35; refine (Block.may_s AA _ _ _ Hr3.out (by omega)).mono ?_; rintro e w9 ⟨rfl, hs⟩; rw [Hmay.out]; replace H := Lib.hid (Stp.trans H.out hs); clear hs))
        go_ret
        exact ⟨rfl, H.out⟩
      · cases o2
        · have ha := Ha.out
          simp only [Bool.false_and, Bool.true_and, Bool.and_self, Bool.false_eq_true, if_false, if_true, List.nil_append, List.append_nil, Bool.and_false, Bool.and_true] at ha
          have Ha2 := Lib.hid ha
          clear ha
          go_wp2_with (first
            | (at_builtin; refine Base.wpList_append_rows (P := Try.prog) rfl (.tmp 47) (.tmp 48) 37 rfl 24 Try.underlying37 slices_info _ rfl HR.out rfl (Hr5.out.keep H6.out) rfl (by simp only [List.length_nil, List.nil_append]; omega) H6.out.size ?_; intro v' w7 hR hg; replace H6 := Lib.hid (HR.out.stp H6.out (Nat.le_refl _) hg); replace HR := Lib.hid hR; clear hR hg)
            | (go_at_call 29; (have hZ : ([] ++ X) = AA := (by rw [Ha2.out]; try simp); obtain ⟨A9, c9, e9, hL9⟩ := HR.out.rdL; rw [hZ] at e9 hL9; rw [e9]; have HL9 := Lib.hid hL9; (with_reducible refine (same_n AA AA rfl _ _ _ _ _ (Hr3.out.keep H6.out) HL9.out (by omega)).mono ?_); rintro e w8 ⟨rfl, hs⟩; replace Hr3 := Lib.hid ((Hr3.out.keep H6.out).keep hs); replace H := Lib.hid (Stp.trans (Stp.trans H.out H6.out) hs); clear hs e9 hL9 HL9 hZ))
            | (go_at_call 35; refine (Block.may_s AA _ _ _ Hr3.out (by omega)).mono ?_; rintro e w9 ⟨rfl, hs⟩; rw [Hmay.out]; replace H := Lib.hid (Stp.trans H.out hs); clear hs))
          go_ret
          exact ⟨rfl, H.out⟩
        · have ha := Ha.out
          simp only [Bool.false_and, Bool.true_and, Bool.and_self, Bool.false_eq_true, if_false, if_true, List.nil_append, List.append_nil, Bool.and_false, Bool.and_true] at ha
          have Ha2 := Lib.hid ha
          clear ha
          go_wp2_with (first
            | (at_builtin; refine Base.wpList_append_rows (P := Try.prog) rfl (.tmp 47) (.tmp 48) 37 rfl 24 Try.underlying37 slices_info _ rfl HR.out rfl (Hr5.out.keep H6.out) rfl (by simp only [List.length_nil, List.nil_append]; omega) H6.out.size ?_; intro v' w7 hR hg; replace H6 := Lib.hid (HR.out.stp H6.out (Nat.le_refl _) hg); replace HR := Lib.hid hR; clear hR hg)
            | (at_builtin; refine Base.wpList_append_rows (P := Try.prog) rfl (.tmp 54) (.tmp 55) 37 rfl 24 Try.underlying37 slices_info _ rfl HR.out rfl (Hr6.out.keep H6.out) rfl (by simp only [List.length_nil, List.nil_append]; omega) H6.out.size ?_; intro v' w7 hR hg; replace H6 := Lib.hid (HR.out.stp H6.out (Nat.le_refl _) hg); replace HR := Lib.hid hR; clear hR hg)
            | (go_at_call 29; (have hZ : (([] ++ X) ++ Y) = AA := (by rw [Ha2.out]; try simp); obtain ⟨A9, c9, e9, hL9⟩ := HR.out.rdL; rw [hZ] at e9 hL9; rw [e9]; have HL9 := Lib.hid hL9; (with_reducible refine (same_n AA AA rfl _ _ _ _ _ (Hr3.out.keep H6.out) HL9.out (by omega)).mono ?_); rintro e w8 ⟨rfl, hs⟩; replace Hr3 := Lib.hid ((Hr3.out.keep H6.out).keep hs); replace H := Lib.hid (Stp.trans (Stp.trans H.out H6.out) hs); clear hs e9 hL9 HL9 hZ))
            | (go_at_call 35; refine (Block.may_s AA _ _ _ Hr3.out (by omega)).mono ?_; rintro e w9 ⟨rfl, hs⟩; rw [Hmay.out]; replace H := Lib.hid (Stp.trans H.out hs); clear hs))
          go_ret
          exact ⟨rfl, H.out⟩
end Go.Proofs.Ytleoiejkipobbaa.Long
