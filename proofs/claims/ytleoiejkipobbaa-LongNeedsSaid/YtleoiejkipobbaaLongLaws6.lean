/-
  The walk of LongKinds: no statement is proved here.
-/
import Derived.Test.YtleoiejkipobbaaLongLaws5
namespace Go.Proofs.Ytleoiejkipobbaa.Long
open Go.RowKit Go.Proofs.Ytleoiejkipobbaa.Str Go.Proofs.Ytleoiejkipobbaa.Base Go.Proofs.Ytleoiejkipobbaa.Node Go.Proofs.Ytleoiejkipobbaa.Head

theorem ok_is (k : UInt8) (hk : k = 75 ∨ k = 76) (s : L) : putOkL k s = textL s := by
  unfold putOkL
  rcases hk with rfl | rfl <;> simp
theorem text_eq {s t : L} (hs : textL s = true) (ht : textL t = true) : (BlockM.blk (s ++ [0]) == BlockM.blk (t ++ [0])) = (s == t) := by
  rw [Bool.eq_iff_iff, beq_iff_eq, beq_iff_eq]
  exact ⟨text_blk_inj hs ht, fun h => by rw [h]⟩
/-- What the first walk leaves of the three lists: their blocks, and how they are told. -/
theorem row_facts {w : World} {A : Option Addr} {c : Nat} {x y : L} (h : RdL w A c [x, y]) : ∃ b o A1 c1 A2 c2, A = some ⟨b, o, none⟩ ∧
    (∀ j, (w.drewN j).cell? ⟨b, o, none⟩ = some (.slice A1 x.length c1) ∧ (w.drewN j).cell? ⟨b, o + 1, none⟩ = some (.slice A2 y.length c2) ∧
      (convert 24 9 (.slice A1 x.length c1)).run Try.prog (w.drewN j) = .ok (.string ⟨x.toArray⟩) (w.drewN j) ∧
      (convert 24 9 (.slice A2 y.length c2)).run Try.prog (w.drewN j) = .ok (.string ⟨y.toArray⟩) (w.drewN j)) := by
  obtain ⟨b, o, A1, c1, A2, c2, rfl, -, d0, r0, d1, r1⟩ := rdL_two h
  exact ⟨b, o, A1, c1, A2, c2, rfl, fun j => ⟨d0, d1, Block.str_rd (w := w.drewN j) (show RdA (w.drewN j) _ _ _ from r0), Block.str_rd (w := w.drewN j) (show RdA (w.drewN j) _ _ _ from r1)⟩⟩

set_option maxRecDepth 100000 in
set_option linter.unusedSimpArgs false in
set_option maxHeartbeats 8000000 in
theorem kinds_walk (s t : L) (w : World) (hs1 : s.length ≤ 9223372036854775807) (ht1 : t.length ≤ 9223372036854775807) :
    Calls Try.prog 10 #[.string ⟨s.toArray⟩, .string ⟨t.toArray⟩] w fun e w' => e = .returned (.bool true) ∧ Stp w w' := by
  have h0 := Stp.refl w
  obtain ⟨u, hu⟩ : ∃ x, textL s = x := ⟨_, rfl⟩
  obtain ⟨v, hv⟩ : ∃ x, textL t = x := ⟨_, rfl⟩
  have Hu := Lib.hid hu
  have Hv := Lib.hid hv
  have F1 := Lib.hid ((ok_is 76 (.inr rfl) s).trans hu)
  have F2 := Lib.hid ((ok_is 75 (.inl rfl) s).trans hu)
  have F3 := Lib.hid ((ok_is 76 (.inr rfl) t).trans hv)
  clear hu hv
  go_enter Try.func10, Try.ntmps10
  go_wp2_with (first
    | (go_at_call 21; refine (awake_s _).mono ?_; rintro e w1 ⟨rfl, hs⟩; have H1 := Lib.hid (Stp.trans h0 hs); clear hs)
    | (go_at_call 23; (with_reducible refine (lput_v 76 _ e76 s _ (by omega)).mono ?_); rintro e w2 ⟨A2, c2, rfl, hr, hs⟩; rw [F1.out]; have H2 := Lib.hid (Stp.trans H1.out hs); have Hr2 := Lib.hid hr; clear hs hr)
    | (go_at_call 23; (with_reducible refine (lput_v 75 _ e75 s _ (by omega)).mono ?_); rintro e w3 ⟨A3, c3, rfl, hr, hs⟩; rw [F2.out]; have H3 := Lib.hid (Stp.trans H2.out hs); have Hr3 := Lib.hid hr; replace Hr2 := Lib.hid (Hr2.out.keep hs); clear hs hr))
  · go_ret
    exact ⟨rfl, H1.out⟩
  · refine (lput_v 76 _ e76 t _ (by omega)).mono ?_
    rintro e w4 ⟨A4, c4, rfl, hr, hs⟩
    rw [F3.out]
    have H4 := Lib.hid (Stp.trans H3.out hs)
    have Hr4 := Lib.hid hr
    replace Hr2 := Lib.hid (Hr2.out.keep hs)
    replace Hr3 := Lib.hid (Hr3.out.keep hs)
    clear hs hr
    have l2 := putLs_length 76 s
    have l3 := putLs_length 75 s
    have l4 := putLs_length 76 t
    rw [F1.out] at l2
    rw [F2.out] at l3
    rw [F3.out] at l4
    cases u
    · simp only [Bool.false_eq_true, if_false] at l2 l3
      cases v
      all_goals
        simp only [Bool.false_eq_true, if_false, if_true] at l4
        rw [l2, l3, l4]
        clear l2 l3 l4
        go_wp2_with (go_at_call 33; refine (text_s s _).mono ?_; rintro e w5 ⟨rfl, hs⟩; rw [Hu.out]; have H5 := Lib.hid (Stp.trans H4.out hs); clear hs)
        go_quiet (fail)
        go_wp2_with fail
        go_ret
        exact ⟨rfl, H5.out.drewN _⟩
    · simp only [if_true] at l2 l3
      have hr2 := Hr2.out
      have hr3 := Hr3.out
      have hbe := blk_eq F1.out F2.out
      rw [show decide ((76 : UInt8) = 75 ∧ s.length = s.length) = false by simp] at hbe
      cases v
      · simp only [Bool.false_eq_true, if_false] at l4
        rw [l2, l3, l4]
        clear l2 l3 l4
        go_wp2_with (go_at_call 33; refine (text_s s _).mono ?_; rintro e w5 ⟨rfl, hs⟩; rw [Hu.out]; have H5 := Lib.hid (Stp.trans H4.out hs); replace hr2 := hr2.keep hs; replace hr3 := hr3.keep hs; clear hs)
        rw [putLs_yes F1.out] at hr2
        rw [putLs_yes F2.out] at hr3
        obtain ⟨b2, o2, A21, c21, A22, c22, rfl, k2⟩ := row_facts hr2
        obtain ⟨b3, o3, A31, c31, A32, c32, rfl, k3⟩ := row_facts hr3
        obtain ⟨B, hB⟩ : ∃ B, blk (llH 76 s) = B := ⟨_, rfl⟩
        obtain ⟨C, hC⟩ : ∃ B, blk (llH 75 s) = B := ⟨_, rfl⟩
        obtain ⟨D, hD⟩ : ∃ B, BlockM.blk (s ++ [0]) = B := ⟨_, rfl⟩
        rw [hB, hD] at k2
        rw [hC, hD] at k3
        rw [hB, hC] at hbe
        obtain ⟨k20, k21, k22, k23⟩ := k2 0
        obtain ⟨k30, k31, k32, k33⟩ := k3 0
        go_quiet (fail)
        go_wp2_with fail
        go_ret
        exact ⟨rfl, H5.out.drewN _⟩
      · simp only [if_true] at l4
        rw [l2, l3, l4]
        clear l2 l3 l4
        have hr4 := Hr4.out
        have hde := text_eq Hu.out Hv.out
        go_wp2_with (go_at_call 33; refine (text_s s _).mono ?_; rintro e w5 ⟨rfl, hs⟩; rw [Hu.out]; have H5 := Lib.hid (Stp.trans H4.out hs); replace hr2 := hr2.keep hs; replace hr3 := hr3.keep hs; replace hr4 := hr4.keep hs; clear hs)
        rw [putLs_yes F1.out] at hr2
        rw [putLs_yes F2.out] at hr3
        rw [putLs_yes F3.out] at hr4
        obtain ⟨b2, o2, A21, c21, A22, c22, rfl, k2⟩ := row_facts hr2
        obtain ⟨b3, o3, A31, c31, A32, c32, rfl, k3⟩ := row_facts hr3
        obtain ⟨b4, o4, A41, c41, A42, c42, rfl, k4⟩ := row_facts hr4
        obtain ⟨B, hB⟩ : ∃ B, blk (llH 76 s) = B := ⟨_, rfl⟩
        obtain ⟨C, hC⟩ : ∃ B, blk (llH 75 s) = B := ⟨_, rfl⟩
        obtain ⟨D, hD⟩ : ∃ B, BlockM.blk (s ++ [0]) = B := ⟨_, rfl⟩
        obtain ⟨E, hE⟩ : ∃ B, BlockM.blk (t ++ [0]) = B := ⟨_, rfl⟩
        rw [hB, hD] at k2
        rw [hC, hD] at k3
        rw [hE] at k4
        rw [hB, hC] at hbe
        rw [hD, hE] at hde
        obtain ⟨k20, k21, k22, k23⟩ := k2 0
        obtain ⟨k30, k31, k32, k33⟩ := k3 0
        obtain ⟨-, k41, -, k43⟩ := k4 0
        go_quiet (fail)
        go_wp2_with fail
        go_ret
        exact ⟨rfl, H5.out.drewN _⟩
  · go_ret
    exact ⟨rfl, H1.out⟩
end Go.Proofs.Ytleoiejkipobbaa.Long
