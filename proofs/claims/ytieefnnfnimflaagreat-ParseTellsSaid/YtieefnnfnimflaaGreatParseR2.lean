/-
  What package parse's code does with a block of a file's bytes, and of a long text: takeData, text, takeName, takeLink. No statement is proved here.
-/
import Derived.Test.YtieefnnfnimflaaGreatParseR
import Derived.Deep.Cut
namespace Go.Proofs.YtieefnnfnimflaaGreat.Parse
open Go.RowKit Go.Proofs.YtieefnnfnimflaaGreat.Base Go.Proofs.YtieefnnfnimflaaGreat.Node Go.Proofs.YtieefnnfnimflaaGreat.Long

theorem cut_hi (b o n c : Nat) (m : Nat) (hi : m ≤ c) (hc : 0 < c) (w : World) : (Instr.slice 26 (.slice (some ⟨b, o, none⟩) n c) none (some (.int .i64 (m : Int))) none).run Tryz.prog w = .ok (.slice (some ⟨b, o, none⟩) m c) w := by
  have he : Tryz.prog.elem 26 = 5 := by kernel_rfl
  have hs : (sizeOf 5).run Tryz.prog w = .ok 1 w := by
    have hi : (Tryz.prog.info? 5).map (·.size) = some 1 := by kernel_rfl
    cases hq : Tryz.prog.info? 5 with
    | none => simp [hq] at hi
    | some i =>
      have : i.size = 1 := by simpa [hq] using hi
      simp [sizeOf, typeInfo, hq, this]
  rw [run_slice_h (P := Tryz.prog) w 26 _ _ _ (by rw [he]; exact Tryz.underlying26) .i64 _ (by omega) (by omega), he, hs]
  simp only [Result.andThen_ok, sliced]
  rw [if_neg (by omega)]
  simp only [Option.map_some, Addr.add_lit, Int.toNat_natCast, Nat.zero_mul, Nat.add_zero, Nat.sub_zero]
theorem cut_lo (b o n c : Nat) (m : Nat) (hi : m ≤ n) (hc : m < c) (w : World) : (Instr.slice 26 (.slice (some ⟨b, o, none⟩) n c) (some (.int .i64 (m : Int))) none none).run Tryz.prog w = .ok (.slice (some ⟨b, o + m, none⟩) (n - m) (c - m)) w := by
  have he : Tryz.prog.elem 26 = 5 := by kernel_rfl
  have hs : (sizeOf 5).run Tryz.prog w = .ok 1 w := by
    have hi : (Tryz.prog.info? 5).map (·.size) = some 1 := by kernel_rfl
    cases hq : Tryz.prog.info? 5 with
    | none => simp [hq] at hi
    | some i =>
      have : i.size = 1 := by simpa [hq] using hi
      simp [sizeOf, typeInfo, hq, this]
  rw [run_slice_l (P := Tryz.prog) w 26 _ _ _ (by rw [he]; exact Tryz.underlying26) .i64 _ (by omega) (by omega), he, hs]
  simp only [Result.andThen_ok, sliced]
  rw [if_neg (by omega)]
  simp only [Option.map_some, Addr.add_lit, Int.toNat_natCast, Nat.mul_one]

theorem bs_take (l : L) (m : Nat) : bs (l.take m) = (bs l).take m := by simp [bs, List.map_take]
set_option maxRecDepth 100000 in
set_option maxHeartbeats 400000 in
theorem data_s (g lo : Nat) (s : St) (v : Value) (q : Nat) (hq : s.left = (q : Int)) (h1 : 1 ≤ q) (h2 : q < 4611686018427387904) (b : L) (hb : b.length = 512) (A : Option Addr) (c : Nat) (w : World) (h : Lies w g lo s v []) (ha : RdA w A c (bs b)) :
    Calls Tryz.prog 65 #[.pointer (some ⟨g, 0, none⟩), .slice A b.length c] w fun e w' => Took g lo (dataS s b) w e w' := by
  have hcl := ha.length_le
  rw [bs_length] at hcl
  obtain ⟨bb, o, rfl, -⟩ := ha.at_ (j := 0) (by rw [bs_length]; omega)
  obtain ⟨m, hm⟩ : ∃ m, min q 512 = m := ⟨_, rfl⟩
  have hmin : min s.left 512 = (m : Int) := by omega
  have hsl := cut_hi bb o b.length c m (by omega) (by omega)
  have hcv := Num.str_of w w.heap.size (.slice (some ⟨bb, o, none⟩) m c) (b.take m) (by
    have ht := ha.take m
    unfold RdA at ht
    rwa [← bs_take, bs_length, List.length_take, Nat.min_eq_left (show m ≤ b.length by omega)] at ht)
  obtain ⟨T, hT⟩ : ∃ T, b.take m = T := ⟨_, rfl⟩
  rw [hT] at hcv
  have HT := Lib.hid hT
  obtain ⟨r, hr⟩ : ∃ r, s.left - (m : Int) = r := ⟨_, rfl⟩
  have hr1 : -9223372036854775808 ≤ s.left - (m : Int) := by omega
  have hr2 : s.left - (m : Int) < 9223372036854775808 := by omega
  have H := Lib.hid h
  obtain ⟨q0, q1, q2, q3, q4, q5, q6, q7, q8, q9, q10, q11, q12, q13, q14⟩ := h.cells
  have hz := h.free
  have HQ := Lib.hid hq
  have HM := Lib.hid hm
  have HR := Lib.hid hr
  have HB := Lib.hid hb
  clear hb hT hcl h1 h2 q0 q1 q2 q3 q4 q5 q6 q7 q8 q9 q11 q12 q13 q14 h ha hq hm hr
  go_enter Tryz.func65, Tryz.ntmps65
  go_upto_region 2 with (go_at_call 94; (refine (tell_v g lo s v [] ⟨1, zeroN, T⟩ _ (by rfl) (by simp) _ H.out).mono ?_); rintro e w1 ⟨rfl, v1, hv1, ht1⟩; have H1 := Lib.hid hv1; have K1 := Lib.hid (H.out.kp ht1); clear hv1 ht1 q10 hz; obtain ⟨q0, q1, q2, q3, q4, q5, q6, q7, q8, q9, q10, q11, q12, q13, q14⟩ := H1.out.cells; have hz := H1.out.free)
  clear q0 q1 q2 q3 q4 q5 q6 q7 q8 q9 q11 q12 q13 q14 hsl hcv hmin
  have Hl := Lib.hid (show Lies (w1.setCell ⟨g, 10, none⟩ (.int .i64 (s.left - (m : Int)))) g lo { s with left := s.left - (m : Int) } v1 ([] ++ [⟨1, zeroN, T⟩]) from ⟨H1.out.blk.put 10 _, H1.out.row.put H1.out.lt 10 _, H1.out.lt, Nat.le_trans H1.out.le ((Kp.refl g lo w1).put 10 _).size⟩)
  have K2 := Lib.hid (K1.out.put 10 (.int .i64 (s.left - (m : Int))))
  go_wp2_with (go_at_call 95; (refine (end_s g lo { s with left := s.left - (m : Int) } v1 ([] ++ [⟨1, zeroN, T⟩]) (by simp) _ Hl.out).mono ?_); rintro e w2 ⟨rfl, v2, hv2, ht2⟩; have H2 := Lib.hid hv2; have K3 := Lib.hid (K2.out.trans (Hl.out.kp ht2)); clear hv2 ht2)
  go_end0
  refine ⟨.inl ⟨?_, rfl, v2, ?_⟩, K3.out⟩
  · unfold dataS
    split <;> rfl
  · have h2 := H2.out
    have hm := HM.out
    have hq := HQ.out
    have hT := HT.out
    unfold dataS
    by_cases h : s.left ≤ 512
    · rw [if_pos h]
      have hz : s.left - (m : Int) = 0 := by omega
      rw [if_pos hz, if_pos hz] at h2
      rw [show s.left.toNat = m by omega, hT]
      exact h2
    · rw [if_neg h]
      have hz : ¬ s.left - (m : Int) = 0 := by omega
      rw [if_neg hz, if_neg hz] at h2
      obtain rfl : m = 512 := by omega
      rw [hT]
      exact h2

set_option maxRecDepth 100000 in
/-- The text that a block has, of a state that waits for so many bytes. -/
theorem text_p (g lo : Nat) (s : St) (v : Value) (q : Nat) (hq : s.size = (q : Int) + 1) (h1 : 1 ≤ q) (h2 : q ≤ 300) (b : L) (hb : b.length = 512) (A : Option Addr) (c : Nat) (w : World) (h : Lies w g lo s v []) (ha : RdA w A c (bs b)) :
    Calls Tryz.prog 93 #[.pointer (some ⟨g, 0, none⟩), .slice A b.length c] w fun e w' =>
      ((textL (b.take q) = true ∧ BlockM.zeroV (b.drop q) = true) ∧ e = .returned (.string ⟨(b.take q).toArray⟩) ∨ ¬ (textL (b.take q) = true ∧ BlockM.zeroV (b.drop q) = true) ∧ e = .panicked [pe 2]) ∧ Stp w w' := by
  have hcl := ha.length_le
  rw [bs_length] at hcl
  obtain ⟨bb, o, rfl, -⟩ := ha.at_ (j := 0) (by rw [bs_length]; omega)
  have hsl := cut_hi bb o b.length c q (by omega) (by omega)
  have hsl2 := cut_lo bb o b.length c q (by omega) (by omega)
  have hcv := Num.str_of w w.heap.size (.slice (some ⟨bb, o, none⟩) q c) (b.take q) (by
    have ht := ha.take q
    unfold RdA at ht
    rwa [← bs_take, bs_length, List.length_take, Nat.min_eq_left (show q ≤ b.length by omega)] at ht)
  obtain ⟨T, hT⟩ : ∃ T, b.take q = T := ⟨_, rfl⟩
  rw [hT] at hcv ⊢
  obtain ⟨D, hD⟩ : ∃ D, b.drop q = D := ⟨_, rfl⟩
  have hsub : Head.sub b q (512 - q) = D := by
    rw [← hD]
    exact List.take_of_length_le (by rw [List.length_drop]; omega)
  have hrd : RdA w (some ⟨bb, o + q, none⟩) (c - q) (bs D) := by
    have := Head.rd_sub ha (i := q) (n := 512 - q) (by omega)
    rw [hsub] at this
    unfold RdA
    rw [bs_length, ← hD, List.length_drop, hb]
    rwa [hD]
  have hDl : b.length - q = D.length := by rw [← hD, List.length_drop]
  rw [hD]
  rw [hDl] at hsl2
  obtain ⟨x, hx⟩ : ∃ x, textL T = x := ⟨_, rfl⟩
  obtain ⟨z, hz0⟩ : ∃ z, BlockM.zeroV D = z := ⟨_, rfl⟩
  rw [hx, hz0]
  have HX := Lib.hid hx
  have HZ := Lib.hid hz0
  have HR := Lib.hid hrd
  have HL := Lib.hid (show D.length < 9223372036854775808 by omega)
  have hsub2 : s.size - 1 = (q : Int) := by omega
  have H := Lib.hid h
  have h0 := Stp.refl w
  obtain ⟨q0, q1, q2, q3, q4, q5, q6, q7, q8, q9, q10, q11, q12, q13, q14⟩ := h.cells
  have g1 : -9223372036854775808 ≤ s.size - 1 := by omega
  have g2 : s.size - 1 < 9223372036854775808 := by omega
  have HB := Lib.hid hb
  clear q0 q1 q2 q3 q4 q5 q6 q7 q8 q10 q11 q12 q13 q14 h ha hq hb hcl hT hD hsub hrd hDl hx hz0 h1 h2
  go_enter Tryz.func93, Tryz.ntmps93
  go_wp2_with (first
    | (go_at_call 53; (with_reducible refine (text_s T _).mono ?_); rintro e w1 ⟨rfl, hs⟩; rw [HX.out]; have H1 := Lib.hid hs; have HR1 := Lib.hid (HR.out.keep hs); clear hs; rcases x)
    | (go_at_call 96; (with_reducible refine (Block.zero_s D _ _ _ HR1.out HL.out).mono ?_); rintro e w2 ⟨rfl, hs⟩; rw [HZ.out]; replace H1 := Lib.hid (Stp.trans H1.out hs); clear hs; rcases z)
    | (go_at_call 48; (refine (must_s _ 2 _).mono ?_); rintro e w2 ⟨⟨hb, rfl⟩ | ⟨hb, rfl⟩, rfl⟩ <;> cases hb))
  all_goals first
    | exact ⟨rfl, rfl, H1.out⟩
    | (go_ret; exact ⟨rfl, H1.out⟩)
    | exact ⟨rfl, .inr ⟨by simp, rfl⟩, H1.out⟩

end Go.Proofs.YtieefnnfnimflaaGreat.Parse
