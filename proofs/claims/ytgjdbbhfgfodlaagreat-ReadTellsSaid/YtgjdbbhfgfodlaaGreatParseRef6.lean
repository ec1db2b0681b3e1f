/-
  The document's own answers on parse: Step and Run, over head's contract. No statement is proved here.
  The document's own answers on parse: Run, over head's contract. No statement is proved here.
  The walk of the statement ParseTells over package parse's contracts and the like contracts of the document's answers: the statement itself is proved in a text of its own.
-/
import Derived.Test.YtgjdbbhfgfodlaaGreatParseRef3
import Derived.Test.YtgjdbbhfgfodlaaGreatParseStaysW
import Derived.Test.YtgjdbbhfgfodlaaGreatParseC
import Derived.Test.YtgjdbbhfgfodlaaGreatParseApp
import Derived.Deep.Cut
import Derived.Deep.CutRange
import Derived.Test.YtgjdbbhfgfodlaaGreatParseSafeW
import Derived.Test.YtgjdbbhfgfodlaaGreatEvq
namespace Go.Proofs.YtgjdbbhfgfodlaaGreat.Parse
open Go.RowKit Go.Proofs.YtgjdbbhfgfodlaaGreat.Str Go.Proofs.YtgjdbbhfgfodlaaGreat.Base Go.Proofs.YtgjdbbhfgfodlaaGreat.Node Go.Proofs.YtgjdbbhfgfodlaaGreat.Long

/-- A part's contract: of a state and a block of 512 bytes. -/
abbrev PartD (f : Nat) (s : St) (b : L) (a : Ans) : Prop := ∀ (v : Value), v = sv s → ∀ (A : Option Addr) (c : Nat) (w : World), RdA w A c (bs b) →
  Calls Tryz.prog f #[v, .slice A 512 c] w fun e w' => ∃ B d, e = .returned (.tuple #[sv a.1, .slice B a.2.1.length d, .int .i64 a.2.2]) ∧ RdE w' B d a.2.1 ∧ Stp w w'
def HeadD : Prop := ∀ (s : St) (b : L), mayS s = true → s.phase = 0 → SmallS s → b.length = 512 → PartD 29 s b (headS s b)

theorem rmay_v (s : St) (v : Value) (hv : v = sv s) (hs : SmallS s) (w : World) : Calls Tryz.prog 25 #[v] w fun e w' => e = .returned (.bool (mayS s)) ∧ Stp w w' := by
  subst hv
  exact rmay_st s hs w
theorem rtext_e (s : St) (hm : mayS s = true) (hp : s.phase = 1 ∨ s.phase = 2) (b : L) (hb : b.length = 512) : PartD 27 s b (textS s b) := by
  rintro v rfl A c w ha
  have h2 : 2 ≤ s.size ∧ s.size ≤ 301 := by
    rcases hp with h | h
    · have := (name_iff h).1 hm
      exact ⟨this.2.1.2.1, this.2.1.2.2.1⟩
    · have := (link_iff h).1 hm
      exact ⟨this.2.1.2.1, this.2.1.2.2.1⟩
  obtain ⟨q, hq⟩ : ∃ q : Nat, s.size = (q : Int) + 1 := ⟨(s.size - 1).toNat, by omega⟩
  have hq2 : s.size.toNat - 1 = q := by omega
  have := rtext_d s q hq (by omega) (by omega) b hb A c w ha
  rw [hb] at this
  refine this.mono ?_
  rintro e w' ⟨⟨hc, rfl⟩ | ⟨hc, rfl⟩, hs⟩
  · have ht : textS s b = (if s.phase = 1 then { s with phase := 0, size := 0, left := 0, name := b.take q } else { s with phase := 0, size := 0, left := 0, link := b.take q }, [], 0) := by
      unfold textS
      rw [hq2, if_pos hc]
    rw [ht]
    exact ⟨none, 0, rfl, RdE.nil _, hs⟩
  · have ht : textS s b = (s, [], 2) := by
      unfold textS
      rw [hq2, if_neg hc]
    rw [ht]
    exact ⟨none, 0, rfl, RdE.nil _, hs⟩
theorem rdata_e (s : St) (hm : mayS s = true) (hp : s.phase = 3) (b : L) (hb : b.length = 512) : PartD 28 s b (dataS s b) := by
  rintro v rfl A c w ha
  have := (data_iff hp).1 hm
  have he : (dataS s b).2.2 = 0 := by unfold dataS; split <;> rfl
  rw [he]
  exact rdata_d s (by omega) (by omega) b hb A c w ha

set_option maxRecDepth 100000 in
set_option maxHeartbeats 4000000 in
theorem rstep_no (HD : HeadD) (s : St) (hsm : SmallS s) (b : L) (hbl : b.length < 9223372036854775808) (hno : mayS s = false ∨ b.length ≠ 512) (A : Option Addr) (c : Nat) (w : World) (ha : RdA w A c (bs b)) :
    Calls Tryz.prog 23 #[sv s, .slice A b.length c] w fun e w' => ∃ B d, e = .returned (.tuple #[sv (stepS s b).1, .slice B (stepS s b).2.1.length d, .int .i64 (stepS s b).2.2]) ∧ RdE w' B d (stepS s b).2.1 ∧ Stp w w' := by
  have hs1 := Stp.alloc (Stp.alloc (Stp.refl w) (.cells (scells s) 50)) (.cells (scells zeroS) 50)
  have H0 := Lib.hid hs1
  have Hb := Lib.hid ((Blk.new w 50 (scells s)).alloc (.cells (scells zeroS) 50))
  have Hr := Lib.hid (Blk.new (w.alloc (.cells (scells s) 50)) 50 (scells zeroS))
  rw [World.size_alloc] at Hr
  obtain ⟨g0, hg0⟩ : ∃ x, w.heap.size = x := ⟨_, rfl⟩
  have HG0 := Lib.hid hg0
  rw [hg0] at Hb Hr
  have Ha := Lib.hid (ha.keep hs1)
  have HSm := Lib.hid hsm
  have HHD := Lib.hid HD
  have HBL := Lib.hid hbl
  have fin : ∀ (t : St) (W0 : World), Blk W0 (g0 + 1) 50 (scells zeroS) → Stp w W0 → Blk (fillA W0 (g0 + 1) t) (g0 + 1) 50 (scells t) ∧ Stp w (fillA W0 (g0 + 1) t) := fun t W0 h1 h2 => ⟨filla_blk t h1, filla_st t h2 (by have := HG0.out; omega)⟩
  have Fin := Lib.hid fin
  clear fin ha hsm HD hbl hs1
  obtain ⟨n, hn⟩ : ∃ n, b.length = n := ⟨_, rfl⟩
  have HN := Lib.hid hn
  rw [hn]
  obtain ⟨rr, hrr⟩ : ∃ rr, stepS s b = rr := ⟨_, rfl⟩
  rw [hrr]
  have HRR := Lib.hid hrr
  clear hrr
  obtain ⟨mq, hmq⟩ : ∃ x, mayS s = x := ⟨_, rfl⟩
  have HM := Lib.hid hmq
  have HNO := Lib.hid hno
  clear hn hmq hno
  obtain ⟨q0, q1, q2, q3, q4, q5, q6, q7, q8, q9, q10, q11, q12, q13⟩ := st_cells Hb.out
  go_enter Tryz.func23, Tryz.ntmps23
  go_upto_region 2 with (go_at_call 25; (with_reducible refine (rmay_v s _ rfl HSm.out _).mono ?_); rintro e w2 ⟨rfl, hs⟩; rw [HM.out]; replace H0 := Lib.hid (Stp.trans H0.out hs); replace Hb := Lib.hid (Hb.out.keep hs Hb.out.lt); replace Hr := Lib.hid (Hr.out.keep hs Hr.out.lt); replace Ha := Lib.hid (Ha.out.keep hs); clear hs q0 q1 q2 q3 q4 q5 q6 q7 q8 q9 q10 q11 q12 q13; obtain ⟨q0, q1, q2, q3, q4, q5, q6, q7, q8, q9, q10, q11, q12, q13⟩ := st_cells Hb.out)
  obtain ⟨r0, r1, r2, r3, r4, r5, r6, r7, r8, r9, r10, r11, r12, r13⟩ := st_cells Hr.out
  have hz := rfree Hr.out
  cases mq
  · have hX : stepS s b = (s, [], 1) := by unfold stepS; rw [if_pos (.inl HM.out)]
    have He := Lib.hid (HRR.out.symm.trans hX)
    clear hX
    go_wp2_with fail
    change bodyPost _ _ _ _ _ (fillA w2 (g0 + 1) s)
    obtain ⟨hB, hW⟩ := Fin.out s w2 Hr.out H0.out
    generalize fillA w2 (g0 + 1) s = W7 at hB hW ⊢
    clear q0 q1 q2 q3 q4 q5 q6 q7 q8 q9 q10 q11 q12 q13 r0 r1 r2 r3 r4 r5 r6 r7 r8 r9 r10 r11 r12 r13 hz
    obtain ⟨r0, r1, r2, r3, r4, r5, r6, r7, r8, r9, r10, r11, r12, r13⟩ := st_cells hB
    exact bodyPost_ret (v := .tuple #[sv s, .slice none 0 0, .int .i64 1]) (by simp [results, Tryz.results23, go_sem, r0, r1, r2, r3, r4, r5, r6, r7, r8, r9, r10, r11, r12, r13]) rfl ⟨none, 0, by rw [He.out]; rfl, by rw [He.out]; exact RdE.nil _, hW⟩

  have h512 : n ≠ 512 := by
    intro e
    rcases HNO.out with h | h
    · rw [HM.out] at h; cases h
    · exact h (by rw [HN.out]; exact e)
  have hX : stepS s b = (s, [], 1) := by unfold stepS; rw [if_pos (.inr (by rw [HN.out]; exact h512))]
  have He := Lib.hid (HRR.out.symm.trans hX)
  have k1 : ((n : Int) != 512) = true := by rw [bne_iff_ne]; omega
  clear hX h512
  go_wp2_with fail
  change bodyPost _ _ _ _ _ (fillA w2 (g0 + 1) s)
  obtain ⟨hB, hW⟩ := Fin.out s w2 Hr.out H0.out
  generalize fillA w2 (g0 + 1) s = W7 at hB hW ⊢
  clear q0 q1 q2 q3 q4 q5 q6 q7 q8 q9 q10 q11 q12 q13 r0 r1 r2 r3 r4 r5 r6 r7 r8 r9 r10 r11 r12 r13 hz
  obtain ⟨r0, r1, r2, r3, r4, r5, r6, r7, r8, r9, r10, r11, r12, r13⟩ := st_cells hB
  exact bodyPost_ret (v := .tuple #[sv s, .slice none 0 0, .int .i64 1]) (by simp [results, Tryz.results23, go_sem, r0, r1, r2, r3, r4, r5, r6, r7, r8, r9, r10, r11, r12, r13]) rfl ⟨none, 0, by rw [He.out]; rfl, by rw [He.out]; exact RdE.nil _, hW⟩

set_option maxRecDepth 100000 in
set_option maxHeartbeats 4000000 in
theorem rstep_end (HD : HeadD) (s : St) (hsm : SmallS s) (b : L) (hbl : b.length < 9223372036854775808) (hm : mayS s = true) (h512 : b.length = 512) (hp : s.phase = 5) (A : Option Addr) (c : Nat) (w : World) (ha : RdA w A c (bs b)) :
    Calls Tryz.prog 23 #[sv s, .slice A b.length c] w fun e w' => ∃ B d, e = .returned (.tuple #[sv (stepS s b).1, .slice B (stepS s b).2.1.length d, .int .i64 (stepS s b).2.2]) ∧ RdE w' B d (stepS s b).2.1 ∧ Stp w w' := by
  have hs1 := Stp.alloc (Stp.alloc (Stp.refl w) (.cells (scells s) 50)) (.cells (scells zeroS) 50)
  have H0 := Lib.hid hs1
  have Hb := Lib.hid ((Blk.new w 50 (scells s)).alloc (.cells (scells zeroS) 50))
  have Hr := Lib.hid (Blk.new (w.alloc (.cells (scells s) 50)) 50 (scells zeroS))
  rw [World.size_alloc] at Hr
  obtain ⟨g0, hg0⟩ : ∃ x, w.heap.size = x := ⟨_, rfl⟩
  have HG0 := Lib.hid hg0
  rw [hg0] at Hb Hr
  have Ha := Lib.hid (ha.keep hs1)
  have HSm := Lib.hid hsm
  have HHD := Lib.hid HD
  have HBL := Lib.hid hbl
  have fin : ∀ (t : St) (W0 : World), Blk W0 (g0 + 1) 50 (scells zeroS) → Stp w W0 → Blk (fillA W0 (g0 + 1) t) (g0 + 1) 50 (scells t) ∧ Stp w (fillA W0 (g0 + 1) t) := fun t W0 h1 h2 => ⟨filla_blk t h1, filla_st t h2 (by have := HG0.out; omega)⟩
  have Fin := Lib.hid fin
  clear fin ha hsm HD hbl hs1
  have HN := Lib.hid h512
  rw [h512]
  have HP0 := Lib.hid hp
  obtain ⟨rr, hrr⟩ : ∃ rr, stepS s b = rr := ⟨_, rfl⟩
  rw [hrr]
  have HRR := Lib.hid hrr
  clear hrr
  have HM := Lib.hid hm
  clear h512 hm hp
  obtain ⟨q0, q1, q2, q3, q4, q5, q6, q7, q8, q9, q10, q11, q12, q13⟩ := st_cells Hb.out
  go_enter Tryz.func23, Tryz.ntmps23
  go_upto_region 2 with (go_at_call 25; (with_reducible refine (rmay_v s _ rfl HSm.out _).mono ?_); rintro e w2 ⟨rfl, hs⟩; rw [HM.out]; replace H0 := Lib.hid (Stp.trans H0.out hs); replace Hb := Lib.hid (Hb.out.keep hs Hb.out.lt); replace Hr := Lib.hid (Hr.out.keep hs Hr.out.lt); replace Ha := Lib.hid (Ha.out.keep hs); clear hs q0 q1 q2 q3 q4 q5 q6 q7 q8 q9 q10 q11 q12 q13; obtain ⟨q0, q1, q2, q3, q4, q5, q6, q7, q8, q9, q10, q11, q12, q13⟩ := st_cells Hb.out)
  obtain ⟨r0, r1, r2, r3, r4, r5, r6, r7, r8, r9, r10, r11, r12, r13⟩ := st_cells Hr.out
  have hz := rfree Hr.out
  have HA2 := Lib.hid (show ¬ (mayS s = false ∨ b.length ≠ 512) by rw [HM.out, HN.out]; simp)
  have Hlz := Lib.hid (show RdA w2 A c (bs b) from Ha.out)
  obtain ⟨z, hz0⟩ : ∃ x, BlockM.zeroV b = x := ⟨_, rfl⟩
  have HZ := Lib.hid hz0
  have hzc : ∀ W : World, RdA W A c (bs b) → Calls Tryz.prog 26 #[.slice A 512 c] W fun e w' => e = .returned (.bool z) ∧ Stp W w' := by
    intro W hW
    have := Block.rzero_s b A c W hW HBL.out
    rw [HN.out, hz0] at this
    exact this
  have HZC := Lib.hid hzc
  clear hzc hz0
  go_upto_region 5 with (go_at_call 26; (with_reducible refine (HZC.out _ Ha.out).mono ?_); rintro e w3 ⟨rfl, hs⟩; replace H0 := Lib.hid (Stp.trans H0.out hs); replace Hb := Lib.hid (Hb.out.keep hs Hb.out.lt); replace Hr := Lib.hid (Hr.out.keep hs Hr.out.lt); replace Ha := Lib.hid (Ha.out.keep hs); clear hs hz q0 q1 q2 q3 q4 q5 q6 q7 q8 q9 q10 q11 q12 q13 r0 r1 r2 r3 r4 r5 r6 r7 r8 r9 r10 r11 r12 r13; obtain ⟨q0, q1, q2, q3, q4, q5, q6, q7, q8, q9, q10, q11, q12, q13⟩ := st_cells Hb.out; obtain ⟨r0, r1, r2, r3, r4, r5, r6, r7, r8, r9, r10, r11, r12, r13⟩ := st_cells Hr.out; have hz := rfree Hr.out)
  have hp := HP0.out
  have hX : stepS s b = (s, [], 17) := by unfold stepS; rw [if_neg HA2.out, if_pos hp]
  have He := Lib.hid (HRR.out.symm.trans hX)
  have p5 : (s.phase == 5) = true := by rw [hp]; rfl
  clear hX hp
  go_wp2_with fail
  change bodyPost _ _ _ _ _ (fillA w3 (g0 + 1) s)
  obtain ⟨hB, hW⟩ := Fin.out s w3 Hr.out H0.out
  generalize fillA w3 (g0 + 1) s = W7 at hB hW ⊢
  clear q0 q1 q2 q3 q4 q5 q6 q7 q8 q9 q10 q11 q12 q13 r0 r1 r2 r3 r4 r5 r6 r7 r8 r9 r10 r11 r12 r13 hz
  obtain ⟨r0, r1, r2, r3, r4, r5, r6, r7, r8, r9, r10, r11, r12, r13⟩ := st_cells hB
  exact bodyPost_ret (v := .tuple #[sv s, .slice none 0 0, .int .i64 17]) (by simp [results, Tryz.results23, go_sem, r0, r1, r2, r3, r4, r5, r6, r7, r8, r9, r10, r11, r12, r13]) rfl ⟨none, 0, by rw [He.out]; rfl, by rw [He.out]; exact RdE.nil _, hW⟩

set_option maxRecDepth 100000 in
set_option maxHeartbeats 4000000 in
theorem rstep_zero (HD : HeadD) (s : St) (hsm : SmallS s) (b : L) (hbl : b.length < 9223372036854775808) (hm : mayS s = true) (h512 : b.length = 512) (hp : s.phase = 4) (A : Option Addr) (c : Nat) (w : World) (ha : RdA w A c (bs b)) :
    Calls Tryz.prog 23 #[sv s, .slice A b.length c] w fun e w' => ∃ B d, e = .returned (.tuple #[sv (stepS s b).1, .slice B (stepS s b).2.1.length d, .int .i64 (stepS s b).2.2]) ∧ RdE w' B d (stepS s b).2.1 ∧ Stp w w' := by
  have hs1 := Stp.alloc (Stp.alloc (Stp.refl w) (.cells (scells s) 50)) (.cells (scells zeroS) 50)
  have H0 := Lib.hid hs1
  have Hb := Lib.hid ((Blk.new w 50 (scells s)).alloc (.cells (scells zeroS) 50))
  have Hr := Lib.hid (Blk.new (w.alloc (.cells (scells s) 50)) 50 (scells zeroS))
  rw [World.size_alloc] at Hr
  obtain ⟨g0, hg0⟩ : ∃ x, w.heap.size = x := ⟨_, rfl⟩
  have HG0 := Lib.hid hg0
  rw [hg0] at Hb Hr
  have Ha := Lib.hid (ha.keep hs1)
  have HSm := Lib.hid hsm
  have HHD := Lib.hid HD
  have HBL := Lib.hid hbl
  have fin : ∀ (t : St) (W0 : World), Blk W0 (g0 + 1) 50 (scells zeroS) → Stp w W0 → Blk (fillA W0 (g0 + 1) t) (g0 + 1) 50 (scells t) ∧ Stp w (fillA W0 (g0 + 1) t) := fun t W0 h1 h2 => ⟨filla_blk t h1, filla_st t h2 (by have := HG0.out; omega)⟩
  have Fin := Lib.hid fin
  clear fin ha hsm HD hbl hs1
  have HN := Lib.hid h512
  rw [h512]
  have HP0 := Lib.hid hp
  obtain ⟨rr, hrr⟩ : ∃ rr, stepS s b = rr := ⟨_, rfl⟩
  rw [hrr]
  have HRR := Lib.hid hrr
  clear hrr
  have HM := Lib.hid hm
  clear h512 hm hp
  obtain ⟨q0, q1, q2, q3, q4, q5, q6, q7, q8, q9, q10, q11, q12, q13⟩ := st_cells Hb.out
  go_enter Tryz.func23, Tryz.ntmps23
  go_upto_region 2 with (go_at_call 25; (with_reducible refine (rmay_v s _ rfl HSm.out _).mono ?_); rintro e w2 ⟨rfl, hs⟩; rw [HM.out]; replace H0 := Lib.hid (Stp.trans H0.out hs); replace Hb := Lib.hid (Hb.out.keep hs Hb.out.lt); replace Hr := Lib.hid (Hr.out.keep hs Hr.out.lt); replace Ha := Lib.hid (Ha.out.keep hs); clear hs q0 q1 q2 q3 q4 q5 q6 q7 q8 q9 q10 q11 q12 q13; obtain ⟨q0, q1, q2, q3, q4, q5, q6, q7, q8, q9, q10, q11, q12, q13⟩ := st_cells Hb.out)
  obtain ⟨r0, r1, r2, r3, r4, r5, r6, r7, r8, r9, r10, r11, r12, r13⟩ := st_cells Hr.out
  have hz := rfree Hr.out
  have HA2 := Lib.hid (show ¬ (mayS s = false ∨ b.length ≠ 512) by rw [HM.out, HN.out]; simp)
  have Hlz := Lib.hid (show RdA w2 A c (bs b) from Ha.out)
  obtain ⟨z, hz0⟩ : ∃ x, BlockM.zeroV b = x := ⟨_, rfl⟩
  have HZ := Lib.hid hz0
  have hzc : ∀ W : World, RdA W A c (bs b) → Calls Tryz.prog 26 #[.slice A 512 c] W fun e w' => e = .returned (.bool z) ∧ Stp W w' := by
    intro W hW
    have := Block.rzero_s b A c W hW HBL.out
    rw [HN.out, hz0] at this
    exact this
  have HZC := Lib.hid hzc
  clear hzc hz0
  go_upto_region 5 with (go_at_call 26; (with_reducible refine (HZC.out _ Ha.out).mono ?_); rintro e w3 ⟨rfl, hs⟩; replace H0 := Lib.hid (Stp.trans H0.out hs); replace Hb := Lib.hid (Hb.out.keep hs Hb.out.lt); replace Hr := Lib.hid (Hr.out.keep hs Hr.out.lt); replace Ha := Lib.hid (Ha.out.keep hs); clear hs hz q0 q1 q2 q3 q4 q5 q6 q7 q8 q9 q10 q11 q12 q13 r0 r1 r2 r3 r4 r5 r6 r7 r8 r9 r10 r11 r12 r13; obtain ⟨q0, q1, q2, q3, q4, q5, q6, q7, q8, q9, q10, q11, q12, q13⟩ := st_cells Hb.out; obtain ⟨r0, r1, r2, r3, r4, r5, r6, r7, r8, r9, r10, r11, r12, r13⟩ := st_cells Hr.out; have hz := rfree Hr.out)
  have hp := HP0.out
  cases z
  · have hX : stepS s b = (s, [], 2) := by unfold stepS; rw [if_neg HA2.out, if_neg (by omega), if_pos hp, if_neg (by rw [HZ.out]; decide)]
    have He := Lib.hid (HRR.out.symm.trans hX)
    have p5 : (s.phase == 5) = false := by rw [hp]; rfl
    have p4 : (s.phase == 4) = true := by rw [hp]; rfl
    clear hX hp
    go_wp2_with fail
    change bodyPost _ _ _ _ _ (fillA w3 (g0 + 1) s)
    obtain ⟨hB, hW⟩ := Fin.out s w3 Hr.out H0.out
    generalize fillA w3 (g0 + 1) s = W7 at hB hW ⊢
    clear q0 q1 q2 q3 q4 q5 q6 q7 q8 q9 q10 q11 q12 q13 r0 r1 r2 r3 r4 r5 r6 r7 r8 r9 r10 r11 r12 r13 hz
    obtain ⟨r0, r1, r2, r3, r4, r5, r6, r7, r8, r9, r10, r11, r12, r13⟩ := st_cells hB
    exact bodyPost_ret (v := .tuple #[sv s, .slice none 0 0, .int .i64 2]) (by simp [results, Tryz.results23, go_sem, r0, r1, r2, r3, r4, r5, r6, r7, r8, r9, r10, r11, r12, r13]) rfl ⟨none, 0, by rw [He.out]; rfl, by rw [He.out]; exact RdE.nil _, hW⟩
  · have hX : stepS s b = (phS 5, [], 0) := by unfold stepS; rw [if_neg HA2.out, if_neg (by omega), if_pos hp, if_pos HZ.out]
    have He := Lib.hid (HRR.out.symm.trans hX)
    have p5 : (s.phase == 5) = false := by rw [hp]; rfl
    have p4 : (s.phase == 4) = true := by rw [hp]; rfl
    clear hX hp
    go_wp2_with fail
    change bodyPost _ _ _ _ _ (fillA w3 (g0 + 1) (phS 5))
    obtain ⟨hB, hW⟩ := Fin.out (phS 5) w3 Hr.out H0.out
    generalize fillA w3 (g0 + 1) (phS 5) = W7 at hB hW ⊢
    clear q0 q1 q2 q3 q4 q5 q6 q7 q8 q9 q10 q11 q12 q13 r0 r1 r2 r3 r4 r5 r6 r7 r8 r9 r10 r11 r12 r13 hz
    obtain ⟨r0, r1, r2, r3, r4, r5, r6, r7, r8, r9, r10, r11, r12, r13⟩ := st_cells hB
    exact bodyPost_ret (v := .tuple #[sv (phS 5), .slice none 0 0, .int .i64 0]) (by simp [results, Tryz.results23, go_sem, r0, r1, r2, r3, r4, r5, r6, r7, r8, r9, r10, r11, r12, r13]) rfl ⟨none, 0, by rw [He.out]; rfl, by rw [He.out]; exact RdE.nil _, hW⟩

set_option maxRecDepth 100000 in
set_option maxHeartbeats 4000000 in
theorem rstep_name (HD : HeadD) (s : St) (hsm : SmallS s) (b : L) (hbl : b.length < 9223372036854775808) (hm : mayS s = true) (h512 : b.length = 512) (hp : s.phase = 1) (A : Option Addr) (c : Nat) (w : World) (ha : RdA w A c (bs b)) :
    Calls Tryz.prog 23 #[sv s, .slice A b.length c] w fun e w' => ∃ B d, e = .returned (.tuple #[sv (stepS s b).1, .slice B (stepS s b).2.1.length d, .int .i64 (stepS s b).2.2]) ∧ RdE w' B d (stepS s b).2.1 ∧ Stp w w' := by
  have hs1 := Stp.alloc (Stp.alloc (Stp.refl w) (.cells (scells s) 50)) (.cells (scells zeroS) 50)
  have H0 := Lib.hid hs1
  have Hb := Lib.hid ((Blk.new w 50 (scells s)).alloc (.cells (scells zeroS) 50))
  have Hr := Lib.hid (Blk.new (w.alloc (.cells (scells s) 50)) 50 (scells zeroS))
  rw [World.size_alloc] at Hr
  obtain ⟨g0, hg0⟩ : ∃ x, w.heap.size = x := ⟨_, rfl⟩
  have HG0 := Lib.hid hg0
  rw [hg0] at Hb Hr
  have Ha := Lib.hid (ha.keep hs1)
  have HSm := Lib.hid hsm
  have HHD := Lib.hid HD
  have HBL := Lib.hid hbl
  have fin : ∀ (t : St) (W0 : World), Blk W0 (g0 + 1) 50 (scells zeroS) → Stp w W0 → Blk (fillA W0 (g0 + 1) t) (g0 + 1) 50 (scells t) ∧ Stp w (fillA W0 (g0 + 1) t) := fun t W0 h1 h2 => ⟨filla_blk t h1, filla_st t h2 (by have := HG0.out; omega)⟩
  have Fin := Lib.hid fin
  clear fin ha hsm HD hbl hs1
  have HN := Lib.hid h512
  rw [h512]
  have HP0 := Lib.hid hp
  obtain ⟨rr, hrr⟩ : ∃ rr, stepS s b = rr := ⟨_, rfl⟩
  rw [hrr]
  have HRR := Lib.hid hrr
  clear hrr
  have HM := Lib.hid hm
  clear h512 hm hp
  obtain ⟨q0, q1, q2, q3, q4, q5, q6, q7, q8, q9, q10, q11, q12, q13⟩ := st_cells Hb.out
  go_enter Tryz.func23, Tryz.ntmps23
  go_upto_region 2 with (go_at_call 25; (with_reducible refine (rmay_v s _ rfl HSm.out _).mono ?_); rintro e w2 ⟨rfl, hs⟩; rw [HM.out]; replace H0 := Lib.hid (Stp.trans H0.out hs); replace Hb := Lib.hid (Hb.out.keep hs Hb.out.lt); replace Hr := Lib.hid (Hr.out.keep hs Hr.out.lt); replace Ha := Lib.hid (Ha.out.keep hs); clear hs q0 q1 q2 q3 q4 q5 q6 q7 q8 q9 q10 q11 q12 q13; obtain ⟨q0, q1, q2, q3, q4, q5, q6, q7, q8, q9, q10, q11, q12, q13⟩ := st_cells Hb.out)
  obtain ⟨r0, r1, r2, r3, r4, r5, r6, r7, r8, r9, r10, r11, r12, r13⟩ := st_cells Hr.out
  have hz := rfree Hr.out
  have HA2 := Lib.hid (show ¬ (mayS s = false ∨ b.length ≠ 512) by rw [HM.out, HN.out]; simp)
  have Hlz := Lib.hid (show RdA w2 A c (bs b) from Ha.out)
  obtain ⟨z, hz0⟩ : ∃ x, BlockM.zeroV b = x := ⟨_, rfl⟩
  have HZ := Lib.hid hz0
  have hzc : ∀ W : World, RdA W A c (bs b) → Calls Tryz.prog 26 #[.slice A 512 c] W fun e w' => e = .returned (.bool z) ∧ Stp W w' := by
    intro W hW
    have := Block.rzero_s b A c W hW HBL.out
    rw [HN.out, hz0] at this
    exact this
  have HZC := Lib.hid hzc
  clear hzc hz0
  go_upto_region 5 with (go_at_call 26; (with_reducible refine (HZC.out _ Ha.out).mono ?_); rintro e w3 ⟨rfl, hs⟩; replace H0 := Lib.hid (Stp.trans H0.out hs); replace Hb := Lib.hid (Hb.out.keep hs Hb.out.lt); replace Hr := Lib.hid (Hr.out.keep hs Hr.out.lt); replace Ha := Lib.hid (Ha.out.keep hs); clear hs hz q0 q1 q2 q3 q4 q5 q6 q7 q8 q9 q10 q11 q12 q13 r0 r1 r2 r3 r4 r5 r6 r7 r8 r9 r10 r11 r12 r13; obtain ⟨q0, q1, q2, q3, q4, q5, q6, q7, q8, q9, q10, q11, q12, q13⟩ := st_cells Hb.out; obtain ⟨r0, r1, r2, r3, r4, r5, r6, r7, r8, r9, r10, r11, r12, r13⟩ := st_cells Hr.out; have hz := rfree Hr.out)
  have hp := HP0.out
  have hX0 : stepS s b = textS s b := by unfold stepS; rw [if_neg HA2.out, if_neg (by omega), if_neg (by omega), if_pos (.inl hp)]
  have HP := Lib.hid (show s.phase = 1 ∨ s.phase = 2 from .inl hp)
  have p5 : (s.phase == 5) = false := by rw [hp]; rfl
  have p4 : (s.phase == 4) = false := by rw [hp]; rfl
  have p1 : (s.phase == 1) = true := by rw [hp]; rfl
  clear hp
  obtain ⟨t, y, e0, hst⟩ : ∃ t y e0, textS s b = (t, y, e0) := ⟨_, _, _, rfl⟩
  have hX : stepS s b = (t, y, e0) := by rw [← hst]; exact hX0
  have He := Lib.hid (HRR.out.symm.trans hX)
  have HC := Lib.hid (rtext_e s HM.out HP.out b HN.out)
  rw [hst] at HC
  clear hst hX hX0
  go_upto_region 15 with (go_at_call 27; (with_reducible refine (HC.out _ rfl A c _ Ha.out).mono ?_); rintro e w4 ⟨B2, d2, rfl, hE, hs⟩; have HE := Lib.hid hE; have Hr4 := Lib.hid (Hr.out.keep hs Hr.out.lt); have H4 := Lib.hid (Stp.trans H0.out hs); clear hE hs q0 q1 q2 q3 q4 q5 q6 q7 q8 q9 q10 q11 q12 q13 r0 r1 r2 r3 r4 r5 r6 r7 r8 r9 r10 r11 r12 r13 hz)
  obtain ⟨g1, hg1⟩ : ∃ x, w4.heap.size = x := ⟨_, rfl⟩
  have Ht := Lib.hid (Blk.new w4 50 (scells t))
  have hs4 := Stp.alloc (Stp.refl w4) (.cells (scells t) 50)
  obtain ⟨w5, hw5⟩ : ∃ x, w4.alloc (.cells (scells t) 50) = x := ⟨_, rfl⟩
  have hw6 := hw5
  simp only [Parse.scells] at hw6
  rw [hw5] at Ht hs4
  rw [hg1] at Ht
  have Hr5 := Lib.hid (Hr4.out.keep hs4 Hr4.out.lt)
  have H5 := Lib.hid (Stp.trans H4.out hs4)
  have hE5 := HE.out.keep hs4
  have HE5 := Lib.hid hE5
  simp only [hg1]
  rw [hw6]
  clear hw5 hw6 hg1 hs4 hE5
  obtain ⟨m0, m1, m2, m3, m4, m5, m6, m7, m8, m9, m10, m11, m12, m13⟩ := st_cells Ht.out
  obtain ⟨r0, r1, r2, r3, r4, r5, r6, r7, r8, r9, r10, r11, r12, r13⟩ := st_cells Hr5.out
  have hz := rfree Hr5.out
  go_wp2_with fail
  change bodyPost _ _ _ _ _ (fillA w5 (g0 + 1) t)
  obtain ⟨hB, hW⟩ := Fin.out t w5 Hr5.out H5.out
  have hE := filla_keepE t HE5.out Hr5.out
  generalize fillA w5 (g0 + 1) t = W7 at hB hW hE ⊢
  clear m0 m1 m2 m3 m4 m5 m6 m7 m8 m9 m10 m11 m12 m13 r0 r1 r2 r3 r4 r5 r6 r7 r8 r9 r10 r11 r12 r13 hz
  obtain ⟨r0, r1, r2, r3, r4, r5, r6, r7, r8, r9, r10, r11, r12, r13⟩ := st_cells hB
  exact bodyPost_ret (v := .tuple #[sv t, .slice B2 y.length d2, .int .i64 e0]) (by simp [results, Tryz.results23, go_sem, r0, r1, r2, r3, r4, r5, r6, r7, r8, r9, r10, r11, r12, r13]) rfl ⟨B2, d2, by rw [He.out], by rw [He.out]; exact hE, hW⟩

set_option maxRecDepth 100000 in
set_option maxHeartbeats 4000000 in
theorem rstep_link (HD : HeadD) (s : St) (hsm : SmallS s) (b : L) (hbl : b.length < 9223372036854775808) (hm : mayS s = true) (h512 : b.length = 512) (hp : s.phase = 2) (A : Option Addr) (c : Nat) (w : World) (ha : RdA w A c (bs b)) :
    Calls Tryz.prog 23 #[sv s, .slice A b.length c] w fun e w' => ∃ B d, e = .returned (.tuple #[sv (stepS s b).1, .slice B (stepS s b).2.1.length d, .int .i64 (stepS s b).2.2]) ∧ RdE w' B d (stepS s b).2.1 ∧ Stp w w' := by
  have hs1 := Stp.alloc (Stp.alloc (Stp.refl w) (.cells (scells s) 50)) (.cells (scells zeroS) 50)
  have H0 := Lib.hid hs1
  have Hb := Lib.hid ((Blk.new w 50 (scells s)).alloc (.cells (scells zeroS) 50))
  have Hr := Lib.hid (Blk.new (w.alloc (.cells (scells s) 50)) 50 (scells zeroS))
  rw [World.size_alloc] at Hr
  obtain ⟨g0, hg0⟩ : ∃ x, w.heap.size = x := ⟨_, rfl⟩
  have HG0 := Lib.hid hg0
  rw [hg0] at Hb Hr
  have Ha := Lib.hid (ha.keep hs1)
  have HSm := Lib.hid hsm
  have HHD := Lib.hid HD
  have HBL := Lib.hid hbl
  have fin : ∀ (t : St) (W0 : World), Blk W0 (g0 + 1) 50 (scells zeroS) → Stp w W0 → Blk (fillA W0 (g0 + 1) t) (g0 + 1) 50 (scells t) ∧ Stp w (fillA W0 (g0 + 1) t) := fun t W0 h1 h2 => ⟨filla_blk t h1, filla_st t h2 (by have := HG0.out; omega)⟩
  have Fin := Lib.hid fin
  clear fin ha hsm HD hbl hs1
  have HN := Lib.hid h512
  rw [h512]
  have HP0 := Lib.hid hp
  obtain ⟨rr, hrr⟩ : ∃ rr, stepS s b = rr := ⟨_, rfl⟩
  rw [hrr]
  have HRR := Lib.hid hrr
  clear hrr
  have HM := Lib.hid hm
  clear h512 hm hp
  obtain ⟨q0, q1, q2, q3, q4, q5, q6, q7, q8, q9, q10, q11, q12, q13⟩ := st_cells Hb.out
  go_enter Tryz.func23, Tryz.ntmps23
  go_upto_region 2 with (go_at_call 25; (with_reducible refine (rmay_v s _ rfl HSm.out _).mono ?_); rintro e w2 ⟨rfl, hs⟩; rw [HM.out]; replace H0 := Lib.hid (Stp.trans H0.out hs); replace Hb := Lib.hid (Hb.out.keep hs Hb.out.lt); replace Hr := Lib.hid (Hr.out.keep hs Hr.out.lt); replace Ha := Lib.hid (Ha.out.keep hs); clear hs q0 q1 q2 q3 q4 q5 q6 q7 q8 q9 q10 q11 q12 q13; obtain ⟨q0, q1, q2, q3, q4, q5, q6, q7, q8, q9, q10, q11, q12, q13⟩ := st_cells Hb.out)
  obtain ⟨r0, r1, r2, r3, r4, r5, r6, r7, r8, r9, r10, r11, r12, r13⟩ := st_cells Hr.out
  have hz := rfree Hr.out
  have HA2 := Lib.hid (show ¬ (mayS s = false ∨ b.length ≠ 512) by rw [HM.out, HN.out]; simp)
  have Hlz := Lib.hid (show RdA w2 A c (bs b) from Ha.out)
  obtain ⟨z, hz0⟩ : ∃ x, BlockM.zeroV b = x := ⟨_, rfl⟩
  have HZ := Lib.hid hz0
  have hzc : ∀ W : World, RdA W A c (bs b) → Calls Tryz.prog 26 #[.slice A 512 c] W fun e w' => e = .returned (.bool z) ∧ Stp W w' := by
    intro W hW
    have := Block.rzero_s b A c W hW HBL.out
    rw [HN.out, hz0] at this
    exact this
  have HZC := Lib.hid hzc
  clear hzc hz0
  go_upto_region 5 with (go_at_call 26; (with_reducible refine (HZC.out _ Ha.out).mono ?_); rintro e w3 ⟨rfl, hs⟩; replace H0 := Lib.hid (Stp.trans H0.out hs); replace Hb := Lib.hid (Hb.out.keep hs Hb.out.lt); replace Hr := Lib.hid (Hr.out.keep hs Hr.out.lt); replace Ha := Lib.hid (Ha.out.keep hs); clear hs hz q0 q1 q2 q3 q4 q5 q6 q7 q8 q9 q10 q11 q12 q13 r0 r1 r2 r3 r4 r5 r6 r7 r8 r9 r10 r11 r12 r13; obtain ⟨q0, q1, q2, q3, q4, q5, q6, q7, q8, q9, q10, q11, q12, q13⟩ := st_cells Hb.out; obtain ⟨r0, r1, r2, r3, r4, r5, r6, r7, r8, r9, r10, r11, r12, r13⟩ := st_cells Hr.out; have hz := rfree Hr.out)
  have hp := HP0.out
  have hX0 : stepS s b = textS s b := by unfold stepS; rw [if_neg HA2.out, if_neg (by omega), if_neg (by omega), if_pos (.inr hp)]
  have HP := Lib.hid (show s.phase = 1 ∨ s.phase = 2 from .inr hp)
  have p5 : (s.phase == 5) = false := by rw [hp]; rfl
  have p4 : (s.phase == 4) = false := by rw [hp]; rfl
  have p1 : (s.phase == 1) = false := by rw [hp]; rfl
  have p2 : (s.phase == 2) = true := by rw [hp]; rfl
  clear hp
  obtain ⟨t, y, e0, hst⟩ : ∃ t y e0, textS s b = (t, y, e0) := ⟨_, _, _, rfl⟩
  have hX : stepS s b = (t, y, e0) := by rw [← hst]; exact hX0
  have He := Lib.hid (HRR.out.symm.trans hX)
  have HC := Lib.hid (rtext_e s HM.out HP.out b HN.out)
  rw [hst] at HC
  clear hst hX hX0
  go_upto_region 15 with (go_at_call 27; (with_reducible refine (HC.out _ rfl A c _ Ha.out).mono ?_); rintro e w4 ⟨B2, d2, rfl, hE, hs⟩; have HE := Lib.hid hE; have Hr4 := Lib.hid (Hr.out.keep hs Hr.out.lt); have H4 := Lib.hid (Stp.trans H0.out hs); clear hE hs q0 q1 q2 q3 q4 q5 q6 q7 q8 q9 q10 q11 q12 q13 r0 r1 r2 r3 r4 r5 r6 r7 r8 r9 r10 r11 r12 r13 hz)
  obtain ⟨g1, hg1⟩ : ∃ x, w4.heap.size = x := ⟨_, rfl⟩
  have Ht := Lib.hid (Blk.new w4 50 (scells t))
  have hs4 := Stp.alloc (Stp.refl w4) (.cells (scells t) 50)
  obtain ⟨w5, hw5⟩ : ∃ x, w4.alloc (.cells (scells t) 50) = x := ⟨_, rfl⟩
  have hw6 := hw5
  simp only [Parse.scells] at hw6
  rw [hw5] at Ht hs4
  rw [hg1] at Ht
  have Hr5 := Lib.hid (Hr4.out.keep hs4 Hr4.out.lt)
  have H5 := Lib.hid (Stp.trans H4.out hs4)
  have hE5 := HE.out.keep hs4
  have HE5 := Lib.hid hE5
  simp only [hg1]
  rw [hw6]
  clear hw5 hw6 hg1 hs4 hE5
  obtain ⟨m0, m1, m2, m3, m4, m5, m6, m7, m8, m9, m10, m11, m12, m13⟩ := st_cells Ht.out
  obtain ⟨r0, r1, r2, r3, r4, r5, r6, r7, r8, r9, r10, r11, r12, r13⟩ := st_cells Hr5.out
  have hz := rfree Hr5.out
  go_wp2_with fail
  change bodyPost _ _ _ _ _ (fillA w5 (g0 + 1) t)
  obtain ⟨hB, hW⟩ := Fin.out t w5 Hr5.out H5.out
  have hE := filla_keepE t HE5.out Hr5.out
  generalize fillA w5 (g0 + 1) t = W7 at hB hW hE ⊢
  clear m0 m1 m2 m3 m4 m5 m6 m7 m8 m9 m10 m11 m12 m13 r0 r1 r2 r3 r4 r5 r6 r7 r8 r9 r10 r11 r12 r13 hz
  obtain ⟨r0, r1, r2, r3, r4, r5, r6, r7, r8, r9, r10, r11, r12, r13⟩ := st_cells hB
  exact bodyPost_ret (v := .tuple #[sv t, .slice B2 y.length d2, .int .i64 e0]) (by simp [results, Tryz.results23, go_sem, r0, r1, r2, r3, r4, r5, r6, r7, r8, r9, r10, r11, r12, r13]) rfl ⟨B2, d2, by rw [He.out], by rw [He.out]; exact hE, hW⟩

set_option maxRecDepth 100000 in
set_option maxHeartbeats 4000000 in
theorem rstep_data (HD : HeadD) (s : St) (hsm : SmallS s) (b : L) (hbl : b.length < 9223372036854775808) (hm : mayS s = true) (h512 : b.length = 512) (hp : s.phase = 3) (A : Option Addr) (c : Nat) (w : World) (ha : RdA w A c (bs b)) :
    Calls Tryz.prog 23 #[sv s, .slice A b.length c] w fun e w' => ∃ B d, e = .returned (.tuple #[sv (stepS s b).1, .slice B (stepS s b).2.1.length d, .int .i64 (stepS s b).2.2]) ∧ RdE w' B d (stepS s b).2.1 ∧ Stp w w' := by
  have hs1 := Stp.alloc (Stp.alloc (Stp.refl w) (.cells (scells s) 50)) (.cells (scells zeroS) 50)
  have H0 := Lib.hid hs1
  have Hb := Lib.hid ((Blk.new w 50 (scells s)).alloc (.cells (scells zeroS) 50))
  have Hr := Lib.hid (Blk.new (w.alloc (.cells (scells s) 50)) 50 (scells zeroS))
  rw [World.size_alloc] at Hr
  obtain ⟨g0, hg0⟩ : ∃ x, w.heap.size = x := ⟨_, rfl⟩
  have HG0 := Lib.hid hg0
  rw [hg0] at Hb Hr
  have Ha := Lib.hid (ha.keep hs1)
  have HSm := Lib.hid hsm
  have HHD := Lib.hid HD
  have HBL := Lib.hid hbl
  have fin : ∀ (t : St) (W0 : World), Blk W0 (g0 + 1) 50 (scells zeroS) → Stp w W0 → Blk (fillA W0 (g0 + 1) t) (g0 + 1) 50 (scells t) ∧ Stp w (fillA W0 (g0 + 1) t) := fun t W0 h1 h2 => ⟨filla_blk t h1, filla_st t h2 (by have := HG0.out; omega)⟩
  have Fin := Lib.hid fin
  clear fin ha hsm HD hbl hs1
  have HN := Lib.hid h512
  rw [h512]
  have HP0 := Lib.hid hp
  obtain ⟨rr, hrr⟩ : ∃ rr, stepS s b = rr := ⟨_, rfl⟩
  rw [hrr]
  have HRR := Lib.hid hrr
  clear hrr
  have HM := Lib.hid hm
  clear h512 hm hp
  obtain ⟨q0, q1, q2, q3, q4, q5, q6, q7, q8, q9, q10, q11, q12, q13⟩ := st_cells Hb.out
  go_enter Tryz.func23, Tryz.ntmps23
  go_upto_region 2 with (go_at_call 25; (with_reducible refine (rmay_v s _ rfl HSm.out _).mono ?_); rintro e w2 ⟨rfl, hs⟩; rw [HM.out]; replace H0 := Lib.hid (Stp.trans H0.out hs); replace Hb := Lib.hid (Hb.out.keep hs Hb.out.lt); replace Hr := Lib.hid (Hr.out.keep hs Hr.out.lt); replace Ha := Lib.hid (Ha.out.keep hs); clear hs q0 q1 q2 q3 q4 q5 q6 q7 q8 q9 q10 q11 q12 q13; obtain ⟨q0, q1, q2, q3, q4, q5, q6, q7, q8, q9, q10, q11, q12, q13⟩ := st_cells Hb.out)
  obtain ⟨r0, r1, r2, r3, r4, r5, r6, r7, r8, r9, r10, r11, r12, r13⟩ := st_cells Hr.out
  have hz := rfree Hr.out
  have HA2 := Lib.hid (show ¬ (mayS s = false ∨ b.length ≠ 512) by rw [HM.out, HN.out]; simp)
  have Hlz := Lib.hid (show RdA w2 A c (bs b) from Ha.out)
  obtain ⟨z, hz0⟩ : ∃ x, BlockM.zeroV b = x := ⟨_, rfl⟩
  have HZ := Lib.hid hz0
  have hzc : ∀ W : World, RdA W A c (bs b) → Calls Tryz.prog 26 #[.slice A 512 c] W fun e w' => e = .returned (.bool z) ∧ Stp W w' := by
    intro W hW
    have := Block.rzero_s b A c W hW HBL.out
    rw [HN.out, hz0] at this
    exact this
  have HZC := Lib.hid hzc
  clear hzc hz0
  go_upto_region 5 with (go_at_call 26; (with_reducible refine (HZC.out _ Ha.out).mono ?_); rintro e w3 ⟨rfl, hs⟩; replace H0 := Lib.hid (Stp.trans H0.out hs); replace Hb := Lib.hid (Hb.out.keep hs Hb.out.lt); replace Hr := Lib.hid (Hr.out.keep hs Hr.out.lt); replace Ha := Lib.hid (Ha.out.keep hs); clear hs hz q0 q1 q2 q3 q4 q5 q6 q7 q8 q9 q10 q11 q12 q13 r0 r1 r2 r3 r4 r5 r6 r7 r8 r9 r10 r11 r12 r13; obtain ⟨q0, q1, q2, q3, q4, q5, q6, q7, q8, q9, q10, q11, q12, q13⟩ := st_cells Hb.out; obtain ⟨r0, r1, r2, r3, r4, r5, r6, r7, r8, r9, r10, r11, r12, r13⟩ := st_cells Hr.out; have hz := rfree Hr.out)
  have hp := HP0.out
  have hX0 : stepS s b = dataS s b := by unfold stepS; rw [if_neg HA2.out, if_neg (by omega), if_neg (by omega), if_neg (by omega), if_pos hp]
  have HP := Lib.hid hp
  have p5 : (s.phase == 5) = false := by rw [hp]; rfl
  have p4 : (s.phase == 4) = false := by rw [hp]; rfl
  have p1 : (s.phase == 1) = false := by rw [hp]; rfl
  have p2 : (s.phase == 2) = false := by rw [hp]; rfl
  have p3 : (s.phase == 3) = true := by rw [hp]; rfl
  clear hp
  obtain ⟨t, y, e0, hst⟩ : ∃ t y e0, dataS s b = (t, y, e0) := ⟨_, _, _, rfl⟩
  have hX : stepS s b = (t, y, e0) := by rw [← hst]; exact hX0
  have He := Lib.hid (HRR.out.symm.trans hX)
  have HC := Lib.hid (rdata_e s HM.out HP.out b HN.out)
  rw [hst] at HC
  clear hst hX hX0
  go_upto_region 18 with (go_at_call 28; (with_reducible refine (HC.out _ rfl A c _ Ha.out).mono ?_); rintro e w4 ⟨B2, d2, rfl, hE, hs⟩; have HE := Lib.hid hE; have Hr4 := Lib.hid (Hr.out.keep hs Hr.out.lt); have H4 := Lib.hid (Stp.trans H0.out hs); clear hE hs q0 q1 q2 q3 q4 q5 q6 q7 q8 q9 q10 q11 q12 q13 r0 r1 r2 r3 r4 r5 r6 r7 r8 r9 r10 r11 r12 r13 hz)
  obtain ⟨g1, hg1⟩ : ∃ x, w4.heap.size = x := ⟨_, rfl⟩
  have Ht := Lib.hid (Blk.new w4 50 (scells t))
  have hs4 := Stp.alloc (Stp.refl w4) (.cells (scells t) 50)
  obtain ⟨w5, hw5⟩ : ∃ x, w4.alloc (.cells (scells t) 50) = x := ⟨_, rfl⟩
  have hw6 := hw5
  simp only [Parse.scells] at hw6
  rw [hw5] at Ht hs4
  rw [hg1] at Ht
  have Hr5 := Lib.hid (Hr4.out.keep hs4 Hr4.out.lt)
  have H5 := Lib.hid (Stp.trans H4.out hs4)
  have hE5 := HE.out.keep hs4
  have HE5 := Lib.hid hE5
  simp only [hg1]
  rw [hw6]
  clear hw5 hw6 hg1 hs4 hE5
  obtain ⟨m0, m1, m2, m3, m4, m5, m6, m7, m8, m9, m10, m11, m12, m13⟩ := st_cells Ht.out
  obtain ⟨r0, r1, r2, r3, r4, r5, r6, r7, r8, r9, r10, r11, r12, r13⟩ := st_cells Hr5.out
  have hz := rfree Hr5.out
  go_wp2_with fail
  change bodyPost _ _ _ _ _ (fillA w5 (g0 + 1) t)
  obtain ⟨hB, hW⟩ := Fin.out t w5 Hr5.out H5.out
  have hE := filla_keepE t HE5.out Hr5.out
  generalize fillA w5 (g0 + 1) t = W7 at hB hW hE ⊢
  clear m0 m1 m2 m3 m4 m5 m6 m7 m8 m9 m10 m11 m12 m13 r0 r1 r2 r3 r4 r5 r6 r7 r8 r9 r10 r11 r12 r13 hz
  obtain ⟨r0, r1, r2, r3, r4, r5, r6, r7, r8, r9, r10, r11, r12, r13⟩ := st_cells hB
  exact bodyPost_ret (v := .tuple #[sv t, .slice B2 y.length d2, .int .i64 e0]) (by simp [results, Tryz.results23, go_sem, r0, r1, r2, r3, r4, r5, r6, r7, r8, r9, r10, r11, r12, r13]) rfl ⟨B2, d2, by rw [He.out], by rw [He.out]; exact hE, hW⟩

set_option maxRecDepth 100000 in
set_option maxHeartbeats 4000000 in
theorem rstep_head (HD : HeadD) (s : St) (hsm : SmallS s) (b : L) (hbl : b.length < 9223372036854775808) (hm : mayS s = true) (h512 : b.length = 512) (hp : s.phase = 0) (A : Option Addr) (c : Nat) (w : World) (ha : RdA w A c (bs b)) :
    Calls Tryz.prog 23 #[sv s, .slice A b.length c] w fun e w' => ∃ B d, e = .returned (.tuple #[sv (stepS s b).1, .slice B (stepS s b).2.1.length d, .int .i64 (stepS s b).2.2]) ∧ RdE w' B d (stepS s b).2.1 ∧ Stp w w' := by
  have hs1 := Stp.alloc (Stp.alloc (Stp.refl w) (.cells (scells s) 50)) (.cells (scells zeroS) 50)
  have H0 := Lib.hid hs1
  have Hb := Lib.hid ((Blk.new w 50 (scells s)).alloc (.cells (scells zeroS) 50))
  have Hr := Lib.hid (Blk.new (w.alloc (.cells (scells s) 50)) 50 (scells zeroS))
  rw [World.size_alloc] at Hr
  obtain ⟨g0, hg0⟩ : ∃ x, w.heap.size = x := ⟨_, rfl⟩
  have HG0 := Lib.hid hg0
  rw [hg0] at Hb Hr
  have Ha := Lib.hid (ha.keep hs1)
  have HSm := Lib.hid hsm
  have HHD := Lib.hid HD
  have HBL := Lib.hid hbl
  have fin : ∀ (t : St) (W0 : World), Blk W0 (g0 + 1) 50 (scells zeroS) → Stp w W0 → Blk (fillA W0 (g0 + 1) t) (g0 + 1) 50 (scells t) ∧ Stp w (fillA W0 (g0 + 1) t) := fun t W0 h1 h2 => ⟨filla_blk t h1, filla_st t h2 (by have := HG0.out; omega)⟩
  have Fin := Lib.hid fin
  clear fin ha hsm HD hbl hs1
  have HN := Lib.hid h512
  rw [h512]
  have HP0 := Lib.hid hp
  obtain ⟨rr, hrr⟩ : ∃ rr, stepS s b = rr := ⟨_, rfl⟩
  rw [hrr]
  have HRR := Lib.hid hrr
  clear hrr
  have HM := Lib.hid hm
  clear h512 hm hp
  obtain ⟨q0, q1, q2, q3, q4, q5, q6, q7, q8, q9, q10, q11, q12, q13⟩ := st_cells Hb.out
  go_enter Tryz.func23, Tryz.ntmps23
  go_upto_region 2 with (go_at_call 25; (with_reducible refine (rmay_v s _ rfl HSm.out _).mono ?_); rintro e w2 ⟨rfl, hs⟩; rw [HM.out]; replace H0 := Lib.hid (Stp.trans H0.out hs); replace Hb := Lib.hid (Hb.out.keep hs Hb.out.lt); replace Hr := Lib.hid (Hr.out.keep hs Hr.out.lt); replace Ha := Lib.hid (Ha.out.keep hs); clear hs q0 q1 q2 q3 q4 q5 q6 q7 q8 q9 q10 q11 q12 q13; obtain ⟨q0, q1, q2, q3, q4, q5, q6, q7, q8, q9, q10, q11, q12, q13⟩ := st_cells Hb.out)
  obtain ⟨r0, r1, r2, r3, r4, r5, r6, r7, r8, r9, r10, r11, r12, r13⟩ := st_cells Hr.out
  have hz := rfree Hr.out
  have HA2 := Lib.hid (show ¬ (mayS s = false ∨ b.length ≠ 512) by rw [HM.out, HN.out]; simp)
  have Hlz := Lib.hid (show RdA w2 A c (bs b) from Ha.out)
  obtain ⟨z, hz0⟩ : ∃ x, BlockM.zeroV b = x := ⟨_, rfl⟩
  have HZ := Lib.hid hz0
  have hzc : ∀ W : World, RdA W A c (bs b) → Calls Tryz.prog 26 #[.slice A 512 c] W fun e w' => e = .returned (.bool z) ∧ Stp W w' := by
    intro W hW
    have := Block.rzero_s b A c W hW HBL.out
    rw [HN.out, hz0] at this
    exact this
  have HZC := Lib.hid hzc
  clear hzc hz0
  go_upto_region 5 with (go_at_call 26; (with_reducible refine (HZC.out _ Ha.out).mono ?_); rintro e w3 ⟨rfl, hs⟩; replace H0 := Lib.hid (Stp.trans H0.out hs); replace Hb := Lib.hid (Hb.out.keep hs Hb.out.lt); replace Hr := Lib.hid (Hr.out.keep hs Hr.out.lt); replace Ha := Lib.hid (Ha.out.keep hs); clear hs hz q0 q1 q2 q3 q4 q5 q6 q7 q8 q9 q10 q11 q12 q13 r0 r1 r2 r3 r4 r5 r6 r7 r8 r9 r10 r11 r12 r13; obtain ⟨q0, q1, q2, q3, q4, q5, q6, q7, q8, q9, q10, q11, q12, q13⟩ := st_cells Hb.out; obtain ⟨r0, r1, r2, r3, r4, r5, r6, r7, r8, r9, r10, r11, r12, r13⟩ := st_cells Hr.out; have hz := rfree Hr.out)
  have hp := HP0.out
  have hX0 : stepS s b = headS s b := by unfold stepS; rw [if_neg HA2.out, if_neg (by omega), if_neg (by omega), if_neg (by omega), if_neg (by omega)]
  have HP := Lib.hid hp
  have p5 : (s.phase == 5) = false := by rw [hp]; rfl
  have p4 : (s.phase == 4) = false := by rw [hp]; rfl
  have p1 : (s.phase == 1) = false := by rw [hp]; rfl
  have p2 : (s.phase == 2) = false := by rw [hp]; rfl
  have p3 : (s.phase == 3) = false := by rw [hp]; rfl
  clear hp
  obtain ⟨t, y, e0, hst⟩ : ∃ t y e0, headS s b = (t, y, e0) := ⟨_, _, _, rfl⟩
  have hX : stepS s b = (t, y, e0) := by rw [← hst]; exact hX0
  have He := Lib.hid (HRR.out.symm.trans hX)
  have HC := Lib.hid (HHD.out s b HM.out HP.out HSm.out HN.out)
  rw [hst] at HC
  clear hst hX hX0
  go_upto_region 20 with (go_at_call 29; (with_reducible refine (HC.out _ rfl A c _ Ha.out).mono ?_); rintro e w4 ⟨B2, d2, rfl, hE, hs⟩; have HE := Lib.hid hE; have Hr4 := Lib.hid (Hr.out.keep hs Hr.out.lt); have H4 := Lib.hid (Stp.trans H0.out hs); clear hE hs q0 q1 q2 q3 q4 q5 q6 q7 q8 q9 q10 q11 q12 q13 r0 r1 r2 r3 r4 r5 r6 r7 r8 r9 r10 r11 r12 r13 hz)
  obtain ⟨g1, hg1⟩ : ∃ x, w4.heap.size = x := ⟨_, rfl⟩
  have Ht := Lib.hid (Blk.new w4 50 (scells t))
  have hs4 := Stp.alloc (Stp.refl w4) (.cells (scells t) 50)
  obtain ⟨w5, hw5⟩ : ∃ x, w4.alloc (.cells (scells t) 50) = x := ⟨_, rfl⟩
  have hw6 := hw5
  simp only [Parse.scells] at hw6
  rw [hw5] at Ht hs4
  rw [hg1] at Ht
  have Hr5 := Lib.hid (Hr4.out.keep hs4 Hr4.out.lt)
  have H5 := Lib.hid (Stp.trans H4.out hs4)
  have hE5 := HE.out.keep hs4
  have HE5 := Lib.hid hE5
  simp only [hg1]
  rw [hw6]
  clear hw5 hw6 hg1 hs4 hE5
  obtain ⟨m0, m1, m2, m3, m4, m5, m6, m7, m8, m9, m10, m11, m12, m13⟩ := st_cells Ht.out
  obtain ⟨r0, r1, r2, r3, r4, r5, r6, r7, r8, r9, r10, r11, r12, r13⟩ := st_cells Hr5.out
  have hz := rfree Hr5.out
  go_wp2_with fail
  change bodyPost _ _ _ _ _ (fillA w5 (g0 + 1) t)
  obtain ⟨hB, hW⟩ := Fin.out t w5 Hr5.out H5.out
  have hE := filla_keepE t HE5.out Hr5.out
  generalize fillA w5 (g0 + 1) t = W7 at hB hW hE ⊢
  clear m0 m1 m2 m3 m4 m5 m6 m7 m8 m9 m10 m11 m12 m13 r0 r1 r2 r3 r4 r5 r6 r7 r8 r9 r10 r11 r12 r13 hz
  obtain ⟨r0, r1, r2, r3, r4, r5, r6, r7, r8, r9, r10, r11, r12, r13⟩ := st_cells hB
  exact bodyPost_ret (v := .tuple #[sv t, .slice B2 y.length d2, .int .i64 e0]) (by simp [results, Tryz.results23, go_sem, r0, r1, r2, r3, r4, r5, r6, r7, r8, r9, r10, r11, r12, r13]) rfl ⟨B2, d2, by rw [He.out], by rw [He.out]; exact hE, hW⟩

theorem rstep_d (HD : HeadD) (s : St) (hsm : SmallS s) (b : L) (hbl : b.length < 9223372036854775808) (A : Option Addr) (c : Nat) (w : World) (ha : RdA w A c (bs b)) :
    Calls Tryz.prog 23 #[sv s, .slice A b.length c] w fun e w' => ∃ B d, e = .returned (.tuple #[sv (stepS s b).1, .slice B (stepS s b).2.1.length d, .int .i64 (stepS s b).2.2]) ∧ RdE w' B d (stepS s b).2.1 ∧ Stp w w' := by
  by_cases hm : mayS s = true
  · by_cases h512 : b.length = 512
    · have hph := may_phase hm
      have hph2 : s.phase = 5 ∨ s.phase = 4 ∨ s.phase = 1 ∨ s.phase = 2 ∨ s.phase = 3 ∨ s.phase = 0 := by omega
      rcases hph2 with hp | hp | hp | hp | hp | hp
      · exact rstep_end HD s hsm b hbl hm h512 hp A c w ha
      · exact rstep_zero HD s hsm b hbl hm h512 hp A c w ha
      · exact rstep_name HD s hsm b hbl hm h512 hp A c w ha
      · exact rstep_link HD s hsm b hbl hm h512 hp A c w ha
      · exact rstep_data HD s hsm b hbl hm h512 hp A c w ha
      · exact rstep_head HD s hsm b hbl hm h512 hp A c w ha
    · exact rstep_no HD s hsm b hbl (.inr h512) A c w ha
  · exact rstep_no HD s hsm b hbl (.inl (Bool.eq_false_iff.2 hm)) A c w ha
end Go.Proofs.YtgjdbbhfgfodlaaGreat.Parse

namespace Go.Proofs.YtgjdbbhfgfodlaaGreat.Parse
open Go.RowKit Go.Proofs.YtgjdbbhfgfodlaaGreat.Str Go.Proofs.YtgjdbbhfgfodlaaGreat.Base Go.Proofs.YtgjdbbhfgfodlaaGreat.Node Go.Proofs.YtgjdbbhfgfodlaaGreat.Long

theorem filla_keepEz {w : World} {g : Nat} {A : Option Addr} {c : Nat} {xs : List Evt} (t : St) (h : RdE w A c xs) {z : St} (hz : Blk w g 50 (scells z)) : RdE (fillA w g t) A c xs := by
  cases xs with
  | nil => exact RdE.nil' _ _ _
  | cons x xs =>
    obtain ⟨h1, h2⟩ := h
    obtain ⟨b, o, e, hb, hc⟩ := h2 (by simp)
    refine ⟨h1, fun _ => ⟨b, o, e, ?_, fun q u hq => ?_⟩⟩
    · have : ∀ (vs : List Value) (i : Nat) (w1 : World), (fillC g vs i w1).heap.size = w1.heap.size := by
        intro vs
        induction vs with
        | nil => intro i w1; rfl
        | cons v vs ih => intro i w1; rw [fillC, ih]; simp [World.setCell]
      rw [this]
      exact hb
    · by_cases hbg : b = g
      · subst hbg
        exfalso
        have h9 := hc 9 _ (by show (etc (x :: xs))[9]? = some (.string ⟨x.data.toArray⟩); rfl)
        have h0 := hc 0 _ (by show (etc (x :: xs))[0]? = some (.int .i64 x.kind); rfl)
        have h1' := hc 1 _ (by show (etc (x :: xs))[1]? = some (.string ⟨x.node.path.toArray⟩); rfl)
        have h2' := hc 2 _ (by show (etc (x :: xs))[2]? = some (.string ⟨x.node.link.toArray⟩); rfl)
        have h3' := hc 3 _ (by show (etc (x :: xs))[3]? = some (.int .u8 (x.node.kind.toNat : Int)); rfl)
        have h4' := hc 4 _ (by show (etc (x :: xs))[4]? = some (.int .i64 x.node.mode); rfl)
        have h8' := hc 8 _ (by show (etc (x :: xs))[8]? = some (.string ⟨x.node.data.toArray⟩); rfl)
        rw [hz.cell] at h9 h0 h1' h2' h3' h4' h8'
        match o with
        | 0 => simp at h9
        | 1 => simp at h0
        | 2 => simp at h0
        | 3 => simp at h0
        | 4 => simp at h1'
        | 5 => simp at h1'
        | 6 => simp at h1'
        | 7 => simp at h2'
        | 8 => simp at h0
        | 9 => simp at h1'
        | 10 => simp at h3'
        | 11 => simp at h0
        | 12 => simp at h0
        | 13 => simp at h0
        | o + 14 => simp at h0
      · have : ∀ (vs : List Value) (i : Nat) (w1 : World), (fillC g vs i w1).cell? ⟨b, o + q, none⟩ = w1.cell? ⟨b, o + q, none⟩ := by
          intro vs
          induction vs with
          | nil => intro i w1; rfl
          | cons v vs ih =>
            intro i w1
            rw [fillC, ih]
            exact World.cell?_of_block (Below.heap_setCell w1 ⟨g, i, none⟩ v b hbg)
        rw [this]
        exact hc q u hq


theorem rstep_v (HD : HeadD) (s : St) (v : Value) (hv : v = sv s) (hs : SmallS s) (b : L) (hbl : b.length < 9223372036854775808) (t : St) (y : List Evt) (e0 : Int) (hst : stepS s b = (t, y, e0)) (A : Option Addr) (c : Nat) (w : World) (ha : RdA w A c (bs b)) :
    Calls Tryz.prog 23 #[v, .slice A b.length c] w fun e w' => ∃ B d, e = .returned (.tuple #[sv t, .slice B y.length d, .int .i64 e0]) ∧ RdE w' B d y ∧ Stp w w' := by
  subst hv
  have := rstep_d HD s hs b hbl A c w ha
  rw [hst] at this
  exact this

set_option maxRecDepth 100000 in
set_option maxHeartbeats 8000000 in
theorem rrun_c (HD : HeadD) (s : St) (hs : SmallS s) (l : List L) (n : Nat) (hn : l.length = n) (hn1 : n ≤ 1000) (hlb : ∀ b ∈ l, b.length < 9223372036854775808) (r : St × List Evt × Nat × Int) (hr : runS s l = r) (A : Option Addr) (c : Nat) (w : World) (ha : RdL w A c l) :
    Calls Tryz.prog 20 #[sv s, .slice A n c] w fun e w' => ∃ v, e = .returned (.tuple #[sv r.1, v, .int .i64 (r.2.2.1 : Int), .int .i64 r.2.2.2]) ∧ (∃ B d, v = .slice B r.2.1.length d ∧ RdE w' B d r.2.1) ∧ Stp w w' := by
  have h1 := Stp.alloc (Stp.alloc (Stp.refl w) (.cells (scells s) 50)) (.cells (scells zeroS) 50)
  have Hb0 := Lib.hid ((Blk.new w 50 (scells s)).alloc (.cells (scells zeroS) 50))
  have Hr0 := Lib.hid (Blk.new (w.alloc (.cells (scells s) 50)) 50 (scells zeroS))
  rw [World.size_alloc] at Hr0
  have H10 := Lib.hid h1
  have Ha := Lib.hid ha
  have HN := Lib.hid hn
  have HN1 := Lib.hid hn1
  have HR := Lib.hid hr
  have Hs0 := Lib.hid hs
  have HHD := Lib.hid HD
  have HLB := Lib.hid hlb
  obtain ⟨g0, hg0⟩ : ∃ x, w.heap.size = x := ⟨_, rfl⟩
  have HG0 := Lib.hid hg0
  rw [hg0] at Hb0 Hr0
  clear h1 ha hn hn1 hr hs HD hlb
  go_enter Tryz.func20, Tryz.ntmps20
  go_wp2_with fail
  go_loopw [8, 9] (fun v i wr => ∃ (k : Nat) (sk : St) (xs : List Evt), k ≤ n ∧ i = .int .i64 (k : Int) ∧ Hid (Blk wr g0 50 (scells sk)) ∧ Hid (Blk wr (g0 + 1) 50 (scells zeroS)) ∧ Hid (RowE wr (g0 + 2) v xs) ∧ Hid (Stp w wr) ∧ Hid (g0 + 2 ≤ wr.heap.size) ∧ Hid (glue xs k (runS sk (l.drop k)) = r) ∧ Hid (SmallS sk) ∧ Hid (xs.length ≤ 2 * k))
    (fun _ i _ => n - (intOf i).toNat)
  case atStart =>
    exact ⟨0, s, [], Nat.zero_le _, rfl, Hb0, Hr0, Lib.hid (RowE.nil _ _), H10, Lib.hid (by rw [World.size_alloc, World.size_alloc, HG0.out]; exact Nat.le_refl _), Lib.hid (by rw [List.drop_zero, HR.out]; unfold glue; simp), Hs0, Lib.hid (Nat.le_refl 0)⟩
  case round =>
    obtain ⟨k, sk, xs, hk, rfl, Hb, Hr, Hv, Hst, Hle, Hgl, Hss, Hlx⟩ := hrel
    obtain ⟨q0, q1, q2, q3, q4, q5, q6, q7, q8, q9, q10, q11, q12, q13⟩ := st_cells Hb.out
    by_cases hlt : k < n
    · have g5 : decide ((k : Int) < (n : Int)) = true := decide_eq_true (by omega)
      have hb : l[k]? = some (l[k]'(by rw [HN.out]; exact hlt)) := List.getElem?_eq_getElem (by rw [HN.out]; exact hlt)
      have hdr : l.drop k = l[k]'(by rw [HN.out]; exact hlt) :: l.drop (k + 1) := List.drop_eq_getElem_cons (by rw [HN.out]; exact hlt)
      have hbm : l[k]'(by rw [HN.out]; exact hlt) ∈ l := List.getElem_mem _
      obtain ⟨b, hbb⟩ : ∃ b, l[k]'(by rw [HN.out]; exact hlt) = b := ⟨_, rfl⟩
      rw [hbb] at hb hdr hbm
      have Hbl := Lib.hid (HLB.out b hbm)
      obtain ⟨bb, o, A1, c1, rfl, hcell, hrd⟩ := (Ha.out.keep Hst.out).at_ hb
      have Hx := Lib.hid hrd
      have hgl := Hgl.out
      rw [hdr] at hgl
      obtain ⟨t, y, e0, hst0⟩ : ∃ t y e0, stepS sk b = (t, y, e0) := ⟨_, _, _, rfl⟩
      have Hst0 := Lib.hid hst0
      have HL2 := Lib.hid (step_y hst0)
      have Hgl1 := Lib.hid hgl
      clear hbm hgl hst0 hb hdr hbb hrd
      go_upto_region 5 with fail
      have Key := Lib.hid (show ∀ W, Stp wr W → (W.cell? ⟨g0, 0, none⟩ = some (.int .i64 sk.phase) ∧ W.cell? ⟨g0, 1, none⟩ = some (.string ⟨sk.node.path.toArray⟩) ∧ W.cell? ⟨g0, 2, none⟩ = some (.string ⟨sk.node.link.toArray⟩) ∧ W.cell? ⟨g0, 3, none⟩ = some (.int .u8 (sk.node.kind.toNat : Int)) ∧ W.cell? ⟨g0, 4, none⟩ = some (.int .i64 sk.node.mode) ∧ W.cell? ⟨g0, 5, none⟩ = some (.int .i64 sk.node.uid) ∧ W.cell? ⟨g0, 6, none⟩ = some (.int .i64 sk.node.gid) ∧ W.cell? ⟨g0, 7, none⟩ = some (.int .i64 sk.node.time) ∧ W.cell? ⟨g0, 8, none⟩ = some (.string ⟨sk.node.data.toArray⟩) ∧ W.cell? ⟨g0, 9, none⟩ = some (.int .i64 sk.size) ∧ W.cell? ⟨g0, 10, none⟩ = some (.int .i64 sk.left) ∧ W.cell? ⟨g0, 11, none⟩ = some (.string ⟨sk.text.toArray⟩) ∧ W.cell? ⟨g0, 12, none⟩ = some (.string ⟨sk.name.toArray⟩) ∧ W.cell? ⟨g0, 13, none⟩ = some (.string ⟨sk.link.toArray⟩) ∧ W.cell? ⟨bb, o + k, none⟩ = some (.slice A1 b.length c1)) from fun W hW => by
        obtain ⟨q0, q1, q2, q3, q4, q5, q6, q7, q8, q9, q10, q11, q12, q13⟩ := st_cells (Hb.out.keep hW Hb.out.lt)
        exact ⟨q0, q1, q2, q3, q4, q5, q6, q7, q8, q9, q10, q11, q12, q13, by rw [World.cell?_of_block (hW.block bb (World.block_lt_of_cell? _ _ hcell))]; exact hcell⟩)
      clear hcell
      go_cut [10, 11, 12] from 19 to 28 (fun s10 s11 s12 wx => ∃ g1 B2 d2, s10 = .pointer (some ⟨g1, 0, none⟩) ∧ s11 = .slice B2 y.length d2 ∧ s12 = .int .i64 e0 ∧ Hid (Blk wx g1 50 (scells t)) ∧ Hid (RdE wx B2 d2 y) ∧ Hid (Stp wr wx) ∧ Hid (wr.heap.size ≤ g1))
      case first =>
        refine wp_region_held_drew (S := fun W : World => W.cell? ⟨g0, 0, none⟩ = some (.int .i64 sk.phase) ∧ W.cell? ⟨g0, 1, none⟩ = some (.string ⟨sk.node.path.toArray⟩) ∧ W.cell? ⟨g0, 2, none⟩ = some (.string ⟨sk.node.link.toArray⟩) ∧ W.cell? ⟨g0, 3, none⟩ = some (.int .u8 (sk.node.kind.toNat : Int)) ∧ W.cell? ⟨g0, 4, none⟩ = some (.int .i64 sk.node.mode) ∧ W.cell? ⟨g0, 5, none⟩ = some (.int .i64 sk.node.uid) ∧ W.cell? ⟨g0, 6, none⟩ = some (.int .i64 sk.node.gid) ∧ W.cell? ⟨g0, 7, none⟩ = some (.int .i64 sk.node.time) ∧ W.cell? ⟨g0, 8, none⟩ = some (.string ⟨sk.node.data.toArray⟩) ∧ W.cell? ⟨g0, 9, none⟩ = some (.int .i64 sk.size) ∧ W.cell? ⟨g0, 10, none⟩ = some (.int .i64 sk.left) ∧ W.cell? ⟨g0, 11, none⟩ = some (.string ⟨sk.text.toArray⟩) ∧ W.cell? ⟨g0, 12, none⟩ = some (.string ⟨sk.name.toArray⟩) ∧ W.cell? ⟨g0, 13, none⟩ = some (.string ⟨sk.link.toArray⟩) ∧ W.cell? ⟨bb, o + k, none⟩ = some (.slice A1 b.length c1)) (by kernel_rfl) (Key.out _ (Head.stp_drew (Stp.refl _))) (fun hHeld => ?_)
        refine wpAnyH_take (i := 0) (oi := { dst := some 20, op := Go.Op.load 50 (Go.Operand.tmp 2), type := 50, pos := "ref.go:180", after := #[], guard := none }) (v := ?v0a) rfl (by kernel_rfl) (by kernel_rfl) (by kernel_rfl) (fun _ _ _ h => h) (Or.inl ⟨by rfl, ?hy0a⟩) (by assumption) ?rest0a
        case hy0a => (intro w hSw; (try dsimp only at hSw); go_simp; try with_reducible rfl)
        try simp only [Act.put, List.setIfInBounds_toArray, List.set_cons_zero, List.set_cons_succ]
        refine wpAnyH_take (i := 1) (oi := { dst := some 21, op := Go.Op.move (Go.Operand.tmp 1), type := 23, pos := "ref.go:180", after := #[], guard := none }) (v := ?v1a) rfl (by kernel_rfl) (by kernel_rfl) (by kernel_rfl) (fun _ _ _ h => h) (Or.inl ⟨by rfl, ?hy1a⟩) (by assumption) ?rest1a
        case hy1a => (intro w hSw; (try dsimp only at hSw); go_simp; try with_reducible rfl)
        try simp only [Act.put, List.setIfInBounds_toArray, List.set_cons_zero, List.set_cons_succ]
        refine wpAnyH_take (i := 2) (oi := { dst := some 22, op := Go.Op.move (Go.Operand.tmp 9), type := 3, pos := "ref.go:180", after := #[], guard := none }) (v := ?v2a) rfl (by kernel_rfl) (by kernel_rfl) (by kernel_rfl) (fun _ _ _ h => h) (Or.inl ⟨by rfl, ?hy2a⟩) (by assumption) ?rest2a
        case hy2a => (intro w hSw; (try dsimp only at hSw); go_simp; try with_reducible rfl)
        try simp only [Act.put, List.setIfInBounds_toArray, List.set_cons_zero, List.set_cons_succ]
        refine wpAnyH_take (i := 3) (oi := { dst := some 23, op := Go.Op.indexAddr 23 (Go.Operand.tmp 21) (Go.Operand.tmp 22), type := 0, pos := "ref.go:180", after := #[{ on := 1, ground := Go.Ground.data }, { on := 2, ground := Go.Ground.data }], guard := none }) (v := ?v3a) rfl (by kernel_rfl) (by kernel_rfl) (by kernel_rfl) (fun _ _ _ h => h) (Or.inl ⟨by rfl, ?hy3a⟩) (by assumption) ?rest3a
        case hy3a => (intro w hSw; (try dsimp only at hSw); go_simp; try with_reducible rfl)
        try simp only [Act.put, List.setIfInBounds_toArray, List.set_cons_zero, List.set_cons_succ]
        refine wpAnyH_take (i := 4) (oi := { dst := some 24, op := Go.Op.load 36 (Go.Operand.tmp 23), type := 36, pos := "ref.go:180", after := #[{ on := 3, ground := Go.Ground.data }], guard := none }) (v := ?v4a) rfl (by kernel_rfl) (by kernel_rfl) (by kernel_rfl) (fun _ _ _ h => h) (Or.inl ⟨by rfl, ?hy4a⟩) (by assumption) ?rest4a
        case hy4a => (intro w hSw; (try dsimp only at hSw); go_simp; try with_reducible rfl)
        try simp only [Act.put, List.setIfInBounds_toArray, List.set_cons_zero, List.set_cons_succ]
        refine wpAnyH_ready (rs := [5, 10]) (by kernel_rfl) (by simp) ?_
        refine AllReadyH.cons (o := { dst := some 25, op := Go.Op.call { callee := Go.Callee.value (Go.Operand.func 23), args := #[Go.Operand.tmp 20, Go.Operand.tmp 24], argTypes := #[50, 36] }, type := 54, pos := "ref.go:180", after := #[{ on := 0, ground := Go.Ground.data }, { on := 4, ground := Go.Ground.data }], guard := none }) rfl (fun K hK => ?wayc) (AllReadyH.cons (o := { dst := some 10, op := Go.Op.alloc 50, type := 0, pos := "ref.go:180", after := #[], guard := none }) rfl (fun K hK => ?waya) AllReadyH.nil)
        case wayc =>
          go_simp
          refine (rstep_v HHD.out sk _ (by rfl) Hss.out b Hbl.out t y e0 Hst0.out A1 c1 _ (Hx.out.keep (Head.stp_drew (Stp.refl wr)))).mono ?_
          rintro e w2 ⟨B2, d2, rfl, hE, hs⟩
          have HE := Lib.hid hE
          have H6 := Lib.hid (Stp.trans (Head.stp_drew (Stp.refl wr)) hs)
          clear hs hE
          go_wp2_with fail
          refine hK.out _ _ (Key.out _ (H6.out)) (fun hHeld2 => ?_)
          clear hK K hHeld
          have hHeld := hHeld2
          clear hHeld2
          try simp only [Act.put, List.setIfInBounds_toArray, List.set_cons_zero, List.set_cons_succ]
          refine wpAnyH_take (i := 6) (oi := { dst := some 19, op := Go.Op.move (Go.Operand.tmp 25), type := 54, pos := "ref.go:180", after := #[{ on := 5, ground := Go.Ground.data }], guard := none }) (v := ?v6c) rfl (by kernel_rfl) (by kernel_rfl) (by kernel_rfl) (fun _ _ _ h => h) (Or.inl ⟨by rfl, ?hy6c⟩) (by assumption) ?rest6c
          case hy6c => (intro w hSw; (try dsimp only at hSw); go_simp; try with_reducible rfl)
          try simp only [Act.put, List.setIfInBounds_toArray, List.set_cons_zero, List.set_cons_succ]
          refine wpAnyH_take (i := 7) (oi := { dst := some 26, op := Go.Op.extract (Go.Operand.tmp 19) 0, type := 50, pos := "ref.go:180", after := #[{ on := 6, ground := Go.Ground.data }], guard := none }) (v := ?v7c) rfl (by kernel_rfl) (by kernel_rfl) (by kernel_rfl) (fun _ _ _ h => h) (Or.inl ⟨by rfl, ?hy7c⟩) (by assumption) ?rest7c
          case hy7c => (intro w hSw; (try dsimp only at hSw); go_simp; try with_reducible rfl)
          try simp only [Act.put, List.setIfInBounds_toArray, List.set_cons_zero, List.set_cons_succ]
          refine wpAnyH_take (i := 8) (oi := { dst := some 27, op := Go.Op.extract (Go.Operand.tmp 19) 1, type := 22, pos := "ref.go:180", after := #[{ on := 6, ground := Go.Ground.data }, { on := 11, ground := Go.Ground.gcOnly Go.Departure.lateStores }], guard := none }) (v := ?v8c) rfl (by kernel_rfl) (by kernel_rfl) (by kernel_rfl) (fun _ _ _ h => h) (Or.inl ⟨by rfl, ?hy8c⟩) (by assumption) ?rest8c
          case hy8c => (intro w hSw; (try dsimp only at hSw); go_simp; try with_reducible rfl)
          try simp only [Act.put, List.setIfInBounds_toArray, List.set_cons_zero, List.set_cons_succ]
          refine wpAnyH_take (i := 9) (oi := { dst := some 28, op := Go.Op.extract (Go.Operand.tmp 19) 2, type := 30, pos := "ref.go:180", after := #[{ on := 6, ground := Go.Ground.data }, { on := 12, ground := Go.Ground.gcOnly Go.Departure.lateStores }], guard := none }) (v := ?v9c) rfl (by kernel_rfl) (by kernel_rfl) (by kernel_rfl) (fun _ _ _ h => h) (Or.inl ⟨by rfl, ?hy9c⟩) (by assumption) ?rest9c
          case hy9c => (intro w hSw; (try dsimp only at hSw); go_simp; try with_reducible rfl)
          try simp only [Act.put, List.setIfInBounds_toArray, List.set_cons_zero, List.set_cons_succ]
          refine wpAnyH_ready (rs := [10]) (by kernel_rfl) (by simp) ?_
          refine AllReadyH.cons (o := { dst := some 10, op := Go.Op.alloc 50, type := 0, pos := "ref.go:180", after := #[], guard := none }) rfl (fun K hK => ?_) AllReadyH.nil
          go_simp
          refine hK.out _ _ (Key.out _ (Stp.alloc H6.out _)) (fun hHeld2 => ?_)
          clear hK K hHeld
          have hHeld := hHeld2
          clear hHeld2
          try simp only [Act.put, List.setIfInBounds_toArray, List.set_cons_zero, List.set_cons_succ]
          refine wpAnyH_ready (rs := [11]) (by kernel_rfl) (by simp) ?_
          refine AllReadyH.cons (o := { dst := none, op := Go.Op.store 50 (Go.Operand.tmp 10) (Go.Operand.tmp 26), type := 0, pos := "ref.go:180", after := #[{ on := 10, ground := Go.Ground.data }, { on := 7, ground := Go.Ground.data }, { on := 5, ground := Go.Ground.chain }, { on := 0, ground := Go.Ground.phase }, { on := 1, ground := Go.Ground.phase }, { on := 2, ground := Go.Ground.phase }, { on := 3, ground := Go.Ground.phase }, { on := 4, ground := Go.Ground.phase }, { on := 5, ground := Go.Ground.phase }, { on := 6, ground := Go.Ground.phase }, { on := 7, ground := Go.Ground.phase }, { on := 8, ground := Go.Ground.textOnly Go.Departure.lateStores }, { on := 9, ground := Go.Ground.textOnly Go.Departure.lateStores }, { on := 10, ground := Go.Ground.phase }], guard := none }) rfl (fun K hK => ?_) AllReadyH.nil
          go_simp
          refine hK.out _ _ (Key.out _ (Stp.alloc H6.out _)) (fun hHeld2 => ?_)
          clear hK K hHeld
          have hHeld := hHeld2
          clear hHeld2
          try simp only [Act.put, List.setIfInBounds_toArray, List.set_cons_zero, List.set_cons_succ]
          refine wpAnyH_take (i := 12) (oi := { dst := some 11, op := Go.Op.assign (Go.Operand.tmp 27), type := 22, pos := "ref.go:180", after := #[{ on := 8, ground := Go.Ground.data }, { on := 11, ground := Go.Ground.chain }, { on := 0, ground := Go.Ground.phase }, { on := 1, ground := Go.Ground.phase }, { on := 2, ground := Go.Ground.phase }, { on := 3, ground := Go.Ground.phase }, { on := 4, ground := Go.Ground.phase }, { on := 5, ground := Go.Ground.phase }, { on := 6, ground := Go.Ground.phase }, { on := 7, ground := Go.Ground.phase }, { on := 8, ground := Go.Ground.phase }, { on := 9, ground := Go.Ground.textOnly Go.Departure.lateStores }, { on := 10, ground := Go.Ground.phase }, { on := 11, ground := Go.Ground.phase }], guard := none }) (v := ?v12c) rfl (by kernel_rfl) (by kernel_rfl) (by kernel_rfl) (fun _ _ _ h => h) (Or.inl ⟨by rfl, ?hy12c⟩) (by assumption) ?rest12c
          case hy12c => (intro w hSw; (try dsimp only at hSw); go_simp; try with_reducible rfl)
          try simp only [Act.put, List.setIfInBounds_toArray, List.set_cons_zero, List.set_cons_succ]
          refine wpAnyH_take (i := 13) (oi := { dst := some 12, op := Go.Op.assign (Go.Operand.tmp 28), type := 30, pos := "ref.go:180", after := #[{ on := 9, ground := Go.Ground.data }, { on := 12, ground := Go.Ground.chain }, { on := 0, ground := Go.Ground.phase }, { on := 1, ground := Go.Ground.phase }, { on := 2, ground := Go.Ground.phase }, { on := 3, ground := Go.Ground.phase }, { on := 4, ground := Go.Ground.phase }, { on := 5, ground := Go.Ground.phase }, { on := 6, ground := Go.Ground.phase }, { on := 7, ground := Go.Ground.phase }, { on := 8, ground := Go.Ground.phase }, { on := 9, ground := Go.Ground.phase }, { on := 10, ground := Go.Ground.phase }, { on := 11, ground := Go.Ground.phase }, { on := 12, ground := Go.Ground.phase }], guard := none }) (v := ?v13c) rfl (by kernel_rfl) (by kernel_rfl) (by kernel_rfl) (fun _ _ _ h => h) (Or.inl ⟨by rfl, ?hy13c⟩) (by assumption) ?rest13c
          case hy13c => (intro w hSw; (try dsimp only at hSw); go_simp; try with_reducible rfl)
          try simp only [Act.put, List.setIfInBounds_toArray, List.set_cons_zero, List.set_cons_succ]
          refine wpAnyH_done (by kernel_rfl) ?_ _
          change Exit.then _ _ Exit.normal _ (w2.alloc (.cells (scells t) 50))
          have hB := Blk.new w2 50 (scells t)
          have hW := Stp.alloc H6.out (.cells (scells t) 50)
          have hE := HE.out.keep (Stp.alloc (Stp.refl w2) (.cells (scells t) 50))
          generalize w2.alloc (.cells (scells t) 50) = W7 at hB hW hE ⊢
          have HB := Lib.hid hB
          have HW := Lib.hid hW
          have HE7 := Lib.hid hE
          clear hB hW hE
          go_wp2_with fail
          go_meet
          exact ⟨_, B2, d2, rfl, rfl, rfl, HB, HE7, HW, Lib.hid (H6.out.size)⟩
        case waya =>
          go_simp
          refine hK.out _ _ (Key.out _ (rstp_ad (Head.stp_drew (Stp.refl wr)))) (fun hHeld2 => ?_)
          clear hK K hHeld
          have hHeld := hHeld2
          clear hHeld2
          try simp only [Act.put, List.setIfInBounds_toArray, List.set_cons_zero, List.set_cons_succ]
          refine wpAnyH_ready (rs := [5]) (by kernel_rfl) (by simp) ?_
          refine AllReadyH.cons (o := { dst := some 25, op := Go.Op.call { callee := Go.Callee.value (Go.Operand.func 23), args := #[Go.Operand.tmp 20, Go.Operand.tmp 24], argTypes := #[50, 36] }, type := 54, pos := "ref.go:180", after := #[{ on := 0, ground := Go.Ground.data }, { on := 4, ground := Go.Ground.data }], guard := none }) rfl (fun K hK => ?_) AllReadyH.nil
          go_simp
          refine (rstep_v HHD.out sk _ (by rfl) Hss.out b Hbl.out t y e0 Hst0.out A1 c1 _ (Hx.out.keep (rstp_ad (Head.stp_drew (Stp.refl wr))))).mono ?_
          rintro e w2 ⟨B2, d2, rfl, hE, hs⟩
          have HE := Lib.hid hE
          have H6 := Lib.hid (Stp.trans (rstp_ad (Head.stp_drew (Stp.refl wr))) hs)
          have Hz := Lib.hid (rblk_ad wr 50 (scells zeroS) hs)
          clear hs hE
          go_wp2_with fail
          refine hK.out _ _ (Key.out _ (H6.out)) (fun hHeld2 => ?_)
          clear hK K hHeld
          have hHeld := hHeld2
          clear hHeld2
          try simp only [Act.put, List.setIfInBounds_toArray, List.set_cons_zero, List.set_cons_succ]
          refine wpAnyH_take (i := 6) (oi := { dst := some 19, op := Go.Op.move (Go.Operand.tmp 25), type := 54, pos := "ref.go:180", after := #[{ on := 5, ground := Go.Ground.data }], guard := none }) (v := ?v6d) rfl (by kernel_rfl) (by kernel_rfl) (by kernel_rfl) (fun _ _ _ h => h) (Or.inl ⟨by rfl, ?hy6d⟩) (by assumption) ?rest6d
          case hy6d => (intro w hSw; (try dsimp only at hSw); go_simp; try with_reducible rfl)
          try simp only [Act.put, List.setIfInBounds_toArray, List.set_cons_zero, List.set_cons_succ]
          refine wpAnyH_take (i := 7) (oi := { dst := some 26, op := Go.Op.extract (Go.Operand.tmp 19) 0, type := 50, pos := "ref.go:180", after := #[{ on := 6, ground := Go.Ground.data }], guard := none }) (v := ?v7d) rfl (by kernel_rfl) (by kernel_rfl) (by kernel_rfl) (fun _ _ _ h => h) (Or.inl ⟨by rfl, ?hy7d⟩) (by assumption) ?rest7d
          case hy7d => (intro w hSw; (try dsimp only at hSw); go_simp; try with_reducible rfl)
          try simp only [Act.put, List.setIfInBounds_toArray, List.set_cons_zero, List.set_cons_succ]
          refine wpAnyH_take (i := 8) (oi := { dst := some 27, op := Go.Op.extract (Go.Operand.tmp 19) 1, type := 22, pos := "ref.go:180", after := #[{ on := 6, ground := Go.Ground.data }, { on := 11, ground := Go.Ground.gcOnly Go.Departure.lateStores }], guard := none }) (v := ?v8d) rfl (by kernel_rfl) (by kernel_rfl) (by kernel_rfl) (fun _ _ _ h => h) (Or.inl ⟨by rfl, ?hy8d⟩) (by assumption) ?rest8d
          case hy8d => (intro w hSw; (try dsimp only at hSw); go_simp; try with_reducible rfl)
          try simp only [Act.put, List.setIfInBounds_toArray, List.set_cons_zero, List.set_cons_succ]
          refine wpAnyH_take (i := 9) (oi := { dst := some 28, op := Go.Op.extract (Go.Operand.tmp 19) 2, type := 30, pos := "ref.go:180", after := #[{ on := 6, ground := Go.Ground.data }, { on := 12, ground := Go.Ground.gcOnly Go.Departure.lateStores }], guard := none }) (v := ?v9d) rfl (by kernel_rfl) (by kernel_rfl) (by kernel_rfl) (fun _ _ _ h => h) (Or.inl ⟨by rfl, ?hy9d⟩) (by assumption) ?rest9d
          case hy9d => (intro w hSw; (try dsimp only at hSw); go_simp; try with_reducible rfl)
          try simp only [Act.put, List.setIfInBounds_toArray, List.set_cons_zero, List.set_cons_succ]
          obtain ⟨r0, r1, r2, r3, r4, r5, r6, r7, r8, r9, r10, r11, r12, r13⟩ := st_cells Hz.out
          have hz := rfree Hz.out
          refine wpAnyH_ready (rs := [11]) (by kernel_rfl) (by simp) ?_
          refine AllReadyH.cons (o := { dst := none, op := Go.Op.store 50 (Go.Operand.tmp 10) (Go.Operand.tmp 26), type := 0, pos := "ref.go:180", after := #[{ on := 10, ground := Go.Ground.data }, { on := 7, ground := Go.Ground.data }, { on := 5, ground := Go.Ground.chain }, { on := 0, ground := Go.Ground.phase }, { on := 1, ground := Go.Ground.phase }, { on := 2, ground := Go.Ground.phase }, { on := 3, ground := Go.Ground.phase }, { on := 4, ground := Go.Ground.phase }, { on := 5, ground := Go.Ground.phase }, { on := 6, ground := Go.Ground.phase }, { on := 7, ground := Go.Ground.phase }, { on := 8, ground := Go.Ground.textOnly Go.Departure.lateStores }, { on := 9, ground := Go.Ground.textOnly Go.Departure.lateStores }, { on := 10, ground := Go.Ground.phase }], guard := none }) rfl (fun K hK => ?_) AllReadyH.nil
          go_simp
          refine hK.out _ _ (Key.out _ (filla_st (g := wr.heap.size) t H6.out (Nat.le_refl _))) (fun hHeld2 => ?_)
          clear hK K hHeld
          have hHeld := hHeld2
          clear hHeld2
          try simp only [Act.put, List.setIfInBounds_toArray, List.set_cons_zero, List.set_cons_succ]
          clear r0 r1 r2 r3 r4 r5 r6 r7 r8 r9 r10 r11 r12 r13 hz
          refine wpAnyH_take (i := 12) (oi := { dst := some 11, op := Go.Op.assign (Go.Operand.tmp 27), type := 22, pos := "ref.go:180", after := #[{ on := 8, ground := Go.Ground.data }, { on := 11, ground := Go.Ground.chain }, { on := 0, ground := Go.Ground.phase }, { on := 1, ground := Go.Ground.phase }, { on := 2, ground := Go.Ground.phase }, { on := 3, ground := Go.Ground.phase }, { on := 4, ground := Go.Ground.phase }, { on := 5, ground := Go.Ground.phase }, { on := 6, ground := Go.Ground.phase }, { on := 7, ground := Go.Ground.phase }, { on := 8, ground := Go.Ground.phase }, { on := 9, ground := Go.Ground.textOnly Go.Departure.lateStores }, { on := 10, ground := Go.Ground.phase }, { on := 11, ground := Go.Ground.phase }], guard := none }) (v := ?v12d) rfl (by kernel_rfl) (by kernel_rfl) (by kernel_rfl) (fun _ _ _ h => h) (Or.inl ⟨by rfl, ?hy12d⟩) (by assumption) ?rest12d
          case hy12d => (intro w hSw; (try dsimp only at hSw); go_simp; try with_reducible rfl)
          try simp only [Act.put, List.setIfInBounds_toArray, List.set_cons_zero, List.set_cons_succ]
          refine wpAnyH_take (i := 13) (oi := { dst := some 12, op := Go.Op.assign (Go.Operand.tmp 28), type := 30, pos := "ref.go:180", after := #[{ on := 9, ground := Go.Ground.data }, { on := 12, ground := Go.Ground.chain }, { on := 0, ground := Go.Ground.phase }, { on := 1, ground := Go.Ground.phase }, { on := 2, ground := Go.Ground.phase }, { on := 3, ground := Go.Ground.phase }, { on := 4, ground := Go.Ground.phase }, { on := 5, ground := Go.Ground.phase }, { on := 6, ground := Go.Ground.phase }, { on := 7, ground := Go.Ground.phase }, { on := 8, ground := Go.Ground.phase }, { on := 9, ground := Go.Ground.phase }, { on := 10, ground := Go.Ground.phase }, { on := 11, ground := Go.Ground.phase }, { on := 12, ground := Go.Ground.phase }], guard := none }) (v := ?v13d) rfl (by kernel_rfl) (by kernel_rfl) (by kernel_rfl) (fun _ _ _ h => h) (Or.inl ⟨by rfl, ?hy13d⟩) (by assumption) ?rest13d
          case hy13d => (intro w hSw; (try dsimp only at hSw); go_simp; try with_reducible rfl)
          try simp only [Act.put, List.setIfInBounds_toArray, List.set_cons_zero, List.set_cons_succ]
          refine wpAnyH_done (by kernel_rfl) ?_ _
          change Exit.then _ _ Exit.normal _ (fillA w2 wr.heap.size t)
          have hB := filla_blk t Hz.out
          have hW := filla_st (g := wr.heap.size) t H6.out (Nat.le_refl _)
          have hE := filla_keepE t HE.out Hz.out
          generalize fillA w2 wr.heap.size t = W7 at hB hW hE ⊢
          have HB := Lib.hid hB
          have HW := Lib.hid hW
          have HE7 := Lib.hid hE
          clear hB hW hE
          go_wp2_with fail
          go_meet
          exact ⟨_, B2, d2, rfl, rfl, rfl, HB, HE7, HW, Lib.hid (Nat.le_refl _)⟩
      case rest =>
      obtain ⟨g1, B2, d2, rfl, rfl, rfl, Ht, HE, HSx, HG1⟩ := hcut
      clear Key q0 q1 q2 q3 q4 q5 q6 q7 q8 q9 q10 q11 q12 q13
      have Hb2 := Lib.hid (Hb.out.keep HSx.out Hb.out.lt)
      have Hr2 := Lib.hid (Hr.out.keep HSx.out Hr.out.lt)
      have Hv2 := Lib.hid (Hv.out.keep HSx.out)
      have Hst2 := Lib.hid (Stp.trans Hst.out HSx.out)
      have Hle2 := Lib.hid (Nat.le_trans Hle.out HSx.out.size)
      by_cases he : e0 = 0
      · subst he
        have Hgl2 := Hgl1
        have HS2 := Lib.hid (show SmallS t by have := step_small Hss.out b; rw [Hst0.out] at this; exact this)
        have Hvo := Lib.hid (show ∀ q, u8.ownBlock = some q → g0 + 2 ≤ q from fun q e => (Hv2.out.own q e).1)
        obtain ⟨w4, hw4⟩ : ∃ x, wc = x := ⟨_, rfl⟩
        rw [hw4] at Hb2 Hr2 Hv2 HE Hst2 Hle2 Ht ⊢
        clear hw4
        obtain ⟨q0, q1, q2, q3, q4, q5, q6, q7, q8, q9, q10, q11, q12, q13⟩ := st_cells Hb2.out
        obtain ⟨m0, m1, m2, m3, m4, m5, m6, m7, m8, m9, m10, m11, m12, m13⟩ := st_cells Ht.out
        have hz := pst_free Hb2.out
        have HGl := Lib.hid (show w.heap.size ≤ g0 + 2 by have := HG0.out; omega)
        go_upto_region 9 with fail
        change Code.wp _ _ _ _ (fillP w4 g0 t)
        have hb6 : Blk (fillP w4 g0 t) g0 50 (scells t) := fills_one t Hb2.out
        have hr6 : Blk (fillP w4 g0 t) (g0 + 1) 50 (scells zeroS) := fillC_other (Nat.succ_ne_self g0) (scells t).toList 0 _ Hr2.out
        have hv6 : RowE (fillP w4 g0 t) (g0 + 2) u8 xs := fillC_row (g := g0) (Nat.lt_add_of_pos_right (by decide)) (scells t).toList 0 _ Hv2.out
        have he6 : RdE (fillP w4 g0 t) B2 d2 y := filla_keepEz t HE.out Hb2.out
        have hst6 : Stp w (fillP w4 g0 t) := fills_st (g := g0) t Hst2.out (Nat.le_of_eq HG0.out)
        have hle6 : g0 + 2 ≤ (fillP w4 g0 t).heap.size := Nat.le_trans Hle2.out (fillP_tch (g := g0) (v := .slice none 0 0) t (Tch.refl g0 _ w4)).size
        generalize fillP w4 g0 t = w6 at hb6 hr6 hv6 he6 hst6 hle6 ⊢
        have Hb6 := Lib.hid hb6
        have Hr6 := Lib.hid hr6
        have Hv6 := Lib.hid hv6
        have He6 := Lib.hid he6
        have Hst6 := Lib.hid hst6
        have Hle6 := Lib.hid hle6
        have Hn0 := Lib.hid (show u8.ownBlock ≠ some g0 from fun e => by have h1 := Hvo.out g0 e; omega)
        have Hn1 := Lib.hid (show u8.ownBlock ≠ some (g0 + 1) from fun e => by have h1 := Hvo.out (g0 + 1) e; omega)
        have HLen := Lib.hid (show xs.length + y.length ≤ 1000000 by have h1 := Hlx.out; have h2 := HL2.out; have h3 := HN1.out; omega)
        clear q0 q1 q2 q3 q4 q5 q6 q7 q8 q9 q10 q11 q12 q13 m0 m1 m2 m3 m4 m5 m6 m7 m8 m9 m10 m11 m12 m13 hz hb6 hr6 hv6 he6 hst6 hle6
        go_upto_region 10 with (at_builtin; go_loud (refine wpList_app_evs _ (by rfl) (.tmp 36) (.tmp 37) rfl (g0 + 2) u8 xs rfl Hv6.out y _ y.length _ rfl He6.out rfl HLen.out Hle6.out ?_; intro v7 w7 hR hg; have HV7 := Lib.hid hR; have HB7 := Lib.hid (Blk.grown Hb6.out hg (Ne.symm Hn0.out)); have HR7 := Lib.hid (Blk.grown Hr6.out hg (Ne.symm Hn1.out)); have HW7 := Lib.hid (Hv6.out.stp Hst6.out HGl.out hg); have HL7 := Lib.hid (Nat.le_trans Hle6.out hg.size); clear hR hg))
        obtain ⟨q0, q1, q2, q3, q4, q5, q6, q7, q8, q9, q10, q11, q12, q13⟩ := st_cells HB7.out
        by_cases h5 : t.phase = 5
        · have HF := Lib.hid (Hgl2.out.symm.trans (glue_end _ Hst0.out h5))
          have hq5 : (t.phase == 5) = true := by rw [h5]; rfl
          clear h5
          obtain ⟨r0, r1, r2, r3, r4, r5, r6, r7, r8, r9, r10, r11, r12, r13⟩ := st_cells HR7.out
          have hz := pst_free HR7.out
          go_wp2_with fail
          change bodyPost _ _ _ _ _ (fillP w7 (g0 + 1) t)
          have hB := fills_one t (HR7.out)
          have hW := fills_st (g := g0 + 1) t (HW7.out) (by have := HG0.out; omega)
          have hV : RowE (fillP w7 (g0 + 1) t) (g0 + 2) v7 (xs ++ y) := fillC_row (g := g0 + 1) (Nat.lt_succ_self (g0 + 1)) (scells t).toList 0 _ (HV7.out)
          generalize fillP w7 (g0 + 1) t = W7 at hB hW hV ⊢
          clear q0 q1 q2 q3 q4 q5 q6 q7 q8 q9 q10 q11 q12 q13 r0 r1 r2 r3 r4 r5 r6 r7 r8 r9 r10 r11 r12 r13 hz
          obtain ⟨r0, r1, r2, r3, r4, r5, r6, r7, r8, r9, r10, r11, r12, r13⟩ := st_cells hB
          have hk1 := HN1.out
          refine bodyPost_ret (v := .tuple #[sv t, v7, .int .i64 ((k : Int) + 1), .int .i64 0]) (by simp [results, Tryz.results20, go_sem, r0, r1, r2, r3, r4, r5, r6, r7, r8, r9, r10, r11, r12, r13]; unfold wrap64; omega) rfl ⟨v7, by rw [HF.out]; rfl, by rw [HF.out]; exact hV.rd', hW⟩
        · have HF := Lib.hid (Hgl2.out.symm.trans (glue_on _ Hst0.out h5))
          have hq5 : (t.phase == 5) = false := beq_eq_false_iff_ne.2 h5
          have hk1 := HN1.out
          clear h5
          go_wp2_with fail
          go_roundw
          case rel => exact ⟨k + 1, t, xs ++ y, by omega, by go_num, HB7, HR7, HV7, HW7, HL7, Lib.hid HF.out.symm, HS2, Lib.hid (by have h1 := Hlx.out; have h2 := HL2.out; rw [List.length_append]; omega)⟩
          case measure => simp [intOf]; omega
      · have HF := Lib.hid (Hgl1.out.symm.trans (glue_bad _ Hst0.out he))
        have hne : (e0 != 0) = true := by rw [bne_iff_ne]; exact he
        have HE0 := Lib.hid he
        clear he
        obtain ⟨q0, q1, q2, q3, q4, q5, q6, q7, q8, q9, q10, q11, q12, q13⟩ := st_cells Hb2.out
        obtain ⟨r0, r1, r2, r3, r4, r5, r6, r7, r8, r9, r10, r11, r12, r13⟩ := st_cells Hr2.out
        have hz := pst_free Hr2.out
        go_wp2_with fail
        change bodyPost _ _ _ _ _ (fillP wc (g0 + 1) sk)
        have hB := fills_one sk Hr2.out
        have hW := fills_st (g := g0 + 1) sk Hst2.out (by have := HG0.out; omega)
        have hV : RowE (fillP wc (g0 + 1) sk) (g0 + 2) u8 xs := fillC_row (g := g0 + 1) (Nat.lt_succ_self (g0 + 1)) (scells sk).toList 0 _ Hv2.out
        generalize fillP wc (g0 + 1) sk = W7 at hB hW hV ⊢
        clear q0 q1 q2 q3 q4 q5 q6 q7 q8 q9 q10 q11 q12 q13 r0 r1 r2 r3 r4 r5 r6 r7 r8 r9 r10 r11 r12 r13 hz
        obtain ⟨r0, r1, r2, r3, r4, r5, r6, r7, r8, r9, r10, r11, r12, r13⟩ := st_cells hB
        refine bodyPost_ret (v := .tuple #[sv sk, u8, .int .i64 (k : Int), .int .i64 e0]) (by simp [results, Tryz.results20, go_sem, r0, r1, r2, r3, r4, r5, r6, r7, r8, r9, r10, r11, r12, r13]) rfl ⟨u8, by rw [HF.out], by rw [HF.out]; exact hV.rd', hW⟩
    · obtain rfl : k = n := by omega
      have g5 : decide ((k : Int) < (k : Int)) = false := decide_eq_false (by omega)
      obtain ⟨r0, r1, r2, r3, r4, r5, r6, r7, r8, r9, r10, r11, r12, r13⟩ := st_cells Hr.out
      have hz := pst_free Hr.out
      have HF := Lib.hid (show r = (sk, xs, k, 0) from Hgl.out.symm.trans (by rw [List.drop_of_length_le (Nat.le_of_eq HN.out)]; exact glue_nil sk xs k))
      clear hlt
      go_wp2_with fail
      change bodyPost _ _ _ _ _ (fillP (wr) (g0 + 1) sk)
      have hB := fills_one sk (Hr.out)
      have hW := fills_st (g := g0 + 1) sk (Hst.out) (by have := HG0.out; omega)
      have hV : RowE (fillP (wr) (g0 + 1) sk) (g0 + 2) u8 xs := fillC_row (g := g0 + 1) (Nat.lt_succ_self (g0 + 1)) (scells sk).toList 0 _ (Hv.out)
      generalize fillP (wr) (g0 + 1) sk = W7 at hB hW hV ⊢
      clear q0 q1 q2 q3 q4 q5 q6 q7 q8 q9 q10 q11 q12 q13 r0 r1 r2 r3 r4 r5 r6 r7 r8 r9 r10 r11 r12 r13 hz
      obtain ⟨r0, r1, r2, r3, r4, r5, r6, r7, r8, r9, r10, r11, r12, r13⟩ := st_cells hB
      refine bodyPost_ret (v := .tuple #[sv sk, u8, .int .i64 (k : Int), .int .i64 0]) (by simp [results, Tryz.results20, go_sem, r0, r1, r2, r3, r4, r5, r6, r7, r8, r9, r10, r11, r12, r13]) rfl ⟨u8, by rw [HF.out], by rw [HF.out]; exact hV.rd', hW⟩
end Go.Proofs.YtgjdbbhfgfodlaaGreat.Parse

namespace Go.Proofs.YtgjdbbhfgfodlaaGreat.Parse
open Go.RowKit Go.Proofs.YtgjdbbhfgfodlaaGreat.Str Go.Proofs.YtgjdbbhfgfodlaaGreat.Base Go.Proofs.YtgjdbbhfgfodlaaGreat.Node Go.Proofs.YtgjdbbhfgfodlaaGreat.Long
open Go.Proofs.YtgjdbbhfgfodlaaGreat.Tree (oneB)

end Go.Proofs.YtgjdbbhfgfodlaaGreat.Parse

