/-
  The document's own answers on parse: a header, over a node's contract. No statement is proved here.
  The document's own answers on parse: all of their contracts, and the walk of the law ParseTells over any slices. No statement is proved here.
-/
import Derived.Test.YtgjdbbhfgfodlaaGreatParseRef6
import Derived.Test.YtgjdbbhfgfodlaaGreatHeadRef6
import Derived.Test.YtgjdbbhfgfodlaaGreatHeadHlp
import Derived.Test.YtgjdbbhfgfodlaaGreatParseR7
import Derived.Test.YtgjdbbhfgfodlaaGreatParseRef4
namespace Go.Proofs.YtgjdbbhfgfodlaaGreat.Parse
open Go.RowKit Go.Proofs.YtgjdbbhfgfodlaaGreat.Str Go.Proofs.YtgjdbbhfgfodlaaGreat.Base Go.Proofs.YtgjdbbhfgfodlaaGreat.Node Go.Proofs.YtgjdbbhfgfodlaaGreat.Long Go.Proofs.YtgjdbbhfgfodlaaGreat.Head
open Go.Proofs.YtgjdbbhfgfodlaaGreat.Tree (oneB)

def NodeD : Prop := ∀ (s : St) (h : Hd) (v u : Value), v = sv s → u = hv h → s.name.length ≤ 400 → s.link.length ≤ 400 → h.pre.length ≤ 400 → h.name.length ≤ 400 → 0 ≤ h.size → SmallN (nodeH s h) → ∀ w : World,
  Calls Tryz.prog 37 #[v, u] w fun e w' => ∃ B d, e = .returned (.tuple #[sv (nodeS s h).1, .slice B (nodeS s h).2.1.length d, .int .i64 (nodeS s h).2.2]) ∧ RdE w' B d (nodeS s h).2.1 ∧ Stp w w'
theorem head_all (s : St) (hm : mayS s = true) (hp : s.phase = 0) (b : L) (hc : codeB b = 0) : s.name.length ≤ 400 ∧ s.link.length ≤ 400 ∧ (getH b).pre.length ≤ 400 ∧ (getH b).name.length ≤ 400 ∧ 0 ≤ (getH b).size ∧ SmallN (nodeH s (getH b)) := by
  have h1 := (head_iff hp).1 hm
  have l1 := longB_len h1.2.2.1
  have l2 := longB_len h1.2.2.2
  have h2 := head_may hc
  have h3 := head_lens h2.1
  exact ⟨by omega, by omega, h3.1, h3.2.1, (getH_size b).1, node_small (by omega) (by omega) h3 h2.2⟩
set_option maxRecDepth 100000 in
set_option maxHeartbeats 4000000 in
theorem rhead_zero (ND : NodeD) (s : St) (hm : mayS s = true) (hp : s.phase = 0) (hsm : SmallS s) (b : L) (hb : b.length = 512) (hc : codeB b = 4) : PartD 29 s b (headS s b) := by
  rintro v0 rfl A c w ha
  have hs1 := Stp.alloc (Stp.alloc (Stp.refl w) (.cells (scells s) 50)) (.cells (scells zeroS) 50)
  have H0 := Lib.hid hs1
  have Hb := Lib.hid ((Blk.new w 50 (scells s)).alloc (.cells (scells zeroS) 50))
  have Hr := Lib.hid (Blk.new (w.alloc (.cells (scells s) 50)) 50 (scells zeroS))
  rw [World.size_alloc] at Hr
  obtain ⟨g0, hg0⟩ : ∃ x, w.heap.size = x := ⟨_, rfl⟩
  have HG0 := Lib.hid hg0
  rw [hg0] at Hb Hr
  have Ha := Lib.hid (ha.keep hs1)
  have fin : ∀ (t : St) (W0 : World), Blk W0 (g0 + 1) 50 (scells zeroS) → Stp w W0 → Blk (fillA W0 (g0 + 1) t) (g0 + 1) 50 (scells t) ∧ Stp w (fillA W0 (g0 + 1) t) := fun t W0 h1 h2 => ⟨filla_blk t h1, filla_st t h2 (by have := HG0.out; omega)⟩
  have Fin := Lib.hid fin
  have hgt : ∀ W, RdA W A c (bs b) → Calls Tryz.prog 36 #[.slice A 512 c] W fun e w' => e = .returned (.tuple #[hv (getH b), .int .i64 (codeB b)]) ∧ Stp W w' := by
    intro W hW
    have := rGet_s b A c W hW
    rw [hb] at this
    exact this
  obtain ⟨H, hH⟩ : ∃ x, getH b = x := ⟨_, rfl⟩
  obtain ⟨E, hE⟩ : ∃ x, codeB b = x := ⟨_, rfl⟩
  obtain ⟨rr, hrr⟩ : ∃ x, headS s b = x := ⟨_, rfl⟩
  have hall := head_all s hm hp b
  rw [hH, hE] at hgt
  rw [hrr]
  have HGt := Lib.hid hgt
  have HH := Lib.hid hH
  have HE0 := Lib.hid hE
  have HRR := Lib.hid hrr
  have HND := Lib.hid ND
  have HAll := Lib.hid hall
  have HSm := Lib.hid hsm
  have Hc := Lib.hid (show E = 4 by rw [← hE]; exact hc)
  clear hc
  clear fin ha hsm ND hb hs1 hm hp hgt hH hE hrr hall
  obtain ⟨q0, q1, q2, q3, q4, q5, q6, q7, q8, q9, q10, q11, q12, q13⟩ := st_cells Hb.out
  go_enter Tryz.func29, Tryz.ntmps29
  go_upto_region 2 with (go_at_call 36; (refine (HGt.out _ Ha.out).mono ?_); rintro e w2 ⟨rfl, hs⟩; replace H0 := Lib.hid (Stp.trans H0.out hs); replace Hb := Lib.hid (Hb.out.keep hs Hb.out.lt); replace Hr := Lib.hid (Hr.out.keep hs Hr.out.lt); clear hs Ha q0 q1 q2 q3 q4 q5 q6 q7 q8 q9 q10 q11 q12 q13)
  obtain ⟨g1, hg1⟩ : ∃ x, w2.heap.size = x := ⟨_, rfl⟩
  have Hh := Lib.hid (Blk.new w2 68 (hcells H))
  have hs4 := Stp.alloc (Stp.refl w2) (.cells (hcells H) 68)
  obtain ⟨w3, hw5⟩ : ∃ x, w2.alloc (.cells (hcells H) 68) = x := ⟨_, rfl⟩
  have hw6 := hw5
  simp only [Head.hcells] at hw6
  rw [hw5] at Hh hs4
  rw [hg1] at Hh
  replace Hr := Lib.hid (Hr.out.keep hs4 Hr.out.lt)
  replace Hb := Lib.hid (Hb.out.keep hs4 Hb.out.lt)
  replace H0 := Lib.hid (Stp.trans H0.out hs4)
  simp only [hg1]
  rw [hw6]
  clear hw5 hw6 hg1 hs4
  obtain ⟨q0, q1, q2, q3, q4, q5, q6, q7, q8, q9, q10, q11, q12, q13⟩ := st_cells Hb.out
  obtain ⟨r0, r1, r2, r3, r4, r5, r6, r7, r8, r9, r10, r11, r12, r13⟩ := st_cells Hr.out
  obtain ⟨c0, c1, c2, c3, c4, c5, c6, c7, c8, c9, c10⟩ := hd_cells Hh.out
  have hz := rfree Hr.out
  have hy := rfree Hb.out
  have ke4 : (E == 4) = true := by rw [Hc.out]; rfl
  obtain ⟨xa, hxa⟩ : ∃ x, s.name.isEmpty = x := ⟨_, rfl⟩
  obtain ⟨la, hla⟩ : ∃ x, s.link.isEmpty = x := ⟨_, rfl⟩
  have HX := Lib.hid hxa
  have HLa := Lib.hid hla
  cases xa
  · have He := Lib.hid (show rr = (s, [], 2) by rw [← HRR.out]; unfold headS; rw [if_pos (HE0.out.trans Hc.out), if_neg (fun q => by rw [q.1] at hxa; cases hxa)])
    go_wp2_with fail
    change bodyPost _ _ _ _ _ (fillA w3 (g0 + 1) s)
    obtain ⟨hB, hW⟩ := Fin.out s w3 Hr.out H0.out
    generalize fillA w3 (g0 + 1) s = W7 at hB hW ⊢
    clear q0 q1 q2 q3 q4 q5 q6 q7 q8 q9 q10 q11 q12 q13 r0 r1 r2 r3 r4 r5 r6 r7 r8 r9 r10 r11 r12 r13 c0 c1 c2 c3 c4 c5 c6 c7 c8 c9 c10 hz hy
    obtain ⟨r0, r1, r2, r3, r4, r5, r6, r7, r8, r9, r10, r11, r12, r13⟩ := st_cells hB
    exact bodyPost_ret (v := .tuple #[sv s, .slice none 0 0, .int .i64 2]) (by simp [results, Tryz.results29, go_sem, r0, r1, r2, r3, r4, r5, r6, r7, r8, r9, r10, r11, r12, r13]) rfl ⟨none, 0, by rw [He.out]; rfl, by rw [He.out]; exact RdE.nil _, hW⟩
  · cases la
    · have He := Lib.hid (show rr = (s, [], 2) by rw [← HRR.out]; unfold headS; rw [if_pos (HE0.out.trans Hc.out), if_neg (fun q => by rw [q.2] at hla; cases hla)])
      go_wp2_with fail
      change bodyPost _ _ _ _ _ (fillA w3 (g0 + 1) s)
      obtain ⟨hB, hW⟩ := Fin.out s w3 Hr.out H0.out
      generalize fillA w3 (g0 + 1) s = W7 at hB hW ⊢
      clear q0 q1 q2 q3 q4 q5 q6 q7 q8 q9 q10 q11 q12 q13 r0 r1 r2 r3 r4 r5 r6 r7 r8 r9 r10 r11 r12 r13 c0 c1 c2 c3 c4 c5 c6 c7 c8 c9 c10 hz hy
      obtain ⟨r0, r1, r2, r3, r4, r5, r6, r7, r8, r9, r10, r11, r12, r13⟩ := st_cells hB
      exact bodyPost_ret (v := .tuple #[sv s, .slice none 0 0, .int .i64 2]) (by simp [results, Tryz.results29, go_sem, r0, r1, r2, r3, r4, r5, r6, r7, r8, r9, r10, r11, r12, r13]) rfl ⟨none, 0, by rw [He.out]; rfl, by rw [He.out]; exact RdE.nil _, hW⟩
    · have He := Lib.hid (show rr = (phS 4, [], 0) by rw [← HRR.out]; unfold headS; rw [if_pos (HE0.out.trans Hc.out), if_pos ⟨List.isEmpty_iff.1 hxa, List.isEmpty_iff.1 hla⟩])
      go_wp2_with fail
      change bodyPost _ _ _ _ _ (fillA w3 (g0 + 1) (phS 4))
      obtain ⟨hB, hW⟩ := Fin.out (phS 4) w3 Hr.out H0.out
      generalize fillA w3 (g0 + 1) (phS 4) = W7 at hB hW ⊢
      clear q0 q1 q2 q3 q4 q5 q6 q7 q8 q9 q10 q11 q12 q13 r0 r1 r2 r3 r4 r5 r6 r7 r8 r9 r10 r11 r12 r13 c0 c1 c2 c3 c4 c5 c6 c7 c8 c9 c10 hz hy
      obtain ⟨r0, r1, r2, r3, r4, r5, r6, r7, r8, r9, r10, r11, r12, r13⟩ := st_cells hB
      exact bodyPost_ret (v := .tuple #[sv (phS 4), .slice none 0 0, .int .i64 0]) (by simp [results, Tryz.results29, go_sem, r0, r1, r2, r3, r4, r5, r6, r7, r8, r9, r10, r11, r12, r13]) rfl ⟨none, 0, by rw [He.out]; rfl, by rw [He.out]; exact RdE.nil _, hW⟩
set_option maxRecDepth 100000 in
set_option maxHeartbeats 4000000 in
theorem rhead_err (ND : NodeD) (s : St) (hm : mayS s = true) (hp : s.phase = 0) (hsm : SmallS s) (b : L) (hb : b.length = 512) (hc : codeB b ≠ 0) (hc4 : codeB b ≠ 4) : PartD 29 s b (headS s b) := by
  rintro v0 rfl A c w ha
  have hs1 := Stp.alloc (Stp.alloc (Stp.refl w) (.cells (scells s) 50)) (.cells (scells zeroS) 50)
  have H0 := Lib.hid hs1
  have Hb := Lib.hid ((Blk.new w 50 (scells s)).alloc (.cells (scells zeroS) 50))
  have Hr := Lib.hid (Blk.new (w.alloc (.cells (scells s) 50)) 50 (scells zeroS))
  rw [World.size_alloc] at Hr
  obtain ⟨g0, hg0⟩ : ∃ x, w.heap.size = x := ⟨_, rfl⟩
  have HG0 := Lib.hid hg0
  rw [hg0] at Hb Hr
  have Ha := Lib.hid (ha.keep hs1)
  have fin : ∀ (t : St) (W0 : World), Blk W0 (g0 + 1) 50 (scells zeroS) → Stp w W0 → Blk (fillA W0 (g0 + 1) t) (g0 + 1) 50 (scells t) ∧ Stp w (fillA W0 (g0 + 1) t) := fun t W0 h1 h2 => ⟨filla_blk t h1, filla_st t h2 (by have := HG0.out; omega)⟩
  have Fin := Lib.hid fin
  have hgt : ∀ W, RdA W A c (bs b) → Calls Tryz.prog 36 #[.slice A 512 c] W fun e w' => e = .returned (.tuple #[hv (getH b), .int .i64 (codeB b)]) ∧ Stp W w' := by
    intro W hW
    have := rGet_s b A c W hW
    rw [hb] at this
    exact this
  obtain ⟨H, hH⟩ : ∃ x, getH b = x := ⟨_, rfl⟩
  obtain ⟨E, hE⟩ : ∃ x, codeB b = x := ⟨_, rfl⟩
  obtain ⟨rr, hrr⟩ : ∃ x, headS s b = x := ⟨_, rfl⟩
  have hall := head_all s hm hp b
  rw [hH, hE] at hgt
  rw [hrr]
  have HGt := Lib.hid hgt
  have HH := Lib.hid hH
  have HE0 := Lib.hid hE
  have HRR := Lib.hid hrr
  have HND := Lib.hid ND
  have HAll := Lib.hid hall
  have HSm := Lib.hid hsm
  have Hc := Lib.hid (show E ≠ 0 by rw [← hE]; exact hc)
  have Hc4 := Lib.hid (show E ≠ 4 by rw [← hE]; exact hc4)
  clear hc hc4
  clear fin ha hsm ND hb hs1 hm hp hgt hH hE hrr hall
  obtain ⟨q0, q1, q2, q3, q4, q5, q6, q7, q8, q9, q10, q11, q12, q13⟩ := st_cells Hb.out
  go_enter Tryz.func29, Tryz.ntmps29
  go_upto_region 2 with (go_at_call 36; (refine (HGt.out _ Ha.out).mono ?_); rintro e w2 ⟨rfl, hs⟩; replace H0 := Lib.hid (Stp.trans H0.out hs); replace Hb := Lib.hid (Hb.out.keep hs Hb.out.lt); replace Hr := Lib.hid (Hr.out.keep hs Hr.out.lt); clear hs Ha q0 q1 q2 q3 q4 q5 q6 q7 q8 q9 q10 q11 q12 q13)
  obtain ⟨g1, hg1⟩ : ∃ x, w2.heap.size = x := ⟨_, rfl⟩
  have Hh := Lib.hid (Blk.new w2 68 (hcells H))
  have hs4 := Stp.alloc (Stp.refl w2) (.cells (hcells H) 68)
  obtain ⟨w3, hw5⟩ : ∃ x, w2.alloc (.cells (hcells H) 68) = x := ⟨_, rfl⟩
  have hw6 := hw5
  simp only [Head.hcells] at hw6
  rw [hw5] at Hh hs4
  rw [hg1] at Hh
  replace Hr := Lib.hid (Hr.out.keep hs4 Hr.out.lt)
  replace Hb := Lib.hid (Hb.out.keep hs4 Hb.out.lt)
  replace H0 := Lib.hid (Stp.trans H0.out hs4)
  simp only [hg1]
  rw [hw6]
  clear hw5 hw6 hg1 hs4
  obtain ⟨q0, q1, q2, q3, q4, q5, q6, q7, q8, q9, q10, q11, q12, q13⟩ := st_cells Hb.out
  obtain ⟨r0, r1, r2, r3, r4, r5, r6, r7, r8, r9, r10, r11, r12, r13⟩ := st_cells Hr.out
  obtain ⟨c0, c1, c2, c3, c4, c5, c6, c7, c8, c9, c10⟩ := hd_cells Hh.out
  have hz := rfree Hr.out
  have hy := rfree Hb.out
  have ke4 : (E == 4) = false := beq_eq_false_iff_ne.2 Hc4.out
  have ke0 : (E != 0) = true := bne_iff_ne.2 Hc.out
  have He := Lib.hid (show rr = (s, [], E) by rw [← HRR.out]; unfold headS; rw [HE0.out, if_neg Hc4.out, if_pos Hc.out])
  go_wp2_with fail
  change bodyPost _ _ _ _ _ (fillA w3 (g0 + 1) s)
  obtain ⟨hB, hW⟩ := Fin.out s w3 Hr.out H0.out
  generalize fillA w3 (g0 + 1) s = W7 at hB hW ⊢
  clear q0 q1 q2 q3 q4 q5 q6 q7 q8 q9 q10 q11 q12 q13 r0 r1 r2 r3 r4 r5 r6 r7 r8 r9 r10 r11 r12 r13 c0 c1 c2 c3 c4 c5 c6 c7 c8 c9 c10 hz hy
  obtain ⟨r0, r1, r2, r3, r4, r5, r6, r7, r8, r9, r10, r11, r12, r13⟩ := st_cells hB
  exact bodyPost_ret (v := .tuple #[sv s, .slice none 0 0, .int .i64 E]) (by simp [results, Tryz.results29, go_sem, r0, r1, r2, r3, r4, r5, r6, r7, r8, r9, r10, r11, r12, r13]) rfl ⟨none, 0, by rw [He.out]; rfl, by rw [He.out]; exact RdE.nil _, hW⟩
set_option maxRecDepth 100000 in
set_option maxHeartbeats 4000000 in
theorem rhead_type (ND : NodeD) (s : St) (hm : mayS s = true) (hp : s.phase = 0) (hsm : SmallS s) (b : L) (hb : b.length = 512) (hc : codeB b = 0) (ht : typeB s (getH b) = true) : PartD 29 s b (headS s b) := by
  rintro v0 rfl A c w ha
  have hs1 := Stp.alloc (Stp.alloc (Stp.refl w) (.cells (scells s) 50)) (.cells (scells zeroS) 50)
  have H0 := Lib.hid hs1
  have Hb := Lib.hid ((Blk.new w 50 (scells s)).alloc (.cells (scells zeroS) 50))
  have Hr := Lib.hid (Blk.new (w.alloc (.cells (scells s) 50)) 50 (scells zeroS))
  rw [World.size_alloc] at Hr
  obtain ⟨g0, hg0⟩ : ∃ x, w.heap.size = x := ⟨_, rfl⟩
  have HG0 := Lib.hid hg0
  rw [hg0] at Hb Hr
  have Ha := Lib.hid (ha.keep hs1)
  have fin : ∀ (t : St) (W0 : World), Blk W0 (g0 + 1) 50 (scells zeroS) → Stp w W0 → Blk (fillA W0 (g0 + 1) t) (g0 + 1) 50 (scells t) ∧ Stp w (fillA W0 (g0 + 1) t) := fun t W0 h1 h2 => ⟨filla_blk t h1, filla_st t h2 (by have := HG0.out; omega)⟩
  have Fin := Lib.hid fin
  have hgt : ∀ W, RdA W A c (bs b) → Calls Tryz.prog 36 #[.slice A 512 c] W fun e w' => e = .returned (.tuple #[hv (getH b), .int .i64 (codeB b)]) ∧ Stp W w' := by
    intro W hW
    have := rGet_s b A c W hW
    rw [hb] at this
    exact this
  obtain ⟨H, hH⟩ : ∃ x, getH b = x := ⟨_, rfl⟩
  obtain ⟨E, hE⟩ : ∃ x, codeB b = x := ⟨_, rfl⟩
  obtain ⟨rr, hrr⟩ : ∃ x, headS s b = x := ⟨_, rfl⟩
  have hall := head_all s hm hp b
  rw [hH, hE] at hgt
  rw [hrr]
  have HGt := Lib.hid hgt
  have HH := Lib.hid hH
  have HE0 := Lib.hid hE
  have HRR := Lib.hid hrr
  have HND := Lib.hid ND
  have HAll := Lib.hid hall
  have HSm := Lib.hid hsm
  have Hc := Lib.hid (show E = 0 by rw [← hE]; exact hc)
  have Ht := Lib.hid (show typeB s H = true by rw [← hH]; exact ht)
  clear hc ht
  clear fin ha hsm ND hb hs1 hm hp hgt hH hE hrr hall
  obtain ⟨q0, q1, q2, q3, q4, q5, q6, q7, q8, q9, q10, q11, q12, q13⟩ := st_cells Hb.out
  go_enter Tryz.func29, Tryz.ntmps29
  go_upto_region 2 with (go_at_call 36; (refine (HGt.out _ Ha.out).mono ?_); rintro e w2 ⟨rfl, hs⟩; replace H0 := Lib.hid (Stp.trans H0.out hs); replace Hb := Lib.hid (Hb.out.keep hs Hb.out.lt); replace Hr := Lib.hid (Hr.out.keep hs Hr.out.lt); clear hs Ha q0 q1 q2 q3 q4 q5 q6 q7 q8 q9 q10 q11 q12 q13)
  obtain ⟨g1, hg1⟩ : ∃ x, w2.heap.size = x := ⟨_, rfl⟩
  have Hh := Lib.hid (Blk.new w2 68 (hcells H))
  have hs4 := Stp.alloc (Stp.refl w2) (.cells (hcells H) 68)
  obtain ⟨w3, hw5⟩ : ∃ x, w2.alloc (.cells (hcells H) 68) = x := ⟨_, rfl⟩
  have hw6 := hw5
  simp only [Head.hcells] at hw6
  rw [hw5] at Hh hs4
  rw [hg1] at Hh
  replace Hr := Lib.hid (Hr.out.keep hs4 Hr.out.lt)
  replace Hb := Lib.hid (Hb.out.keep hs4 Hb.out.lt)
  replace H0 := Lib.hid (Stp.trans H0.out hs4)
  simp only [hg1]
  rw [hw6]
  clear hw5 hw6 hg1 hs4
  obtain ⟨q0, q1, q2, q3, q4, q5, q6, q7, q8, q9, q10, q11, q12, q13⟩ := st_cells Hb.out
  obtain ⟨r0, r1, r2, r3, r4, r5, r6, r7, r8, r9, r10, r11, r12, r13⟩ := st_cells Hr.out
  obtain ⟨c0, c1, c2, c3, c4, c5, c6, c7, c8, c9, c10⟩ := hd_cells Hh.out
  have hz := rfree Hr.out
  have hy := rfree Hb.out
  have ke4 : (E == 4) = false := by rw [Hc.out]; rfl
  have ke0 : (E != 0) = false := by rw [Hc.out]; rfl
  have He := Lib.hid (show rr = (s, [], 5) by rw [← HRR.out]; unfold headS; rw [HE0.out, Hc.out, if_neg (by decide), if_neg (by decide), HH.out, if_pos Ht.out])
  have hor : H.ty = 77 ∨ H.ty = 86 ∨ (H.ty = 76 ∧ s.name ≠ []) ∨ (H.ty = 75 ∧ s.link ≠ []) := by
    have := Ht.out
    unfold typeB at this
    simpa using this
  rcases hor with hy0 | hy0 | ⟨hy0, hx⟩ | ⟨hy0, hx⟩
  · have t77 : ((H.ty.toNat : Int) == 77) = true := (ty_eq H.ty 77 (by decide)).trans (decide_eq_true (hy0))
    have t86 : ((H.ty.toNat : Int) == 86) = false := (ty_eq H.ty 86 (by decide)).trans (decide_eq_false (by rw [hy0]; decide))
    have t76 : ((H.ty.toNat : Int) == 76) = false := (ty_eq H.ty 76 (by decide)).trans (decide_eq_false (by rw [hy0]; decide))
    have t75 : ((H.ty.toNat : Int) == 75) = false := (ty_eq H.ty 75 (by decide)).trans (decide_eq_false (by rw [hy0]; decide))
    have n76 : ((H.ty.toNat : Int) != 76) = true := by rw [bne, t76]; rfl
    have n75 : ((H.ty.toNat : Int) != 75) = true := by rw [bne, t75]; rfl
    clear hy0
    go_wp2_with fail
    change bodyPost _ _ _ _ _ (fillA w3 (g0 + 1) s)
    obtain ⟨hB, hW⟩ := Fin.out s w3 Hr.out H0.out
    generalize fillA w3 (g0 + 1) s = W7 at hB hW ⊢
    clear q0 q1 q2 q3 q4 q5 q6 q7 q8 q9 q10 q11 q12 q13 r0 r1 r2 r3 r4 r5 r6 r7 r8 r9 r10 r11 r12 r13 c0 c1 c2 c3 c4 c5 c6 c7 c8 c9 c10 hz hy
    obtain ⟨r0, r1, r2, r3, r4, r5, r6, r7, r8, r9, r10, r11, r12, r13⟩ := st_cells hB
    exact bodyPost_ret (v := .tuple #[sv s, .slice none 0 0, .int .i64 5]) (by simp [results, Tryz.results29, go_sem, r0, r1, r2, r3, r4, r5, r6, r7, r8, r9, r10, r11, r12, r13]) rfl ⟨none, 0, by rw [He.out]; rfl, by rw [He.out]; exact RdE.nil _, hW⟩
  · have t77 : ((H.ty.toNat : Int) == 77) = false := (ty_eq H.ty 77 (by decide)).trans (decide_eq_false (by rw [hy0]; decide))
    have t86 : ((H.ty.toNat : Int) == 86) = true := (ty_eq H.ty 86 (by decide)).trans (decide_eq_true (hy0))
    have t76 : ((H.ty.toNat : Int) == 76) = false := (ty_eq H.ty 76 (by decide)).trans (decide_eq_false (by rw [hy0]; decide))
    have t75 : ((H.ty.toNat : Int) == 75) = false := (ty_eq H.ty 75 (by decide)).trans (decide_eq_false (by rw [hy0]; decide))
    have n76 : ((H.ty.toNat : Int) != 76) = true := by rw [bne, t76]; rfl
    have n75 : ((H.ty.toNat : Int) != 75) = true := by rw [bne, t75]; rfl
    clear hy0
    go_wp2_with fail
    change bodyPost _ _ _ _ _ (fillA w3 (g0 + 1) s)
    obtain ⟨hB, hW⟩ := Fin.out s w3 Hr.out H0.out
    generalize fillA w3 (g0 + 1) s = W7 at hB hW ⊢
    clear q0 q1 q2 q3 q4 q5 q6 q7 q8 q9 q10 q11 q12 q13 r0 r1 r2 r3 r4 r5 r6 r7 r8 r9 r10 r11 r12 r13 c0 c1 c2 c3 c4 c5 c6 c7 c8 c9 c10 hz hy
    obtain ⟨r0, r1, r2, r3, r4, r5, r6, r7, r8, r9, r10, r11, r12, r13⟩ := st_cells hB
    exact bodyPost_ret (v := .tuple #[sv s, .slice none 0 0, .int .i64 5]) (by simp [results, Tryz.results29, go_sem, r0, r1, r2, r3, r4, r5, r6, r7, r8, r9, r10, r11, r12, r13]) rfl ⟨none, 0, by rw [He.out]; rfl, by rw [He.out]; exact RdE.nil _, hW⟩
  · have t77 : ((H.ty.toNat : Int) == 77) = false := (ty_eq H.ty 77 (by decide)).trans (decide_eq_false (by rw [hy0]; decide))
    have t86 : ((H.ty.toNat : Int) == 86) = false := (ty_eq H.ty 86 (by decide)).trans (decide_eq_false (by rw [hy0]; decide))
    have t76 : ((H.ty.toNat : Int) == 76) = true := (ty_eq H.ty 76 (by decide)).trans (decide_eq_true (hy0))
    have t75 : ((H.ty.toNat : Int) == 75) = false := (ty_eq H.ty 75 (by decide)).trans (decide_eq_false (by rw [hy0]; decide))
    have n76 : ((H.ty.toNat : Int) != 76) = false := by rw [bne, t76]; rfl
    have n75 : ((H.ty.toNat : Int) != 75) = true := by rw [bne, t75]; rfl
    have hxa : s.name.isEmpty = false := by cases hn : s.name with
      | nil => exact absurd hn hx
      | cons a l => rfl
    clear hy0 hx
    go_wp2_with fail
    change bodyPost _ _ _ _ _ (fillA w3 (g0 + 1) s)
    obtain ⟨hB, hW⟩ := Fin.out s w3 Hr.out H0.out
    generalize fillA w3 (g0 + 1) s = W7 at hB hW ⊢
    clear q0 q1 q2 q3 q4 q5 q6 q7 q8 q9 q10 q11 q12 q13 r0 r1 r2 r3 r4 r5 r6 r7 r8 r9 r10 r11 r12 r13 c0 c1 c2 c3 c4 c5 c6 c7 c8 c9 c10 hz hy
    obtain ⟨r0, r1, r2, r3, r4, r5, r6, r7, r8, r9, r10, r11, r12, r13⟩ := st_cells hB
    exact bodyPost_ret (v := .tuple #[sv s, .slice none 0 0, .int .i64 5]) (by simp [results, Tryz.results29, go_sem, r0, r1, r2, r3, r4, r5, r6, r7, r8, r9, r10, r11, r12, r13]) rfl ⟨none, 0, by rw [He.out]; rfl, by rw [He.out]; exact RdE.nil _, hW⟩
  · have t77 : ((H.ty.toNat : Int) == 77) = false := (ty_eq H.ty 77 (by decide)).trans (decide_eq_false (by rw [hy0]; decide))
    have t86 : ((H.ty.toNat : Int) == 86) = false := (ty_eq H.ty 86 (by decide)).trans (decide_eq_false (by rw [hy0]; decide))
    have t76 : ((H.ty.toNat : Int) == 76) = false := (ty_eq H.ty 76 (by decide)).trans (decide_eq_false (by rw [hy0]; decide))
    have t75 : ((H.ty.toNat : Int) == 75) = true := (ty_eq H.ty 75 (by decide)).trans (decide_eq_true (hy0))
    have n76 : ((H.ty.toNat : Int) != 76) = true := by rw [bne, t76]; rfl
    have n75 : ((H.ty.toNat : Int) != 75) = false := by rw [bne, t75]; rfl
    have hxa : s.link.isEmpty = false := by cases hn : s.link with
      | nil => exact absurd hn hx
      | cons a l => rfl
    clear hy0 hx
    go_wp2_with fail
    change bodyPost _ _ _ _ _ (fillA w3 (g0 + 1) s)
    obtain ⟨hB, hW⟩ := Fin.out s w3 Hr.out H0.out
    generalize fillA w3 (g0 + 1) s = W7 at hB hW ⊢
    clear q0 q1 q2 q3 q4 q5 q6 q7 q8 q9 q10 q11 q12 q13 r0 r1 r2 r3 r4 r5 r6 r7 r8 r9 r10 r11 r12 r13 c0 c1 c2 c3 c4 c5 c6 c7 c8 c9 c10 hz hy
    obtain ⟨r0, r1, r2, r3, r4, r5, r6, r7, r8, r9, r10, r11, r12, r13⟩ := st_cells hB
    exact bodyPost_ret (v := .tuple #[sv s, .slice none 0 0, .int .i64 5]) (by simp [results, Tryz.results29, go_sem, r0, r1, r2, r3, r4, r5, r6, r7, r8, r9, r10, r11, r12, r13]) rfl ⟨none, 0, by rw [He.out]; rfl, by rw [He.out]; exact RdE.nil _, hW⟩
set_option maxRecDepth 100000 in
set_option maxHeartbeats 4000000 in
theorem rhead_node (ND : NodeD) (s : St) (hm : mayS s = true) (hp : s.phase = 0) (hsm : SmallS s) (b : L) (hb : b.length = 512) (hc : codeB b = 0) (ht : typeB s (getH b) = false) (h76 : (getH b).ty ≠ 76) (h75 : (getH b).ty ≠ 75) : PartD 29 s b (headS s b) := by
  rintro v0 rfl A c w ha
  have hs1 := Stp.alloc (Stp.alloc (Stp.refl w) (.cells (scells s) 50)) (.cells (scells zeroS) 50)
  have H0 := Lib.hid hs1
  have Hb := Lib.hid ((Blk.new w 50 (scells s)).alloc (.cells (scells zeroS) 50))
  have Hr := Lib.hid (Blk.new (w.alloc (.cells (scells s) 50)) 50 (scells zeroS))
  rw [World.size_alloc] at Hr
  obtain ⟨g0, hg0⟩ : ∃ x, w.heap.size = x := ⟨_, rfl⟩
  have HG0 := Lib.hid hg0
  rw [hg0] at Hb Hr
  have Ha := Lib.hid (ha.keep hs1)
  have fin : ∀ (t : St) (W0 : World), Blk W0 (g0 + 1) 50 (scells zeroS) → Stp w W0 → Blk (fillA W0 (g0 + 1) t) (g0 + 1) 50 (scells t) ∧ Stp w (fillA W0 (g0 + 1) t) := fun t W0 h1 h2 => ⟨filla_blk t h1, filla_st t h2 (by have := HG0.out; omega)⟩
  have Fin := Lib.hid fin
  have hgt : ∀ W, RdA W A c (bs b) → Calls Tryz.prog 36 #[.slice A 512 c] W fun e w' => e = .returned (.tuple #[hv (getH b), .int .i64 (codeB b)]) ∧ Stp W w' := by
    intro W hW
    have := rGet_s b A c W hW
    rw [hb] at this
    exact this
  obtain ⟨H, hH⟩ : ∃ x, getH b = x := ⟨_, rfl⟩
  obtain ⟨E, hE⟩ : ∃ x, codeB b = x := ⟨_, rfl⟩
  obtain ⟨rr, hrr⟩ : ∃ x, headS s b = x := ⟨_, rfl⟩
  have hall := head_all s hm hp b
  rw [hH, hE] at hgt
  rw [hrr]
  have HGt := Lib.hid hgt
  have HH := Lib.hid hH
  have HE0 := Lib.hid hE
  have HRR := Lib.hid hrr
  have HND := Lib.hid ND
  have HAll := Lib.hid hall
  have HSm := Lib.hid hsm
  have Hc := Lib.hid (show E = 0 by rw [← hE]; exact hc)
  have Ht := Lib.hid (show typeB s H = false by rw [← hH]; exact ht)
  have H76 := Lib.hid (show H.ty ≠ 76 by rw [← hH]; exact h76)
  have H75 := Lib.hid (show H.ty ≠ 75 by rw [← hH]; exact h75)
  clear hc ht h76 h75
  clear fin ha hsm ND hb hs1 hm hp hgt hH hE hrr hall
  obtain ⟨q0, q1, q2, q3, q4, q5, q6, q7, q8, q9, q10, q11, q12, q13⟩ := st_cells Hb.out
  go_enter Tryz.func29, Tryz.ntmps29
  go_upto_region 2 with (go_at_call 36; (refine (HGt.out _ Ha.out).mono ?_); rintro e w2 ⟨rfl, hs⟩; replace H0 := Lib.hid (Stp.trans H0.out hs); replace Hb := Lib.hid (Hb.out.keep hs Hb.out.lt); replace Hr := Lib.hid (Hr.out.keep hs Hr.out.lt); clear hs Ha q0 q1 q2 q3 q4 q5 q6 q7 q8 q9 q10 q11 q12 q13)
  obtain ⟨g1, hg1⟩ : ∃ x, w2.heap.size = x := ⟨_, rfl⟩
  have Hh := Lib.hid (Blk.new w2 68 (hcells H))
  have hs4 := Stp.alloc (Stp.refl w2) (.cells (hcells H) 68)
  obtain ⟨w3, hw5⟩ : ∃ x, w2.alloc (.cells (hcells H) 68) = x := ⟨_, rfl⟩
  have hw6 := hw5
  simp only [Head.hcells] at hw6
  rw [hw5] at Hh hs4
  rw [hg1] at Hh
  replace Hr := Lib.hid (Hr.out.keep hs4 Hr.out.lt)
  replace Hb := Lib.hid (Hb.out.keep hs4 Hb.out.lt)
  replace H0 := Lib.hid (Stp.trans H0.out hs4)
  simp only [hg1]
  rw [hw6]
  clear hw5 hw6 hg1 hs4
  obtain ⟨q0, q1, q2, q3, q4, q5, q6, q7, q8, q9, q10, q11, q12, q13⟩ := st_cells Hb.out
  obtain ⟨r0, r1, r2, r3, r4, r5, r6, r7, r8, r9, r10, r11, r12, r13⟩ := st_cells Hr.out
  obtain ⟨c0, c1, c2, c3, c4, c5, c6, c7, c8, c9, c10⟩ := hd_cells Hh.out
  have hz := rfree Hr.out
  have hy := rfree Hb.out
  have ke4 : (E == 4) = false := by rw [Hc.out]; rfl
  have ke0 : (E != 0) = false := by rw [Hc.out]; rfl
  have hor : H.ty ≠ 77 ∧ H.ty ≠ 86 := by
    have := Ht.out
    unfold typeB at this
    simp only [Bool.or_eq_false_iff, decide_eq_false_iff_not] at this
    exact ⟨this.1, this.2.1⟩
  obtain ⟨h77, h86⟩ := hor
  have t77 : ((H.ty.toNat : Int) == 77) = false := (ty_eq H.ty 77 (by decide)).trans (decide_eq_false (h77))
  have t86 : ((H.ty.toNat : Int) == 86) = false := (ty_eq H.ty 86 (by decide)).trans (decide_eq_false (h86))
  have t76 : ((H.ty.toNat : Int) == 76) = false := (ty_eq H.ty 76 (by decide)).trans (decide_eq_false (H76.out))
  have t75 : ((H.ty.toNat : Int) == 75) = false := (ty_eq H.ty 75 (by decide)).trans (decide_eq_false (H75.out))
  have n76 : ((H.ty.toNat : Int) != 76) = true := by rw [bne, t76]; rfl
  have n75 : ((H.ty.toNat : Int) != 75) = true := by rw [bne, t75]; rfl
  clear h77 h86
  obtain ⟨t, y, e0, hst⟩ : ∃ t y e0, nodeS s H = (t, y, e0) := ⟨_, _, _, rfl⟩
  have He := Lib.hid (show rr = (t, y, e0) by rw [← HRR.out]; unfold headS; rw [HE0.out, Hc.out, if_neg (by decide), if_neg (by decide), HH.out, if_neg (by rw [Ht.out]; decide), if_pos ⟨H76.out, H75.out⟩, hst])
  have HC := Lib.hid (show ∀ (v u : Value), v = sv s → u = hv H → ∀ w, Calls Tryz.prog 37 #[v, u] w fun e w' => ∃ B d, e = .returned (.tuple #[sv t, .slice B y.length d, .int .i64 e0]) ∧ RdE w' B d y ∧ Stp w w' from fun v u hv0 hu w => by
    have h1 := HAll.out (HE0.out.trans Hc.out)
    rw [HH.out] at h1
    have := HND.out s H v u hv0 hu h1.1 h1.2.1 h1.2.2.1 h1.2.2.2.1 h1.2.2.2.2.1 h1.2.2.2.2.2 w
    rw [hst] at this
    exact this)
  clear hst
  go_upto_region 12 with (go_at_call 37; (with_reducible refine (HC.out _ _ rfl rfl _).mono ?_); rintro e w4 ⟨B2, d2, rfl, hE, hs⟩; have HE := Lib.hid hE; have Hr4 := Lib.hid (Hr.out.keep hs Hr.out.lt); have H4 := Lib.hid (Stp.trans H0.out hs); clear hE hs q0 q1 q2 q3 q4 q5 q6 q7 q8 q9 q10 q11 q12 q13 r0 r1 r2 r3 r4 r5 r6 r7 r8 r9 r10 r11 r12 r13 c0 c1 c2 c3 c4 c5 c6 c7 c8 c9 c10 hz hy)
  obtain ⟨g2, hg1⟩ : ∃ x, w4.heap.size = x := ⟨_, rfl⟩
  have Ht4 := Lib.hid (Blk.new w4 50 (scells t))
  have hs4 := Stp.alloc (Stp.refl w4) (.cells (scells t) 50)
  obtain ⟨w5, hw5⟩ : ∃ x, w4.alloc (.cells (scells t) 50) = x := ⟨_, rfl⟩
  have hw6 := hw5
  simp only [Parse.scells] at hw6
  rw [hw5] at Ht4 hs4
  rw [hg1] at Ht4
  have Hr5 := Lib.hid (Hr4.out.keep hs4 Hr4.out.lt)
  have H5 := Lib.hid (Stp.trans H4.out hs4)
  have hE5 := HE.out.keep hs4
  have HE5 := Lib.hid hE5
  simp only [hg1]
  rw [hw6]
  clear hw5 hw6 hg1 hs4 hE5
  obtain ⟨m0, m1, m2, m3, m4, m5, m6, m7, m8, m9, m10, m11, m12, m13⟩ := st_cells Ht4.out
  obtain ⟨r0, r1, r2, r3, r4, r5, r6, r7, r8, r9, r10, r11, r12, r13⟩ := st_cells Hr5.out
  have hz := rfree Hr5.out
  go_wp2_with fail
  change bodyPost _ _ _ _ _ (fillA w5 (g0 + 1) t)
  obtain ⟨hB, hW⟩ := Fin.out t w5 Hr5.out H5.out
  have hE := filla_keepE t HE5.out Hr5.out
  generalize fillA w5 (g0 + 1) t = W7 at hB hW hE ⊢
  clear m0 m1 m2 m3 m4 m5 m6 m7 m8 m9 m10 m11 m12 m13 r0 r1 r2 r3 r4 r5 r6 r7 r8 r9 r10 r11 r12 r13 hz
  obtain ⟨r0, r1, r2, r3, r4, r5, r6, r7, r8, r9, r10, r11, r12, r13⟩ := st_cells hB
  exact bodyPost_ret (v := .tuple #[sv t, .slice B2 y.length d2, .int .i64 e0]) (by simp [results, Tryz.results29, go_sem, r0, r1, r2, r3, r4, r5, r6, r7, r8, r9, r10, r11, r12, r13]) rfl ⟨B2, d2, by rw [He.out], by rw [He.out]; exact hE, hW⟩
set_option maxRecDepth 100000 in
set_option maxHeartbeats 4000000 in
theorem rhead_long76 (ND : NodeD) (s : St) (hm : mayS s = true) (hp : s.phase = 0) (hsm : SmallS s) (b : L) (hb : b.length = 512) (hc : codeB b = 0) (hn0 : s.name = []) (hy0 : (getH b).ty = 76) : PartD 29 s b (headS s b) := by
  rintro v0 rfl A c w ha
  have hs1 := Stp.alloc (Stp.alloc (Stp.refl w) (.cells (scells s) 50)) (.cells (scells zeroS) 50)
  have H0 := Lib.hid hs1
  have Hb := Lib.hid ((Blk.new w 50 (scells s)).alloc (.cells (scells zeroS) 50))
  have Hr := Lib.hid (Blk.new (w.alloc (.cells (scells s) 50)) 50 (scells zeroS))
  rw [World.size_alloc] at Hr
  obtain ⟨g0, hg0⟩ : ∃ x, w.heap.size = x := ⟨_, rfl⟩
  have HG0 := Lib.hid hg0
  rw [hg0] at Hb Hr
  have Ha := Lib.hid (ha.keep hs1)
  have fin : ∀ (t : St) (W0 : World), Blk W0 (g0 + 1) 50 (scells zeroS) → Stp w W0 → Blk (fillA W0 (g0 + 1) t) (g0 + 1) 50 (scells t) ∧ Stp w (fillA W0 (g0 + 1) t) := fun t W0 h1 h2 => ⟨filla_blk t h1, filla_st t h2 (by have := HG0.out; omega)⟩
  have Fin := Lib.hid fin
  have hgt : ∀ W, RdA W A c (bs b) → Calls Tryz.prog 36 #[.slice A 512 c] W fun e w' => e = .returned (.tuple #[hv (getH b), .int .i64 (codeB b)]) ∧ Stp W w' := by
    intro W hW
    have := rGet_s b A c W hW
    rw [hb] at this
    exact this
  obtain ⟨H, hH⟩ : ∃ x, getH b = x := ⟨_, rfl⟩
  obtain ⟨E, hE⟩ : ∃ x, codeB b = x := ⟨_, rfl⟩
  obtain ⟨rr, hrr⟩ : ∃ x, headS s b = x := ⟨_, rfl⟩
  have hall := head_all s hm hp b
  rw [hH, hE] at hgt
  rw [hrr]
  have HGt := Lib.hid hgt
  have HH := Lib.hid hH
  have HE0 := Lib.hid hE
  have HRR := Lib.hid hrr
  have HND := Lib.hid ND
  have HAll := Lib.hid hall
  have HSm := Lib.hid hsm
  have Hc := Lib.hid (show E = 0 by rw [← hE]; exact hc)
  have Hx0 := Lib.hid hn0
  have Hy := Lib.hid (show H.ty = 76 by rw [← hH]; exact hy0)
  clear hc hn0 hy0
  clear fin ha hsm ND hb hs1 hm hp hgt hH hE hrr hall
  obtain ⟨q0, q1, q2, q3, q4, q5, q6, q7, q8, q9, q10, q11, q12, q13⟩ := st_cells Hb.out
  go_enter Tryz.func29, Tryz.ntmps29
  go_upto_region 2 with (go_at_call 36; (refine (HGt.out _ Ha.out).mono ?_); rintro e w2 ⟨rfl, hs⟩; replace H0 := Lib.hid (Stp.trans H0.out hs); replace Hb := Lib.hid (Hb.out.keep hs Hb.out.lt); replace Hr := Lib.hid (Hr.out.keep hs Hr.out.lt); clear hs Ha q0 q1 q2 q3 q4 q5 q6 q7 q8 q9 q10 q11 q12 q13)
  obtain ⟨g1, hg1⟩ : ∃ x, w2.heap.size = x := ⟨_, rfl⟩
  have Hh := Lib.hid (Blk.new w2 68 (hcells H))
  have hs4 := Stp.alloc (Stp.refl w2) (.cells (hcells H) 68)
  obtain ⟨w3, hw5⟩ : ∃ x, w2.alloc (.cells (hcells H) 68) = x := ⟨_, rfl⟩
  have hw6 := hw5
  simp only [Head.hcells] at hw6
  rw [hw5] at Hh hs4
  rw [hg1] at Hh
  replace Hr := Lib.hid (Hr.out.keep hs4 Hr.out.lt)
  replace Hb := Lib.hid (Hb.out.keep hs4 Hb.out.lt)
  replace H0 := Lib.hid (Stp.trans H0.out hs4)
  simp only [hg1]
  rw [hw6]
  clear hw5 hw6 hg1 hs4
  obtain ⟨q0, q1, q2, q3, q4, q5, q6, q7, q8, q9, q10, q11, q12, q13⟩ := st_cells Hb.out
  obtain ⟨r0, r1, r2, r3, r4, r5, r6, r7, r8, r9, r10, r11, r12, r13⟩ := st_cells Hr.out
  obtain ⟨c0, c1, c2, c3, c4, c5, c6, c7, c8, c9, c10⟩ := hd_cells Hh.out
  have hz := rfree Hr.out
  have hy := rfree Hb.out
  have ke4 : (E == 4) = false := by rw [Hc.out]; rfl
  have ke0 : (E != 0) = false := by rw [Hc.out]; rfl
  have hy0 := Hy.out
  have hxa : s.name.isEmpty = true := by rw [Hx0.out]; rfl
  have t77 : ((H.ty.toNat : Int) == 77) = false := (ty_eq H.ty 77 (by decide)).trans (decide_eq_false (by rw [hy0]; decide))
  have t86 : ((H.ty.toNat : Int) == 86) = false := (ty_eq H.ty 86 (by decide)).trans (decide_eq_false (by rw [hy0]; decide))
  have t76 : ((H.ty.toNat : Int) == 76) = true := (ty_eq H.ty 76 (by decide)).trans (decide_eq_true (hy0))
  have t75 : ((H.ty.toNat : Int) == 75) = false := (ty_eq H.ty 75 (by decide)).trans (decide_eq_false (by rw [hy0]; decide))
  have n76 : ((H.ty.toNat : Int) != 76) = false := by rw [bne, t76]; rfl
  have n75 : ((H.ty.toNat : Int) != 75) = true := by rw [bne, t75]; rfl
  have htb : typeB s H = false := by
    unfold typeB
    rw [hy0, Hx0.out]
    simp
  have hnn : ¬ (H.ty ≠ 76 ∧ H.ty ≠ 75) := by rw [hy0]; decide
  have hh : rr = if H.size < 2 ∨ 301 < H.size ∨ H ≠ longH H then (s, [], 2) else ({ s with phase := 1, size := H.size, left := H.size }, [], 0) := by
    rw [← HRR.out]
    unfold headS
    rw [HE0.out, Hc.out, if_neg (by decide), if_neg (by decide), HH.out, if_neg (by rw [htb]; decide), if_neg hnn, hy0]
    rfl
  have heq : ∀ w : World, (Op.equalIn 10000 68 (.agg #[.string ⟨H.name.toArray⟩, .string ⟨H.pre.toArray⟩, .string ⟨H.link.toArray⟩, .int .i64 H.mode, .int .i64 H.uid, .int .i64 H.gid, .int .i64 H.size, .int .i64 H.time, .int .u8 (H.ty.toNat : Int), .int .i64 H.off, .int .i64 H.real]) (.agg #[.string ⟨#[46, 47, 46, 47, 64, 76, 111, 110, 103, 76, 105, 110, 107]⟩, .string ⟨#[]⟩, .string ⟨#[]⟩, .int .i64 0, .int .i64 0, .int .i64 0, .int .i64 H.size, .int .i64 0, .int .u8 (H.ty.toNat : Int), .int .i64 0, .int .i64 0])).run Tryz.prog w = .ok (decide (H = longH H)) w := eq_heads H (longH H)
  have HHh := Lib.hid hh
  clear hh htb hnn hy0
  by_cases k1 : H.size < 2
  · have He := Lib.hid (show rr = (s, [], 2) by rw [HHh.out, if_pos (.inl k1)])
    have g1 : decide (H.size < 2) = true := decide_eq_true k1
    clear k1
    go_wp2_with fail
    change bodyPost _ _ _ _ _ (fillA w3 (g0 + 1) s)
    obtain ⟨hB, hW⟩ := Fin.out s w3 Hr.out H0.out
    generalize fillA w3 (g0 + 1) s = W7 at hB hW ⊢
    clear q0 q1 q2 q3 q4 q5 q6 q7 q8 q9 q10 q11 q12 q13 r0 r1 r2 r3 r4 r5 r6 r7 r8 r9 r10 r11 r12 r13 c0 c1 c2 c3 c4 c5 c6 c7 c8 c9 c10 hz hy
    obtain ⟨r0, r1, r2, r3, r4, r5, r6, r7, r8, r9, r10, r11, r12, r13⟩ := st_cells hB
    exact bodyPost_ret (v := .tuple #[sv s, .slice none 0 0, .int .i64 2]) (by simp [results, Tryz.results29, go_sem, r0, r1, r2, r3, r4, r5, r6, r7, r8, r9, r10, r11, r12, r13]) rfl ⟨none, 0, by rw [He.out]; rfl, by rw [He.out]; exact RdE.nil _, hW⟩
  have g1 : decide (H.size < 2) = false := decide_eq_false k1
  by_cases k2 : 301 < H.size
  · have He := Lib.hid (show rr = (s, [], 2) by rw [HHh.out, if_pos (.inr (.inl k2))])
    have g2 : decide (301 < H.size) = true := decide_eq_true k2
    clear k1 k2
    go_wp2_with fail
    change bodyPost _ _ _ _ _ (fillA w3 (g0 + 1) s)
    obtain ⟨hB, hW⟩ := Fin.out s w3 Hr.out H0.out
    generalize fillA w3 (g0 + 1) s = W7 at hB hW ⊢
    clear q0 q1 q2 q3 q4 q5 q6 q7 q8 q9 q10 q11 q12 q13 r0 r1 r2 r3 r4 r5 r6 r7 r8 r9 r10 r11 r12 r13 c0 c1 c2 c3 c4 c5 c6 c7 c8 c9 c10 hz hy
    obtain ⟨r0, r1, r2, r3, r4, r5, r6, r7, r8, r9, r10, r11, r12, r13⟩ := st_cells hB
    exact bodyPost_ret (v := .tuple #[sv s, .slice none 0 0, .int .i64 2]) (by simp [results, Tryz.results29, go_sem, r0, r1, r2, r3, r4, r5, r6, r7, r8, r9, r10, r11, r12, r13]) rfl ⟨none, 0, by rw [He.out]; rfl, by rw [He.out]; exact RdE.nil _, hW⟩
  have g2 : decide (301 < H.size) = false := decide_eq_false k2
  by_cases k3 : H = longH H
  case neg =>
    have He := Lib.hid (show rr = (s, [], 2) by rw [HHh.out, if_pos (.inr (.inr k3))])
    rw [decide_eq_false k3] at heq
    clear k1 k2 k3
    go_wp2_with fail
    change bodyPost _ _ _ _ _ (fillA w3 (g0 + 1) s)
    obtain ⟨hB, hW⟩ := Fin.out s w3 Hr.out H0.out
    generalize fillA w3 (g0 + 1) s = W7 at hB hW ⊢
    clear q0 q1 q2 q3 q4 q5 q6 q7 q8 q9 q10 q11 q12 q13 r0 r1 r2 r3 r4 r5 r6 r7 r8 r9 r10 r11 r12 r13 c0 c1 c2 c3 c4 c5 c6 c7 c8 c9 c10 hz hy
    obtain ⟨r0, r1, r2, r3, r4, r5, r6, r7, r8, r9, r10, r11, r12, r13⟩ := st_cells hB
    exact bodyPost_ret (v := .tuple #[sv s, .slice none 0 0, .int .i64 2]) (by simp [results, Tryz.results29, go_sem, r0, r1, r2, r3, r4, r5, r6, r7, r8, r9, r10, r11, r12, r13]) rfl ⟨none, 0, by rw [He.out]; rfl, by rw [He.out]; exact RdE.nil _, hW⟩
  have He := Lib.hid (show rr = ({ s with phase := 1, size := H.size, left := H.size }, [], 0) by rw [HHh.out, if_neg (fun q => q.elim k1 (fun q => q.elim k2 (fun q => q k3)))])
  rw [decide_eq_true k3] at heq
  clear k1 k2 k3
  go_upto_region 20 with fail
  obtain ⟨S, hS⟩ : ∃ S, { s with phase := 1, size := H.size, left := H.size } = S := ⟨_, rfl⟩
  have hb5 : Blk ((((w3.setCell ⟨g0, 0, none⟩ (.int .i64 1)).setCell ⟨g0, 9, none⟩ (.int .i64 H.size)).setCell ⟨g0, 10, none⟩ (.int .i64 H.size))) g0 50 (scells { s with phase := 1, size := H.size, left := H.size }) := (((Hb.out.put 0 _).put 9 _).put 10 _)
  have hst5 : Stp w ((((w3.setCell ⟨g0, 0, none⟩ (.int .i64 1)).setCell ⟨g0, 9, none⟩ (.int .i64 H.size)).setCell ⟨g0, 10, none⟩ (.int .i64 H.size))) := (Below.setCell (Below.setCell (Below.setCell H0.out (p := ⟨g0, 0, none⟩) (Nat.le_of_eq HG0.out) _) (p := ⟨g0, 9, none⟩) (Nat.le_of_eq HG0.out) _) (p := ⟨g0, 10, none⟩) (Nat.le_of_eq HG0.out) _)
  have hr5 : Blk ((((w3.setCell ⟨g0, 0, none⟩ (.int .i64 1)).setCell ⟨g0, 9, none⟩ (.int .i64 H.size)).setCell ⟨g0, 10, none⟩ (.int .i64 H.size))) (g0 + 1) 50 (scells zeroS) := (Blk.far (p := ⟨g0, 10, none⟩) (Blk.far (p := ⟨g0, 9, none⟩) (Blk.far (p := ⟨g0, 0, none⟩) Hr.out (Nat.succ_ne_self g0) _) (Nat.succ_ne_self g0) _) (Nat.succ_ne_self g0) _)
  change Code.wp _ _ _ _ ((((w3.setCell ⟨g0, 0, none⟩ (.int .i64 1)).setCell ⟨g0, 9, none⟩ (.int .i64 H.size)).setCell ⟨g0, 10, none⟩ (.int .i64 H.size)))
  generalize (((w3.setCell ⟨g0, 0, none⟩ (.int .i64 1)).setCell ⟨g0, 9, none⟩ (.int .i64 H.size)).setCell ⟨g0, 10, none⟩ (.int .i64 H.size)) = w5 at hb5 hst5 hr5 ⊢
  rw [hS] at hb5 He
  have HB5 := Lib.hid hb5
  have HST5 := Lib.hid hst5
  have HR5 := Lib.hid hr5
  clear hS q0 q1 q2 q3 q4 q5 q6 q7 q8 q9 q10 q11 q12 q13 r0 r1 r2 r3 r4 r5 r6 r7 r8 r9 r10 r11 r12 r13 c0 c1 c2 c3 c4 c5 c6 c7 c8 c9 c10 hz hy hb5 hst5 hr5
  obtain ⟨q0, q1, q2, q3, q4, q5, q6, q7, q8, q9, q10, q11, q12, q13⟩ := st_cells HB5.out
  obtain ⟨r0, r1, r2, r3, r4, r5, r6, r7, r8, r9, r10, r11, r12, r13⟩ := st_cells HR5.out
  have hz := rfree HR5.out
  go_wp2_with fail
  change bodyPost _ _ _ _ _ (fillA w5 (g0 + 1) S)
  obtain ⟨hB, hW⟩ := Fin.out S w5 HR5.out HST5.out
  generalize fillA w5 (g0 + 1) S = W7 at hB hW ⊢
  clear q0 q1 q2 q3 q4 q5 q6 q7 q8 q9 q10 q11 q12 q13 r0 r1 r2 r3 r4 r5 r6 r7 r8 r9 r10 r11 r12 r13 hz
  obtain ⟨r0, r1, r2, r3, r4, r5, r6, r7, r8, r9, r10, r11, r12, r13⟩ := st_cells hB
  exact bodyPost_ret (v := .tuple #[sv S, .slice none 0 0, .int .i64 0]) (by simp [results, Tryz.results29, go_sem, r0, r1, r2, r3, r4, r5, r6, r7, r8, r9, r10, r11, r12, r13]) rfl ⟨none, 0, by rw [He.out]; rfl, by rw [He.out]; exact RdE.nil _, hW⟩
set_option maxRecDepth 100000 in
set_option maxHeartbeats 4000000 in
theorem rhead_long75 (ND : NodeD) (s : St) (hm : mayS s = true) (hp : s.phase = 0) (hsm : SmallS s) (b : L) (hb : b.length = 512) (hc : codeB b = 0) (hn0 : s.link = []) (hy0 : (getH b).ty = 75) : PartD 29 s b (headS s b) := by
  rintro v0 rfl A c w ha
  have hs1 := Stp.alloc (Stp.alloc (Stp.refl w) (.cells (scells s) 50)) (.cells (scells zeroS) 50)
  have H0 := Lib.hid hs1
  have Hb := Lib.hid ((Blk.new w 50 (scells s)).alloc (.cells (scells zeroS) 50))
  have Hr := Lib.hid (Blk.new (w.alloc (.cells (scells s) 50)) 50 (scells zeroS))
  rw [World.size_alloc] at Hr
  obtain ⟨g0, hg0⟩ : ∃ x, w.heap.size = x := ⟨_, rfl⟩
  have HG0 := Lib.hid hg0
  rw [hg0] at Hb Hr
  have Ha := Lib.hid (ha.keep hs1)
  have fin : ∀ (t : St) (W0 : World), Blk W0 (g0 + 1) 50 (scells zeroS) → Stp w W0 → Blk (fillA W0 (g0 + 1) t) (g0 + 1) 50 (scells t) ∧ Stp w (fillA W0 (g0 + 1) t) := fun t W0 h1 h2 => ⟨filla_blk t h1, filla_st t h2 (by have := HG0.out; omega)⟩
  have Fin := Lib.hid fin
  have hgt : ∀ W, RdA W A c (bs b) → Calls Tryz.prog 36 #[.slice A 512 c] W fun e w' => e = .returned (.tuple #[hv (getH b), .int .i64 (codeB b)]) ∧ Stp W w' := by
    intro W hW
    have := rGet_s b A c W hW
    rw [hb] at this
    exact this
  obtain ⟨H, hH⟩ : ∃ x, getH b = x := ⟨_, rfl⟩
  obtain ⟨E, hE⟩ : ∃ x, codeB b = x := ⟨_, rfl⟩
  obtain ⟨rr, hrr⟩ : ∃ x, headS s b = x := ⟨_, rfl⟩
  have hall := head_all s hm hp b
  rw [hH, hE] at hgt
  rw [hrr]
  have HGt := Lib.hid hgt
  have HH := Lib.hid hH
  have HE0 := Lib.hid hE
  have HRR := Lib.hid hrr
  have HND := Lib.hid ND
  have HAll := Lib.hid hall
  have HSm := Lib.hid hsm
  have Hc := Lib.hid (show E = 0 by rw [← hE]; exact hc)
  have Hx0 := Lib.hid hn0
  have Hy := Lib.hid (show H.ty = 75 by rw [← hH]; exact hy0)
  clear hc hn0 hy0
  clear fin ha hsm ND hb hs1 hm hp hgt hH hE hrr hall
  obtain ⟨q0, q1, q2, q3, q4, q5, q6, q7, q8, q9, q10, q11, q12, q13⟩ := st_cells Hb.out
  go_enter Tryz.func29, Tryz.ntmps29
  go_upto_region 2 with (go_at_call 36; (refine (HGt.out _ Ha.out).mono ?_); rintro e w2 ⟨rfl, hs⟩; replace H0 := Lib.hid (Stp.trans H0.out hs); replace Hb := Lib.hid (Hb.out.keep hs Hb.out.lt); replace Hr := Lib.hid (Hr.out.keep hs Hr.out.lt); clear hs Ha q0 q1 q2 q3 q4 q5 q6 q7 q8 q9 q10 q11 q12 q13)
  obtain ⟨g1, hg1⟩ : ∃ x, w2.heap.size = x := ⟨_, rfl⟩
  have Hh := Lib.hid (Blk.new w2 68 (hcells H))
  have hs4 := Stp.alloc (Stp.refl w2) (.cells (hcells H) 68)
  obtain ⟨w3, hw5⟩ : ∃ x, w2.alloc (.cells (hcells H) 68) = x := ⟨_, rfl⟩
  have hw6 := hw5
  simp only [Head.hcells] at hw6
  rw [hw5] at Hh hs4
  rw [hg1] at Hh
  replace Hr := Lib.hid (Hr.out.keep hs4 Hr.out.lt)
  replace Hb := Lib.hid (Hb.out.keep hs4 Hb.out.lt)
  replace H0 := Lib.hid (Stp.trans H0.out hs4)
  simp only [hg1]
  rw [hw6]
  clear hw5 hw6 hg1 hs4
  obtain ⟨q0, q1, q2, q3, q4, q5, q6, q7, q8, q9, q10, q11, q12, q13⟩ := st_cells Hb.out
  obtain ⟨r0, r1, r2, r3, r4, r5, r6, r7, r8, r9, r10, r11, r12, r13⟩ := st_cells Hr.out
  obtain ⟨c0, c1, c2, c3, c4, c5, c6, c7, c8, c9, c10⟩ := hd_cells Hh.out
  have hz := rfree Hr.out
  have hy := rfree Hb.out
  have ke4 : (E == 4) = false := by rw [Hc.out]; rfl
  have ke0 : (E != 0) = false := by rw [Hc.out]; rfl
  have hy0 := Hy.out
  have hxa : s.link.isEmpty = true := by rw [Hx0.out]; rfl
  have t77 : ((H.ty.toNat : Int) == 77) = false := (ty_eq H.ty 77 (by decide)).trans (decide_eq_false (by rw [hy0]; decide))
  have t86 : ((H.ty.toNat : Int) == 86) = false := (ty_eq H.ty 86 (by decide)).trans (decide_eq_false (by rw [hy0]; decide))
  have t76 : ((H.ty.toNat : Int) == 76) = false := (ty_eq H.ty 76 (by decide)).trans (decide_eq_false (by rw [hy0]; decide))
  have t75 : ((H.ty.toNat : Int) == 75) = true := (ty_eq H.ty 75 (by decide)).trans (decide_eq_true (hy0))
  have n76 : ((H.ty.toNat : Int) != 76) = true := by rw [bne, t76]; rfl
  have n75 : ((H.ty.toNat : Int) != 75) = false := by rw [bne, t75]; rfl
  have htb : typeB s H = false := by
    unfold typeB
    rw [hy0, Hx0.out]
    simp
  have hnn : ¬ (H.ty ≠ 76 ∧ H.ty ≠ 75) := by rw [hy0]; decide
  have hh : rr = if H.size < 2 ∨ 301 < H.size ∨ H ≠ longH H then (s, [], 2) else ({ s with phase := 2, size := H.size, left := H.size }, [], 0) := by
    rw [← HRR.out]
    unfold headS
    rw [HE0.out, Hc.out, if_neg (by decide), if_neg (by decide), HH.out, if_neg (by rw [htb]; decide), if_neg hnn, hy0]
    rfl
  have heq : ∀ w : World, (Op.equalIn 10000 68 (.agg #[.string ⟨H.name.toArray⟩, .string ⟨H.pre.toArray⟩, .string ⟨H.link.toArray⟩, .int .i64 H.mode, .int .i64 H.uid, .int .i64 H.gid, .int .i64 H.size, .int .i64 H.time, .int .u8 (H.ty.toNat : Int), .int .i64 H.off, .int .i64 H.real]) (.agg #[.string ⟨#[46, 47, 46, 47, 64, 76, 111, 110, 103, 76, 105, 110, 107]⟩, .string ⟨#[]⟩, .string ⟨#[]⟩, .int .i64 0, .int .i64 0, .int .i64 0, .int .i64 H.size, .int .i64 0, .int .u8 (H.ty.toNat : Int), .int .i64 0, .int .i64 0])).run Tryz.prog w = .ok (decide (H = longH H)) w := eq_heads H (longH H)
  have HHh := Lib.hid hh
  clear hh htb hnn hy0
  by_cases k1 : H.size < 2
  · have He := Lib.hid (show rr = (s, [], 2) by rw [HHh.out, if_pos (.inl k1)])
    have g1 : decide (H.size < 2) = true := decide_eq_true k1
    clear k1
    go_wp2_with fail
    change bodyPost _ _ _ _ _ (fillA w3 (g0 + 1) s)
    obtain ⟨hB, hW⟩ := Fin.out s w3 Hr.out H0.out
    generalize fillA w3 (g0 + 1) s = W7 at hB hW ⊢
    clear q0 q1 q2 q3 q4 q5 q6 q7 q8 q9 q10 q11 q12 q13 r0 r1 r2 r3 r4 r5 r6 r7 r8 r9 r10 r11 r12 r13 c0 c1 c2 c3 c4 c5 c6 c7 c8 c9 c10 hz hy
    obtain ⟨r0, r1, r2, r3, r4, r5, r6, r7, r8, r9, r10, r11, r12, r13⟩ := st_cells hB
    exact bodyPost_ret (v := .tuple #[sv s, .slice none 0 0, .int .i64 2]) (by simp [results, Tryz.results29, go_sem, r0, r1, r2, r3, r4, r5, r6, r7, r8, r9, r10, r11, r12, r13]) rfl ⟨none, 0, by rw [He.out]; rfl, by rw [He.out]; exact RdE.nil _, hW⟩
  have g1 : decide (H.size < 2) = false := decide_eq_false k1
  by_cases k2 : 301 < H.size
  · have He := Lib.hid (show rr = (s, [], 2) by rw [HHh.out, if_pos (.inr (.inl k2))])
    have g2 : decide (301 < H.size) = true := decide_eq_true k2
    clear k1 k2
    go_wp2_with fail
    change bodyPost _ _ _ _ _ (fillA w3 (g0 + 1) s)
    obtain ⟨hB, hW⟩ := Fin.out s w3 Hr.out H0.out
    generalize fillA w3 (g0 + 1) s = W7 at hB hW ⊢
    clear q0 q1 q2 q3 q4 q5 q6 q7 q8 q9 q10 q11 q12 q13 r0 r1 r2 r3 r4 r5 r6 r7 r8 r9 r10 r11 r12 r13 c0 c1 c2 c3 c4 c5 c6 c7 c8 c9 c10 hz hy
    obtain ⟨r0, r1, r2, r3, r4, r5, r6, r7, r8, r9, r10, r11, r12, r13⟩ := st_cells hB
    exact bodyPost_ret (v := .tuple #[sv s, .slice none 0 0, .int .i64 2]) (by simp [results, Tryz.results29, go_sem, r0, r1, r2, r3, r4, r5, r6, r7, r8, r9, r10, r11, r12, r13]) rfl ⟨none, 0, by rw [He.out]; rfl, by rw [He.out]; exact RdE.nil _, hW⟩
  have g2 : decide (301 < H.size) = false := decide_eq_false k2
  by_cases k3 : H = longH H
  case neg =>
    have He := Lib.hid (show rr = (s, [], 2) by rw [HHh.out, if_pos (.inr (.inr k3))])
    rw [decide_eq_false k3] at heq
    clear k1 k2 k3
    go_wp2_with fail
    change bodyPost _ _ _ _ _ (fillA w3 (g0 + 1) s)
    obtain ⟨hB, hW⟩ := Fin.out s w3 Hr.out H0.out
    generalize fillA w3 (g0 + 1) s = W7 at hB hW ⊢
    clear q0 q1 q2 q3 q4 q5 q6 q7 q8 q9 q10 q11 q12 q13 r0 r1 r2 r3 r4 r5 r6 r7 r8 r9 r10 r11 r12 r13 c0 c1 c2 c3 c4 c5 c6 c7 c8 c9 c10 hz hy
    obtain ⟨r0, r1, r2, r3, r4, r5, r6, r7, r8, r9, r10, r11, r12, r13⟩ := st_cells hB
    exact bodyPost_ret (v := .tuple #[sv s, .slice none 0 0, .int .i64 2]) (by simp [results, Tryz.results29, go_sem, r0, r1, r2, r3, r4, r5, r6, r7, r8, r9, r10, r11, r12, r13]) rfl ⟨none, 0, by rw [He.out]; rfl, by rw [He.out]; exact RdE.nil _, hW⟩
  have He := Lib.hid (show rr = ({ s with phase := 2, size := H.size, left := H.size }, [], 0) by rw [HHh.out, if_neg (fun q => q.elim k1 (fun q => q.elim k2 (fun q => q k3)))])
  rw [decide_eq_true k3] at heq
  clear k1 k2 k3
  go_upto_region 20 with fail
  obtain ⟨S, hS⟩ : ∃ S, { s with phase := 2, size := H.size, left := H.size } = S := ⟨_, rfl⟩
  have hb5 : Blk (((((w3.setCell ⟨g0, 0, none⟩ (.int .i64 1)).setCell ⟨g0, 0, none⟩ (.int .i64 2)).setCell ⟨g0, 9, none⟩ (.int .i64 H.size)).setCell ⟨g0, 10, none⟩ (.int .i64 H.size))) g0 50 (scells { s with phase := 2, size := H.size, left := H.size }) := ((((Hb.out.put 0 _).put 0 _).put 9 _).put 10 _)
  have hst5 : Stp w (((((w3.setCell ⟨g0, 0, none⟩ (.int .i64 1)).setCell ⟨g0, 0, none⟩ (.int .i64 2)).setCell ⟨g0, 9, none⟩ (.int .i64 H.size)).setCell ⟨g0, 10, none⟩ (.int .i64 H.size))) := (Below.setCell (Below.setCell (Below.setCell (Below.setCell H0.out (p := ⟨g0, 0, none⟩) (Nat.le_of_eq HG0.out) _) (p := ⟨g0, 0, none⟩) (Nat.le_of_eq HG0.out) _) (p := ⟨g0, 9, none⟩) (Nat.le_of_eq HG0.out) _) (p := ⟨g0, 10, none⟩) (Nat.le_of_eq HG0.out) _)
  have hr5 : Blk (((((w3.setCell ⟨g0, 0, none⟩ (.int .i64 1)).setCell ⟨g0, 0, none⟩ (.int .i64 2)).setCell ⟨g0, 9, none⟩ (.int .i64 H.size)).setCell ⟨g0, 10, none⟩ (.int .i64 H.size))) (g0 + 1) 50 (scells zeroS) := (Blk.far (p := ⟨g0, 10, none⟩) (Blk.far (p := ⟨g0, 9, none⟩) (Blk.far (p := ⟨g0, 0, none⟩) (Blk.far (p := ⟨g0, 0, none⟩) Hr.out (Nat.succ_ne_self g0) _) (Nat.succ_ne_self g0) _) (Nat.succ_ne_self g0) _) (Nat.succ_ne_self g0) _)
  change Code.wp _ _ _ _ (((((w3.setCell ⟨g0, 0, none⟩ (.int .i64 1)).setCell ⟨g0, 0, none⟩ (.int .i64 2)).setCell ⟨g0, 9, none⟩ (.int .i64 H.size)).setCell ⟨g0, 10, none⟩ (.int .i64 H.size)))
  generalize ((((w3.setCell ⟨g0, 0, none⟩ (.int .i64 1)).setCell ⟨g0, 0, none⟩ (.int .i64 2)).setCell ⟨g0, 9, none⟩ (.int .i64 H.size)).setCell ⟨g0, 10, none⟩ (.int .i64 H.size)) = w5 at hb5 hst5 hr5 ⊢
  rw [hS] at hb5 He
  have HB5 := Lib.hid hb5
  have HST5 := Lib.hid hst5
  have HR5 := Lib.hid hr5
  clear hS q0 q1 q2 q3 q4 q5 q6 q7 q8 q9 q10 q11 q12 q13 r0 r1 r2 r3 r4 r5 r6 r7 r8 r9 r10 r11 r12 r13 c0 c1 c2 c3 c4 c5 c6 c7 c8 c9 c10 hz hy hb5 hst5 hr5
  obtain ⟨q0, q1, q2, q3, q4, q5, q6, q7, q8, q9, q10, q11, q12, q13⟩ := st_cells HB5.out
  obtain ⟨r0, r1, r2, r3, r4, r5, r6, r7, r8, r9, r10, r11, r12, r13⟩ := st_cells HR5.out
  have hz := rfree HR5.out
  go_wp2_with fail
  change bodyPost _ _ _ _ _ (fillA w5 (g0 + 1) S)
  obtain ⟨hB, hW⟩ := Fin.out S w5 HR5.out HST5.out
  generalize fillA w5 (g0 + 1) S = W7 at hB hW ⊢
  clear q0 q1 q2 q3 q4 q5 q6 q7 q8 q9 q10 q11 q12 q13 r0 r1 r2 r3 r4 r5 r6 r7 r8 r9 r10 r11 r12 r13 hz
  obtain ⟨r0, r1, r2, r3, r4, r5, r6, r7, r8, r9, r10, r11, r12, r13⟩ := st_cells hB
  exact bodyPost_ret (v := .tuple #[sv S, .slice none 0 0, .int .i64 0]) (by simp [results, Tryz.results29, go_sem, r0, r1, r2, r3, r4, r5, r6, r7, r8, r9, r10, r11, r12, r13]) rfl ⟨none, 0, by rw [He.out]; rfl, by rw [He.out]; exact RdE.nil _, hW⟩

theorem headD (ND : NodeD) : HeadD := by
  intro s b hm hp hsm hb
  by_cases h4 : codeB b = 4
  · exact rhead_zero ND s hm hp hsm b hb h4
  by_cases hc : codeB b = 0
  case neg => exact rhead_err ND s hm hp hsm b hb hc h4
  by_cases ht : typeB s (getH b) = true
  · exact rhead_type ND s hm hp hsm b hb hc ht
  have ht2 : typeB s (getH b) = false := Bool.eq_false_iff.2 ht
  by_cases h76 : (getH b).ty = 76
  · refine rhead_long76 ND s hm hp hsm b hb hc ?_ h76
    have := ht2
    unfold typeB at this
    rw [h76] at this
    simpa using this
  by_cases h75 : (getH b).ty = 75
  · refine rhead_long75 ND s hm hp hsm b hb hc ?_ h75
    have := ht2
    unfold typeB at this
    rw [h75] at this
    simpa using this
  exact rhead_node ND s hm hp hsm b hb hc ht2 h76 h75
end Go.Proofs.YtgjdbbhfgfodlaaGreat.Parse

namespace Go.Proofs.YtgjdbbhfgfodlaaGreat.Parse
open Go.RowKit Go.Proofs.YtgjdbbhfgfodlaaGreat.Str Go.Proofs.YtgjdbbhfgfodlaaGreat.Base Go.Proofs.YtgjdbbhfgfodlaaGreat.Node Go.Proofs.YtgjdbbhfgfodlaaGreat.Long Go.Proofs.YtgjdbbhfgfodlaaGreat.Head
open Go.Proofs.YtgjdbbhfgfodlaaGreat.Tree (oneB)

theorem nodeD : NodeD := by
  rintro s h _ _ rfl rfl l1 l2 l3 l4 h0 hn w
  by_cases hk : partsB s h = true ∧ PathM.mayB (nodeH s h).path = true ∧ ¬ (oneB (nodeH s h) = false ∨ 4000 < h.size ∨ (0 < h.size ∧ h.ty ≠ 48))
  case neg => exact rnode_a s h l1 l2 l3 l4 h0 hn hk w
  by_cases hz : 0 < h.size
  · exact rnode_c s h l1 l2 l3 l4 h0 hn ⟨hk.1, hk.2.1, hk.2.2, hz⟩ w
  · exact rnode_d s h l1 l2 l3 l4 h0 hn ⟨hk.1, hk.2.1, hk.2.2, hz⟩ w

theorem rrun_i : RunR := by
  intro s v hv hs l n hn hn1 hlb t y k m e0 hr hk A c w ha
  subst hv hk
  refine (rrun_c (headD nodeD) s hs l n hn hn1 hlb _ hr A c w ha).mono ?_
  rintro e w' ⟨v, rfl, ⟨B, d, rfl, hE⟩, hS⟩
  exact ⟨B, d, rfl, hE, hS⟩
end Go.Proofs.YtgjdbbhfgfodlaaGreat.Parse

