/-
  Package parse's Step: the code's contract. No statement is proved here.
-/
import Derived.Test.YtejgnhicgeiceaaParseK
namespace Go.Proofs.Ytejgnhicgeiceaa.Parse
open Go.RowKit Go.Proofs.Ytejgnhicgeiceaa.Str Go.Proofs.Ytejgnhicgeiceaa.Base Go.Proofs.Ytejgnhicgeiceaa.Node Go.Proofs.Ytejgnhicgeiceaa.Long Go.Proofs.Ytejgnhicgeiceaa.Head

theorem take_s (g : Nat) (s : St) (hs : SmallS s) (b : L) (A : Option Addr) (c : Nat) (w : World) (hbk : Blk w g 53 (pcells s (.slice none 0 0))) (ha : RdA w A c (bs b)) :
    Calls Try.prog 24 #[.pointer (some ⟨g, 0, none⟩), .slice A b.length c] w fun e w' => Taken g (stepS s b) w e w' := by
  by_cases h : mayS s = true ∧ b.length = 512
  · exact take_yes g s hs h.1 b h.2 A c w hbk ha
  · have e : stepS s b = (s, [], 1) := by
      unfold stepS
      rw [if_pos]
      by_cases h1 : mayS s = true
      · exact .inr fun h2 => h ⟨h1, h2⟩
      · exact .inl (by simpa using h1)
    rw [e]
    exact take_no g s b hs h A c w hbk
theorem take_v (g : Nat) (s : St) (hs : SmallS s) (b : L) (t : St) (y : List Evt) (e0 : Int) (hst : stepS s b = (t, y, e0)) (A : Option Addr) (c : Nat) (w : World) (hbk : Blk w g 53 (pcells s (.slice none 0 0))) (ha : RdA w A c (bs b)) :
    Calls Try.prog 24 #[.pointer (some ⟨g, 0, none⟩), .slice A b.length c] w fun e w' => e = .returned (.int .i64 e0) ∧ (e0 = 0 → ∃ lo v, Lies w' g lo t v y) ∧ Kp g w.heap.size w w' := by
  have h := take_s g s hs b A c w hbk ha
  rw [hst] at h
  exact h
theorem pst_free {w : World} {g : Nat} {t : TypeId} {cs : Array Value} (hb : Blk w g t cs) : ∀ i, w.frozen? ⟨g, i, none⟩ = false := fun i => hb.free i
/-- The state t laid into the result's cells. -/
theorem fills_one {w : World} {g : Nat} {t : TypeId} {z : St} (s : St) (h : Blk w g t (scells z)) : Blk (fillP w g s) g t (scells s) := fillC_all (scells s).toList h rfl
theorem fills_st {w w1 : World} {g : Nat} (s : St) (h : Stp w w1) (hg : w.heap.size ≤ g) : Stp w (fillP w1 g s) := fillC_stp hg (scells s).toList 0 w1 h
theorem st_of_p {w : World} {g : Nat} {t : TypeId} {s : St} {v : Value} (hb : Blk w g t (pcells s v)) :
    w.cell? ⟨g, 0, none⟩ = some (.int .i64 s.phase) ∧ w.cell? ⟨g, 1, none⟩ = some (.string ⟨s.node.path.toArray⟩) ∧ w.cell? ⟨g, 2, none⟩ = some (.string ⟨s.node.link.toArray⟩) ∧ w.cell? ⟨g, 3, none⟩ = some (.int .u8 (s.node.kind.toNat : Int)) ∧ w.cell? ⟨g, 4, none⟩ = some (.int .i64 s.node.mode) ∧
    w.cell? ⟨g, 5, none⟩ = some (.int .i64 s.node.uid) ∧ w.cell? ⟨g, 6, none⟩ = some (.int .i64 s.node.gid) ∧ w.cell? ⟨g, 7, none⟩ = some (.int .i64 s.node.time) ∧ w.cell? ⟨g, 8, none⟩ = some (.string ⟨s.node.data.toArray⟩) ∧ w.cell? ⟨g, 9, none⟩ = some (.int .i64 s.size) ∧ w.cell? ⟨g, 10, none⟩ = some (.int .i64 s.left) ∧
    w.cell? ⟨g, 11, none⟩ = some (.string ⟨s.text.toArray⟩) ∧ w.cell? ⟨g, 12, none⟩ = some (.string ⟨s.name.toArray⟩) ∧ w.cell? ⟨g, 13, none⟩ = some (.string ⟨s.link.toArray⟩) ∧ w.cell? ⟨g, 14, none⟩ = some v := by
  refine ⟨?_, ?_, ?_, ?_, ?_, ?_, ?_, ?_, ?_, ?_, ?_, ?_, ?_, ?_, ?_⟩ <;> (rw [hb.cell]; rfl)

set_option maxRecDepth 100000 in
set_option maxHeartbeats 4000000 in
theorem step_c (s : St) (hs : SmallS s) (b : L) (t : St) (y : List Evt) (e0 : Int) (hst : stepS s b = (t, y, e0)) (A : Option Addr) (c : Nat) (w : World) (ha : RdA w A c (bs b)) :
    Calls Try.prog 12 #[sv s, .slice A b.length c] w fun e w' => ∃ v, e = .returned (.tuple #[sv t, v, .int .i64 e0]) ∧ (∃ B d, v = .slice B y.length d ∧ RdE w' B d y) ∧ Stp w w' := by
  have Hs := Lib.hid hs
  have h1 := Stp.alloc (Stp.alloc (Stp.refl w) (.cells (scells s) 25)) (.cells (scells zeroS) 25)
  have h2 := Stp.alloc h1 (.cells (pcells s (.slice none 0 0)) 53)
  have Hb := Lib.hid (((Blk.new w 25 (scells s)).alloc (.cells (scells zeroS) 25)).alloc (.cells (pcells s (.slice none 0 0)) 53))
  have Hr := Lib.hid ((Blk.new (w.alloc (.cells (scells s) 25)) 25 (scells zeroS)).alloc (.cells (pcells s (.slice none 0 0)) 53))
  have Hg := Lib.hid (Blk.new ((w.alloc (.cells (scells s) 25)).alloc (.cells (scells zeroS) 25)) 53 (pcells s (.slice none 0 0)))
  have H2 := Lib.hid h2
  have Ha := Lib.hid (ha.keep h2)
  rw [World.size_alloc] at Hr Hg
  rw [World.size_alloc] at Hg
  have Hst := Lib.hid hst
  have q1 := st_cells ((Blk.new w 25 (scells s)).alloc (.cells (scells zeroS) 25))
  obtain ⟨q0, q1, q2, q3, q4, q5, q6, q7, q8, q9, q10, q11, q12, q13⟩ := q1
  have HY := Lib.hid (show e0 ≠ 0 → s = t ∧ y = [] from fun h => by
    have := step_stay (s := s) (b := b) (by rw [hst]; exact h)
    rw [hst] at this
    exact ⟨this.1.symm, this.2⟩)
  obtain ⟨g0, hg0⟩ : ∃ x, w.heap.size = x := ⟨_, rfl⟩
  have HG0 := Lib.hid hg0
  rw [hg0] at Hb Hr Hg
  clear h1 h2 ha hs hst q0 q1 q2 q3 q4 q5 q6 q7 q8 q9 q10 q11 q12 q13
  have hall : ∀ o : Obj, (∀ i, ((w.alloc (.cells (scells s) 25)).alloc o).cell? ⟨g0, i, none⟩ = (scells s)[i]?) := fun o i => by
    rw [← HG0.out, ((Blk.new w 25 (scells s)).alloc o).cell]
  by_cases he : e0 = 0
  · subst he
    go_enter Try.func12, Try.ntmps12
    go_wp2_with (go_at_call 24; (refine (take_v _ s Hs.out b t y 0 Hst.out A c _ Hg.out Ha.out).mono ?_); rintro e w2 ⟨rfl, hgo, hk⟩; obtain ⟨lo, v, hl⟩ := hgo rfl; have HL := Lib.hid hl; have Hr2 := Lib.hid (hk.blk Hr.out Hr.out.lt (by omega)); have HS := Lib.hid (hk.stp0 H2.out (by omega) H2.out.size); clear hl hk hgo hall)
    obtain ⟨q0, q1, q2, q3, q4, q5, q6, q7, q8, q9, q10, q11, q12, q13, q14⟩ := st_of_p HL.out.blk
    obtain ⟨r0, r1, r2, r3, r4, r5, r6, r7, r8, r9, r10, r11, r12, r13⟩ := st_cells Hr2.out
    have hz := pst_free Hr2.out
    clear hg0 Hb Hr Hg H2 Ha Hs HY
    go_region
    go_wp2_with fail
    change bodyPost _ _ _ _ _ (fillP w2 (g0 + 1) t).drew
    have hB := Blk.drew (fills_one t Hr2.out)
    have hW := stp_dr (fills_st (g := g0 + 1) t HS.out (by have := HG0.out; omega))
    have hR : RowE (fillP w2 (g0 + 1) t).drew lo v y := RowE.keep (fillC_row (g := g0 + 1) (by have := HL.out.lt; omega) (scells t).toList 0 _ HL.out.row) (stp_dr (Stp.refl _))
    generalize (fillP w2 (g0 + 1) t).drew = W7 at hB hW hR ⊢
    clear r0 r1 r2 r3 r4 r5 r6 r7 r8 r9 r10 r11 r12 r13 hz q0 q1 q2 q3 q4 q5 q6 q7 q8 q9 q10 q11 q12 q13 q14
    obtain ⟨r0, r1, r2, r3, r4, r5, r6, r7, r8, r9, r10, r11, r12, r13⟩ := st_cells hB
    refine bodyPost_ret (v := .tuple #[sv t, v, .int .i64 0]) (by simp [results, Try.results12, go_sem, r0, r1, r2, r3, r4, r5, r6, r7, r8, r9, r10, r11, r12, r13]) rfl ⟨v, rfl, ?_, hW⟩
    obtain ⟨B, d, hv, hE⟩ := hR.rd
    exact ⟨B, d, hv, hE⟩
  · have hne : (e0 != 0) = true := by rw [bne_iff_ne]; exact he
    obtain ⟨rfl, rfl⟩ := HY.out he
    have HE := Lib.hid he
    clear he
    go_enter Try.func12, Try.ntmps12
    go_wp2_with (go_at_call 24; (refine (take_v _ s Hs.out b s [] e0 Hst.out A c _ Hg.out Ha.out).mono ?_); rintro e w2 ⟨rfl, -, hk⟩; have Hb2 := Lib.hid (hk.blk Hb.out Hb.out.lt (by omega)); have Hr2 := Lib.hid (hk.blk Hr.out Hr.out.lt (by omega)); have HS := Lib.hid (hk.stp0 H2.out (by omega) H2.out.size); clear hk hall; obtain ⟨q0, q1, q2, q3, q4, q5, q6, q7, q8, q9, q10, q11, q12, q13⟩ := st_cells Hb2.out; obtain ⟨r0, r1, r2, r3, r4, r5, r6, r7, r8, r9, r10, r11, r12, r13⟩ := st_cells Hr2.out; have hz := pst_free Hr2.out)
    change bodyPost _ _ _ _ _ (fillP w2 (g0 + 1) s)
    have hB := fills_one s Hr2.out
    have hW := fills_st (g := g0 + 1) s HS.out (by have := HG0.out; omega)
    generalize fillP w2 (g0 + 1) s = W7 at hB hW ⊢
    clear r0 r1 r2 r3 r4 r5 r6 r7 r8 r9 r10 r11 r12 r13 hz q0 q1 q2 q3 q4 q5 q6 q7 q8 q9 q10 q11 q12 q13
    obtain ⟨r0, r1, r2, r3, r4, r5, r6, r7, r8, r9, r10, r11, r12, r13⟩ := st_cells hB
    exact bodyPost_ret (v := .tuple #[sv s, .slice none 0 0, .int .i64 e0]) (by simp [results, Try.results12, go_sem, r0, r1, r2, r3, r4, r5, r6, r7, r8, r9, r10, r11, r12, r13]) rfl ⟨_, rfl, ⟨none, 0, rfl, RdE.nil _⟩, hW⟩
end Go.Proofs.Ytejgnhicgeiceaa.Parse
