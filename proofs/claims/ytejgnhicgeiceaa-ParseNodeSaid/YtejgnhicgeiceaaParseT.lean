/-
  Package parse's Run: the code's contract. No statement is proved here.
-/
import Derived.Test.YtejgnhicgeiceaaParseS
import Derived.Test.YtejgnhicgeiceaaParseStaysW
import Derived.Deep.RegionLaw
import Derived.Deep.CutRange
namespace Go.Proofs.Ytejgnhicgeiceaa.Parse
open Go.RowKit Go.Proofs.Ytejgnhicgeiceaa.Str Go.Proofs.Ytejgnhicgeiceaa.Base Go.Proofs.Ytejgnhicgeiceaa.Node Go.Proofs.Ytejgnhicgeiceaa.Long Go.Proofs.Ytejgnhicgeiceaa.Head

/-- What was told up to here, and what comes. -/
def glue (xs : List Evt) (k : Nat) (r : St × List Evt × Nat × Int) : St × List Evt × Nat × Int := (r.1, xs ++ r.2.1, k + r.2.2.1, r.2.2.2)
theorem glue_bad {s : St} {b : L} {xs : List Evt} {k : Nat} {t : St} {y : List Evt} {e0 : Int} (l : List L) (h : stepS s b = (t, y, e0)) (h0 : e0 ≠ 0) : glue xs k (runS s (b :: l)) = (s, xs, k, e0) := by
  rw [run_bad l (by rw [h]; exact h0), h]
  unfold glue
  rw [List.append_nil]
  rfl
theorem glue_end {s : St} {b : L} {xs : List Evt} {k : Nat} {t : St} {y : List Evt} (l : List L) (h : stepS s b = (t, y, 0)) (h5 : t.phase = 5) : glue xs k (runS s (b :: l)) = (t, xs ++ y, k + 1, 0) := by
  rw [run_end l (by rw [h]) (by rw [h]; exact h5), h]
  rfl
theorem glue_on {s : St} {b : L} {xs : List Evt} {k : Nat} {t : St} {y : List Evt} (l : List L) (h : stepS s b = (t, y, 0)) (h5 : t.phase ≠ 5) : glue xs k (runS s (b :: l)) = glue (xs ++ y) (k + 1) (runS t l) := by
  rw [run_on l (by rw [h]) (by rw [h]; exact h5), h]
  unfold glue
  simp only [List.append_assoc]
  rw [Nat.add_assoc, Nat.add_comm 1]
theorem glue_nil (s : St) (xs : List Evt) (k : Nat) : glue xs k (runS s []) = (s, xs, k, 0) := by
  rw [run_nil]
  unfold glue
  rw [List.append_nil]
  rfl
theorem step_y {s : St} {b : L} {t : St} {y : List Evt} {e0 : Int} (h : stepS s b = (t, y, e0)) : y.length ≤ 2 := by
  rcases step_ok s b with ⟨-, -, h2⟩ | ⟨-, -, h2, -⟩
  · rw [h] at h2
    rw [show y = [] from h2]
    simp
  · rw [h] at h2
    exact h2
theorem step_cv (s : St) (v : Value) (hv : v = sv s) (hs : SmallS s) (b : L) (t : St) (y : List Evt) (e0 : Int) (hst : stepS s b = (t, y, e0)) (A : Option Addr) (c : Nat) (w : World) (ha : RdA w A c (bs b)) :
    Calls Try.prog 12 #[v, .slice A b.length c] w fun e w' => ∃ B d, e = .returned (.tuple #[sv t, .slice B y.length d, .int .i64 e0]) ∧ RdE w' B d y ∧ Stp w w' := by
  subst hv
  refine (step_c s hs b t y e0 hst A c w ha).mono ?_
  rintro e w' ⟨v, rfl, ⟨B, d, rfl, hE⟩, hS⟩
  exact ⟨B, d, rfl, hE, hS⟩

theorem fillC_other {g b : Nat} {t : TypeId} {cs : Array Value} (hb : b ≠ g) : ∀ (vs : List Value) (i : Nat) (w : World), Blk w b t cs → Blk (fillC g vs i w) b t cs
  | [], _, _, h => h
  | v :: vs, i, _, h => fillC_other hb vs (i + 1) _ (h.far (p := ⟨g, i, none⟩) hb v)
theorem RowE.rd' {w : World} {lo : Nat} {v : Value} {xs : List Evt} (h : RowE w lo v xs) : ∃ B d, v = .slice B xs.length d ∧ RdE w B d xs := h.rd
theorem st_later {w : World} {g : Nat} {ty : TypeId} {s : St} (hb : Blk w g ty (scells s)) :
    (∀ o : Obj, (w.alloc o).cell? ⟨g, 0, none⟩ = some (.int .i64 s.phase)) ∧ (∀ o : Obj, (w.alloc o).cell? ⟨g, 1, none⟩ = some (.string ⟨s.node.path.toArray⟩)) ∧ (∀ o : Obj, (w.alloc o).cell? ⟨g, 2, none⟩ = some (.string ⟨s.node.link.toArray⟩)) ∧ (∀ o : Obj, (w.alloc o).cell? ⟨g, 3, none⟩ = some (.int .u8 (s.node.kind.toNat : Int))) ∧ (∀ o : Obj, (w.alloc o).cell? ⟨g, 4, none⟩ = some (.int .i64 s.node.mode)) ∧ (∀ o : Obj, (w.alloc o).cell? ⟨g, 5, none⟩ = some (.int .i64 s.node.uid)) ∧ (∀ o : Obj, (w.alloc o).cell? ⟨g, 6, none⟩ = some (.int .i64 s.node.gid)) ∧ (∀ o : Obj, (w.alloc o).cell? ⟨g, 7, none⟩ = some (.int .i64 s.node.time)) ∧ (∀ o : Obj, (w.alloc o).cell? ⟨g, 8, none⟩ = some (.string ⟨s.node.data.toArray⟩)) ∧ (∀ o : Obj, (w.alloc o).cell? ⟨g, 9, none⟩ = some (.int .i64 s.size)) ∧ (∀ o : Obj, (w.alloc o).cell? ⟨g, 10, none⟩ = some (.int .i64 s.left)) ∧ (∀ o : Obj, (w.alloc o).cell? ⟨g, 11, none⟩ = some (.string ⟨s.text.toArray⟩)) ∧ (∀ o : Obj, (w.alloc o).cell? ⟨g, 12, none⟩ = some (.string ⟨s.name.toArray⟩)) ∧ (∀ o : Obj, (w.alloc o).cell? ⟨g, 13, none⟩ = some (.string ⟨s.link.toArray⟩)) := by
  refine ⟨?_, ?_, ?_, ?_, ?_, ?_, ?_, ?_, ?_, ?_, ?_, ?_, ?_, ?_⟩ <;> (intro o; rw [(hb.alloc o).cell]; rfl)
theorem st_later_free {w : World} {g : Nat} {ty : TypeId} {cs : Array Value} (hb : Blk w g ty cs) (o : Obj) (i : Nat) : (w.alloc o).frozen? ⟨g, i, none⟩ = false := (hb.alloc o).free i

set_option maxRecDepth 100000 in
set_option maxHeartbeats 8000000 in
theorem run_c (s : St) (hs : SmallS s) (l : List L) (n : Nat) (hn : l.length = n) (hn1 : n ≤ 1000) (r : St × List Evt × Nat × Int) (hr : runS s l = r) (A : Option Addr) (c : Nat) (w : World) (ha : RdL w A c l) :
    Calls Try.prog 16 #[sv s, .slice A n c] w fun e w' => ∃ v, e = .returned (.tuple #[sv r.1, v, .int .i64 (r.2.2.1 : Int), .int .i64 r.2.2.2]) ∧ (∃ B d, v = .slice B r.2.1.length d ∧ RdE w' B d r.2.1) ∧ Stp w w' := by
  have h1 := Stp.alloc (Stp.alloc (Stp.refl w) (.cells (scells s) 25)) (.cells (scells zeroS) 25)
  have Hb0 := Lib.hid ((Blk.new w 25 (scells s)).alloc (.cells (scells zeroS) 25))
  have Hr0 := Lib.hid (Blk.new (w.alloc (.cells (scells s) 25)) 25 (scells zeroS))
  rw [World.size_alloc] at Hr0
  have H10 := Lib.hid h1
  have Ha := Lib.hid ha
  have HN := Lib.hid hn
  have HN1 := Lib.hid hn1
  have HR := Lib.hid hr
  have Hs0 := Lib.hid hs
  obtain ⟨g0, hg0⟩ : ∃ x, w.heap.size = x := ⟨_, rfl⟩
  have HG0 := Lib.hid hg0
  rw [hg0] at Hb0 Hr0
  clear h1 ha hn hn1 hr hs
  go_enter Try.func16, Try.ntmps16
  go_wp2_with fail
  go_loopw [8, 16] (fun v i wr => ∃ (k : Nat) (sk : St) (xs : List Evt), k ≤ n ∧ i = .int .i64 (k : Int) ∧ Hid (Blk wr g0 25 (scells sk)) ∧ Hid (Blk wr (g0 + 1) 25 (scells zeroS)) ∧ Hid (RowE wr (g0 + 2) v xs) ∧ Hid (Stp w wr) ∧ Hid (g0 + 2 ≤ wr.heap.size) ∧ Hid (glue xs k (runS sk (l.drop k)) = r) ∧ Hid (SmallS sk) ∧ Hid (xs.length ≤ 2 * k))
    (fun _ i _ => n - (intOf i).toNat)
  case atStart =>
    exact ⟨0, s, [], Nat.zero_le _, rfl, Hb0, Hr0, Lib.hid (RowE.nil _ _), H10, Lib.hid (by rw [World.size_alloc, World.size_alloc, HG0.out]; exact Nat.le_refl _), Lib.hid (by rw [List.drop_zero, HR.out]; unfold glue; simp), Hs0, Lib.hid (Nat.le_refl 0)⟩
  case round =>
    obtain ⟨k, sk, xs, hk, rfl, Hb, Hr, Hv, Hst, Hle, Hgl, Hss, Hlx⟩ := hrel
    obtain ⟨q0, q1, q2, q3, q4, q5, q6, q7, q8, q9, q10, q11, q12, q13⟩ := st_cells Hb.out
    by_cases hlt : k < n
    · have g5 : decide ((k : Int) < (n : Int)) = true := decide_eq_true (by omega)
      have hb : l[k]? = some (l[k]'(by rw [HN.out]; exact hlt)) := List.getElem?_eq_getElem (by rw [HN.out]; exact hlt)
      have hdr : l.drop k = l[k]'(by rw [HN.out]; exact hlt) :: l.drop (k + 1) := List.drop_eq_getElem_cons (by rw [HN.out]; exact hlt)
      obtain ⟨b, hbb⟩ : ∃ b, l[k]'(by rw [HN.out]; exact hlt) = b := ⟨_, rfl⟩
      rw [hbb] at hb hdr
      obtain ⟨bb, o, A1, c1, rfl, hcell, hrd⟩ := (Ha.out.keep Hst.out).at_ hb
      have Hx := Lib.hid hrd
      have hgl := Hgl.out
      rw [hdr] at hgl
      obtain ⟨t, y, e0, hst0⟩ : ∃ t y e0, stepS sk b = (t, y, e0) := ⟨_, _, _, rfl⟩
      have Hst0 := Lib.hid hst0
      have HL2 := Lib.hid (step_y hst0)
      by_cases he : e0 = 0
      · subst he
        have Hgl2 := Lib.hid hgl
        have HS2 := Lib.hid (show SmallS t by have := step_small Hss.out b; rw [hst0] at this; exact this)
        clear hgl hst0 hb hdr hbb hrd
        go_upto_region 8 with (go_at_call 12; (refine (step_cv sk _ (by rfl) Hss.out b t y 0 Hst0.out A1 c1 _ Hx.out).mono ?_); rintro e w2 ⟨B2, d2, rfl, hE, hs⟩; have HE := Lib.hid hE; have Hb2 := Lib.hid (Hb.out.keep hs Hb.out.lt); have Hr2 := Lib.hid (Hr.out.keep hs Hr.out.lt); have Hv2 := Lib.hid (Hv.out.keep hs); have Hst2 := Lib.hid (Stp.trans Hst.out hs); have Hle2 := Lib.hid (Nat.le_trans Hle.out hs.size); clear hE hs q0 q1 q2 q3 q4 q5 q6 q7 q8 q9 q10 q11 q12 q13; skip)
        obtain ⟨g1, hg1⟩ : ∃ x, w2.heap.size = x := ⟨_, rfl⟩
        have Ht := Lib.hid (Blk.new w2 25 (scells t))
        have hs4 := Stp.alloc (Stp.refl w2) (.cells (scells t) 25)
        have hvo : ∀ q, u8.ownBlock = some q → g0 + 2 ≤ q ∧ q < g1 := fun q e => by rw [← hg1]; exact Hv2.out.own q e
        have Hvo := Lib.hid hvo
        have hg2 : g0 + 2 ≤ g1 := by rw [← hg1]; exact Hle2.out
        have Hg2 := Lib.hid hg2
        obtain ⟨w4, hw4⟩ : ∃ x, w2.alloc (.cells (scells t) 25) = x := ⟨_, rfl⟩
        have hw5 := hw4
        simp only [Parse.scells] at hw5
        rw [hw4] at Ht hs4
        rw [hg1] at Ht
        replace Hb2 := Lib.hid (Hb2.out.keep hs4 Hb2.out.lt)
        replace Hr2 := Lib.hid (Hr2.out.keep hs4 Hr2.out.lt)
        replace Hv2 := Lib.hid (Hv2.out.keep hs4)
        replace HE := Lib.hid (HE.out.keep hs4)
        replace Hst2 := Lib.hid (Stp.trans Hst2.out hs4)
        replace Hle2 := Lib.hid (Nat.le_trans Hle2.out hs4.size)
        simp only [hg1]
        rw [hw5]
        clear hw4 hw5 hg1 hs4 hvo hg2
        obtain ⟨q0, q1, q2, q3, q4, q5, q6, q7, q8, q9, q10, q11, q12, q13⟩ := st_cells Hb2.out
        obtain ⟨m0, m1, m2, m3, m4, m5, m6, m7, m8, m9, m10, m11, m12, m13⟩ := st_cells Ht.out
        have hz := pst_free Hb2.out
        have hlen1 : xs.length + y.length ≤ 1000000 := by have h1 := Hlx.out; have h2 := HL2.out; have h3 := HN1.out; omega
        have hs5 := stp_dr (Stp.refl w4)
        have Hv5 := Lib.hid (Hv2.out.keep hs5)
        have HE5 := Lib.hid (HE.out.keep hs5)
        have hle5 : g0 + 2 ≤ w4.drew.heap.size := Nat.le_trans Hle2.out hs5.size
        have Hst5 := Lib.hid (Stp.trans Hst2.out hs5)
        have Hn0 := Lib.hid (show u8.ownBlock ≠ some g0 from fun e => by have h1 := Hvo.out g0 e; omega)
        have Hn1 := Lib.hid (show u8.ownBlock ≠ some (g0 + 1) from fun e => by have h1 := Hvo.out (g0 + 1) e; omega)
        have Hn2 := Lib.hid (show u8.ownBlock ≠ some g1 from fun e => by have h1 := Hvo.out g1 e; omega)
        have HGl := Lib.hid (show w.heap.size ≤ g0 + 2 by have := HG0.out; omega)
        clear hs5 hg0
        go_cut [8] from 34 to 45 (fun s8 wx => ∃ B5 k5, s8 = .slice B5 (xs.length + y.length) k5 ∧ Hid (Blk wx g0 25 (scells t)) ∧ Hid (Blk wx (g0 + 1) 25 (scells zeroS)) ∧ Hid (RowE wx (g0 + 2) (.slice B5 (xs.length + y.length) k5) (xs ++ y)) ∧ Hid (Stp w wx) ∧ Hid (g0 + 2 ≤ wx.heap.size))
        case first =>
          go_region_law (refine step_app_evs w4.drew rfl _ _ rfl (g0 + 2) u8 xs rfl Hv5.out y B2 y.length d2 rfl HE5.out rfl hlen1 hle5 ?_; intro v1 w5 hr5 hg5; obtain ⟨B5, k5, rfl, -⟩ := hr5.rd; have Hr5 := Lib.hid hr5; have hb5 := Lib.hid (Blk.grown (show Blk w4.drew g0 _ _ from Hb2.out) hg5 (Ne.symm Hn0.out)); have hr6 := Lib.hid (Blk.grown (show Blk w4.drew (g0 + 1) _ _ from Hr2.out) hg5 (Ne.symm Hn1.out)); have ht5 := Lib.hid (Blk.grown (show Blk w4.drew g1 _ _ from Ht.out) hg5 (Ne.symm Hn2.out)); have Hst6 := Lib.hid (Hv5.out.stp Hst5.out HGl.out hg5); have Hle6 := Lib.hid (Nat.le_trans hle5 hg5.size); clear hr5 hg5; obtain ⟨q0, q1, q2, q3, q4, q5, q6, q7, q8, q9, q10, q11, q12, q13⟩ := st_cells hb5.out; obtain ⟨m0, m1, m2, m3, m4, m5, m6, m7, m8, m9, m10, m11, m12, m13⟩ := st_cells ht5.out; have hz := pst_free hb5.out)
          all_goals
            change Exit.then _ _ Exit.normal _ (fillP w5 g0 t)
            have hB : Blk (fillP w5 g0 t) g0 25 (scells t) := fills_one t hb5.out
            have hR0 : Blk (fillP w5 g0 t) (g0 + 1) 25 (scells zeroS) := fillC_other (Nat.succ_ne_self g0) (scells t).toList 0 _ hr6.out
            have hV : RowE (fillP w5 g0 t) (g0 + 2) (.slice B5 (xs ++ y).length k5) (xs ++ y) := fillC_row (g := g0) (Nat.lt_add_of_pos_right (by decide)) (scells t).toList 0 _ Hr5.out
            rw [List.length_append] at hV
            have hW : Stp w (fillP w5 g0 t) := fills_st (g := g0) t Hst6.out (Nat.le_of_eq HG0.out)
            have hLe : g0 + 2 ≤ (fillP w5 g0 t).heap.size := Nat.le_trans Hle6.out (fillP_tch (g := g0) (v := .slice none 0 0) t (Tch.refl g0 _ w5)).size
            generalize fillP w5 g0 t = W6 at hB hR0 hV hW hLe ⊢
            have HB7 := Lib.hid hB
            have HR7 := Lib.hid hR0
            have HV7 := Lib.hid hV
            have HW7 := Lib.hid hW
            have HL7 := Lib.hid hLe
            clear q0 q1 q2 q3 q4 q5 q6 q7 q8 q9 q10 q11 q12 q13 m0 m1 m2 m3 m4 m5 m6 m7 m8 m9 m10 m11 m12 m13 hz
            go_wp2_with fail
            go_meet
            exact ⟨B5, k5, rfl, HB7, HR7, HV7, HW7, HL7⟩
        case rest =>
          obtain ⟨B5, k5, rfl, HB7, HR7, HV7, HW7, HL7⟩ := hcut
          clear q0 q1 q2 q3 q4 q5 q6 q7 q8 q9 q10 q11 q12 q13 m0 m1 m2 m3 m4 m5 m6 m7 m8 m9 m10 m11 m12 m13 hz
          obtain ⟨q0, q1, q2, q3, q4, q5, q6, q7, q8, q9, q10, q11, q12, q13⟩ := st_cells HB7.out
          by_cases h5 : t.phase = 5
          · have HF := Lib.hid (Hgl2.out.symm.trans (glue_end _ Hst0.out h5))
            have hq5 : (t.phase == 5) = true := by rw [h5]; rfl
            clear h5
            obtain ⟨r0, r1, r2, r3, r4, r5, r6, r7, r8, r9, r10, r11, r12, r13⟩ := st_cells HR7.out
            have hz := pst_free HR7.out
            go_wp2_with fail
            change bodyPost _ _ _ _ _ (fillP (wc) (g0 + 1) t)
            have hB := fills_one t (HR7.out)
            have hW := fills_st (g := g0 + 1) t (HW7.out) (by have := HG0.out; omega)
            have hV : RowE (fillP (wc) (g0 + 1) t) (g0 + 2) (.slice B5 (xs.length + y.length) k5) (xs ++ y) := fillC_row (g := g0 + 1) (Nat.lt_succ_self (g0 + 1)) (scells t).toList 0 _ (HV7.out)
            generalize fillP (wc) (g0 + 1) t = W7 at hB hW hV ⊢
            clear q0 q1 q2 q3 q4 q5 q6 q7 q8 q9 q10 q11 q12 q13 r0 r1 r2 r3 r4 r5 r6 r7 r8 r9 r10 r11 r12 r13 hz
            obtain ⟨r0, r1, r2, r3, r4, r5, r6, r7, r8, r9, r10, r11, r12, r13⟩ := st_cells hB
            have hk1 := HN1.out
            refine bodyPost_ret (v := .tuple #[sv t, (.slice B5 (xs.length + y.length) k5), .int .i64 ((k : Int) + 1), .int .i64 0]) (by simp [results, Try.results16, go_sem, r0, r1, r2, r3, r4, r5, r6, r7, r8, r9, r10, r11, r12, r13]; unfold wrap64; omega) rfl ⟨(.slice B5 (xs.length + y.length) k5), by rw [HF.out]; rfl, by rw [HF.out]; exact hV.rd', hW⟩
          · have HF := Lib.hid (Hgl2.out.symm.trans (glue_on _ Hst0.out h5))
            have hq5 : (t.phase == 5) = false := beq_eq_false_iff_ne.2 h5
            have hk1 := HN1.out
            clear h5
            go_wp2_with fail
            go_roundw
            case rel => exact ⟨k + 1, t, xs ++ y, by omega, by go_num, HB7, HR7, HV7, HW7, HL7, Lib.hid HF.out.symm, HS2, Lib.hid (by have h1 := Hlx.out; have h2 := HL2.out; rw [List.length_append]; omega)⟩
            case measure => simp [intOf]; omega
      · have HF := Lib.hid (hgl.symm.trans (glue_bad _ hst0 he))
        have hne : (e0 != 0) = true := by rw [bne_iff_ne]; exact he
        have HE0 := Lib.hid he
        clear hgl hst0 he hb hdr hbb hrd
        go_wp2_with (go_at_call 12; (refine (step_cv sk _ (by rfl) Hss.out b t y e0 Hst0.out A1 c1 _ Hx.out).mono ?_); rintro e w2 ⟨B2, d2, rfl, hE, hs⟩; have HE := Lib.hid hE; have Hb2 := Lib.hid (Hb.out.keep hs Hb.out.lt); have Hr2 := Lib.hid (Hr.out.keep hs Hr.out.lt); have Hv2 := Lib.hid (Hv.out.keep hs); have Hst2 := Lib.hid (Stp.trans Hst.out hs); have Hle2 := Lib.hid (Nat.le_trans Hle.out hs.size); clear hE hs q0 q1 q2 q3 q4 q5 q6 q7 q8 q9 q10 q11 q12 q13; obtain ⟨q0, q1, q2, q3, q4, q5, q6, q7, q8, q9, q10, q11, q12, q13⟩ := st_later Hb2.out; obtain ⟨r0, r1, r2, r3, r4, r5, r6, r7, r8, r9, r10, r11, r12, r13⟩ := st_later Hr2.out; have hz := st_later_free Hr2.out)
        change bodyPost _ _ _ _ _ (fillP (w2.alloc (.cells (scells t) 25)) (g0 + 1) sk)
        have hB := fills_one sk (show Blk (w2.alloc (.cells (scells t) 25)) (g0 + 1) 25 (scells zeroS) from Hr2.out.alloc _)
        have hW := fills_st (g := g0 + 1) sk (show Stp w (w2.alloc (.cells (scells t) 25)) from Stp.alloc Hst2.out _) (by have := HG0.out; omega)
        have hV : RowE (fillP (w2.alloc (.cells (scells t) 25)) (g0 + 1) sk) (g0 + 2) u8 xs := fillC_row (g := g0 + 1) (Nat.lt_succ_self (g0 + 1)) (scells sk).toList 0 _ (show RowE (w2.alloc (.cells (scells t) 25)) (g0 + 2) u8 xs from Hv2.out.keep (Stp.alloc (Stp.refl w2) _))
        generalize fillP (w2.alloc (.cells (scells t) 25)) (g0 + 1) sk = W7 at hB hW hV ⊢
        clear q0 q1 q2 q3 q4 q5 q6 q7 q8 q9 q10 q11 q12 q13 r0 r1 r2 r3 r4 r5 r6 r7 r8 r9 r10 r11 r12 r13 hz
        obtain ⟨r0, r1, r2, r3, r4, r5, r6, r7, r8, r9, r10, r11, r12, r13⟩ := st_cells hB
        refine bodyPost_ret (v := .tuple #[sv sk, u8, .int .i64 (k : Int), .int .i64 e0]) (by simp [results, Try.results16, go_sem, r0, r1, r2, r3, r4, r5, r6, r7, r8, r9, r10, r11, r12, r13]) rfl ⟨u8, by rw [HF.out], by rw [HF.out]; exact hV.rd', hW⟩
    · obtain rfl : k = n := by omega
      have g5 : decide ((k : Int) < (k : Int)) = false := decide_eq_false (by omega)
      obtain ⟨r0, r1, r2, r3, r4, r5, r6, r7, r8, r9, r10, r11, r12, r13⟩ := st_cells Hr.out
      have hz := pst_free Hr.out
      have HF := Lib.hid (show r = (sk, xs, k, 0) from Hgl.out.symm.trans (by rw [List.drop_of_length_le (Nat.le_of_eq HN.out)]; exact glue_nil sk xs k))
      clear hlt
      go_wp2_with fail
      change bodyPost _ _ _ _ _ (fillP (wr) (g0 + 1) sk)
      have hB := fills_one sk (Hr.out)
      have hW := fills_st (g := g0 + 1) sk (Hst.out) (by have := HG0.out; omega)
      have hV : RowE (fillP (wr) (g0 + 1) sk) (g0 + 2) u8 xs := fillC_row (g := g0 + 1) (Nat.lt_succ_self (g0 + 1)) (scells sk).toList 0 _ (Hv.out)
      generalize fillP (wr) (g0 + 1) sk = W7 at hB hW hV ⊢
      clear q0 q1 q2 q3 q4 q5 q6 q7 q8 q9 q10 q11 q12 q13 r0 r1 r2 r3 r4 r5 r6 r7 r8 r9 r10 r11 r12 r13 hz
      obtain ⟨r0, r1, r2, r3, r4, r5, r6, r7, r8, r9, r10, r11, r12, r13⟩ := st_cells hB
      refine bodyPost_ret (v := .tuple #[sv sk, u8, .int .i64 (k : Int), .int .i64 0]) (by simp [results, Try.results16, go_sem, r0, r1, r2, r3, r4, r5, r6, r7, r8, r9, r10, r11, r12, r13]) rfl ⟨u8, by rw [HF.out], by rw [HF.out]; exact hV.rd', hW⟩
end Go.Proofs.Ytejgnhicgeiceaa.Parse
