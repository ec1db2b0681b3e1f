/-
  What the code's package fs keeps: its own copy, a node put, a file grown, a path's node and text: no statement is proved here.
-/
import Derived.Test.YtjddgmdbgajjpaaFsC3
import Derived.Test.YtjddgmdbgajjpaaFsAw
namespace Go.Proofs.Ytjddgmdbgajjpaa.Fs
open Go.Sort Go.RowKit Go.Proofs.Ytjddgmdbgajjpaa.Str Go.Proofs.Ytjddgmdbgajjpaa.Base Go.Proofs.Ytjddgmdbgajjpaa.Node Go.Proofs.Ytjddgmdbgajjpaa.Long Go.Proofs.Ytjddgmdbgajjpaa.FsM
open Go.Proofs.Ytjddgmdbgajjpaa.Tree (oneB mayT fewT nodeA nodeB findN findV hasB riseB findN_lt findN_no findN_of findN_bound node_info)
set_option linter.unusedVariables false

/-! ### rows of nodes of the call's own -/
theorem row_ne {w : World} {lo sz n g : Nat} {e t : TypeId} {v : Value} {xs : List Value} {cs : Array Value} (h : w.ownsRow lo e sz v n xs) (hb : Blk w g t cs) (ht : t ≠ e) : v.ownBlock ≠ some g := by
  rcases h.2 with ⟨rfl, _⟩ | ⟨g', cap, cur, rfl, _, hg, _⟩
  · exact fun h => by cases h
  · intro h
    simp only [Value.ownBlock, Option.some.injEq] at h
    subst h
    unfold Blk at hb
    rw [hb] at hg
    cases hg
    exact ht rfl
theorem grown_cell (w : World) (p : Addr) (u : Value) : w.grownBy (w.setCell p u) (some p.block) := ⟨rfl, rfl, rfl, by simp [World.setCell], fun k _ hk => Below.heap_setCell w p u k (fun e => hk (by rw [e]))⟩
theorem row_far {w : World} {lo sz n g : Nat} {e t : TypeId} {v : Value} {xs : List Value} {cs : Array Value} (h : w.ownsRow lo e sz v n xs) (hb : Blk w g t cs) (ht : t ≠ e) (i : Nat) (u : Value) : (w.setCell ⟨g, i, none⟩ u).ownsRow lo e sz v n xs :=
  h.kept (grown_cell w ⟨g, i, none⟩ u) (.inr (row_ne h hb ht))
theorem row_less {w : World} {lo lo' sz n : Nat} {e : TypeId} {v : Value} {xs : List Value} (h : w.ownsRow lo e sz v n xs) (hl : lo' ≤ lo) : w.ownsRow lo' e sz v n xs := by
  refine ⟨h.1, ?_⟩
  rcases h.2 with h2 | ⟨g, cap, cur, h1, h2, h3⟩
  · exact .inl h2
  · exact .inr ⟨g, cap, cur, h1, Nat.le_trans hl h2, h3⟩
theorem cslice {w : World} {b sz n : Nat} {t : TypeId} {v : Value} {xs : List Value} (h : w.ownsRow b t sz v n xs) (hn : 0 < n) : ∃ g cap, v = .slice (some ⟨g, 0, none⟩) n cap := by
  obtain ⟨hl, ⟨rfl, hn2⟩ | ⟨g, cap, cur, rfl, -⟩⟩ := h
  · omega
  · exact ⟨g, cap, rfl⟩
theorem cform {w : World} {b sz n : Nat} {t : TypeId} {v : Value} {xs : List Value} (h : w.ownsRow b t sz v n xs) : ∃ B d, v = .slice B n d := by
  obtain ⟨hl, ⟨rfl, rfl⟩ | ⟨g, cap, cur, rfl, -⟩⟩ := h
  · exact ⟨_, _, rfl⟩
  · exact ⟨_, _, rfl⟩
theorem fn_ne : 24 ≠ 26 := by decide
set_option maxRecDepth 100000 in
set_option maxHeartbeats 4000000 in
theorem own_s (ns : List Nd) (m : Nat) (hm : ns.length = m) (hl : m ≤ 1000) (A : Option Addr) (k : Nat) (w : World) (ha : RdN w A k ns) :
    Calls Try.prog 31 #[fv A m k] w fun e w' => ∃ B d, e = .returned (fv B m d) ∧ w'.ownsRow w.heap.size 26 8 (.slice B m d) m (ntc ns) ∧ Stp w w' := by
  have Ha := Lib.hid ha
  have Hm := Lib.hid hm
  clear ha hm
  have h0 := Lib.hid (Stp.alloc (Stp.refl w) (.cells (fcs A m k) 24))
  have HF := Lib.hid (Blk.new w 24 (fcs A m k))
  have HZ := Lib.hid (by have h := Blk.new (w.alloc (.cells (fcs A m k) 24)) 24 (fcs none 0 0); simp only [World.size_alloc] at h; exact h)
  replace HF := Lib.hid (HF.out.alloc (.cells (fcs none 0 0) 24))
  replace h0 := Lib.hid (Stp.alloc h0.out (.cells (fcs none 0 0) 24))
  go_enter Try.func31, Try.ntmps31
  go_upto_region 1 with fail
  change Code.wp _ _ _ _ ((w.alloc (.cells (fcs A m k) 24)).alloc (.cells (fcs none 0 0) 24))
  have hgz : w.heap.size ≤ w.heap.size + 1 := by omega
  obtain ⟨gf, hgf⟩ : ∃ g, w.heap.size = g := ⟨_, rfl⟩
  rw [hgf] at HF HZ ⊢
  rw [show w.heap.size + 1 = gf + 1 by rw [hgf]] at hgz
  clear hgf
  generalize ((w.alloc (.cells (fcs A m k) 24)).alloc (.cells (fcs none 0 0) 24)) = W0 at h0 HF HZ ⊢
  replace Ha := Lib.hid (Ha.out.keep h0.out)
  have hsz := h0.out.size
  have fc := fs_cell HF.out
  have fz := fs_cell HZ.out
  have ff := HZ.out.free 0
  go_wp2_with (go_at_call 51; (with_reducible refine (clone_n ns m Hm.out hl A k _ Ha.out).mono ?_); rintro e w1 ⟨v, rfl, hv, hs⟩; obtain ⟨B, d, rfl⟩ := cform hv; have HV := Lib.hid (row_less hv hsz); replace h0 := Lib.hid (Stp.trans h0.out hs); replace HZ := Lib.hid (HZ.out.keep hs HZ.out.lt); clear hs hv; clear fc fz ff; have fz := fs_cell HZ.out; have ff := HZ.out.free 0)
  have hf : Blk (w1.setCell ⟨gf + 1, 0, none⟩ (.slice B m d)) (gf + 1) 24 (fcs B m d) := HZ.out.put 0 (.slice B m d)
  have hr := row_far HV.out HZ.out fn_ne 0 (.slice B m d)
  have hst : Stp w (w1.setCell ⟨gf + 1, 0, none⟩ (.slice B m d)) := Below.setCell h0.out (p := ⟨gf + 1, 0, none⟩) hgz (.slice B m d)
  change bodyPost _ _ _ _ _ (w1.setCell ⟨gf + 1, 0, none⟩ (.slice B m d))
  generalize w1.setCell ⟨gf + 1, 0, none⟩ (.slice B m d) = Y at hf hr hst ⊢
  clear fz ff
  have fz := fs_cell hf
  refine bodyPost_ret (v := fv B m d) (by simp [results, Try.results31, go_sem, *]) rfl ⟨B, d, rfl, hr, hst⟩
set_option maxRecDepth 100000 in
set_option maxHeartbeats 8000000 in
theorem put_s (ns : List Nd) (m : Nat) (hm : ns.length = m) (hl : m ≤ 1000) (hs : ∀ n ∈ ns, SmallN n) (n : Nd) (hn : SmallN n) (ms : List Nd) (e0 : Int) (hx : putF ns n = (ms, e0)) (z : Nat) (hz : ms.length = z) (A : Option Addr) (k : Nat) (w : World) (ha : RdN w A k ns) :
    Calls Try.prog 12 #[fv A m k, nv n] w fun e w' => ∃ B d, e = .returned (.tuple #[fv B z d, .int .i64 e0]) ∧ w'.ownsRow w.heap.size 26 8 (.slice B z d) z (ntc ms) ∧ Stp w w' := by
  have Ha := Lib.hid ha
  have Hm := Lib.hid hm
  have Hs := Lib.hid hs
  have Hsn := Lib.hid hn
  clear ha hm hs hn
  have h0 := Lib.hid (Stp.alloc (Stp.alloc (Stp.alloc (Stp.refl w) (.cells (fcs A m k) 24)) (.cells (ncells n) 26)) (.cells (fcs none 0 0) 24))
  have HF := Lib.hid (((Blk.new w 24 (fcs A m k)).alloc (.cells (ncells n) 26)).alloc (.cells (fcs none 0 0) 24))
  have HX := Lib.hid (by have h := (Blk.new (w.alloc (.cells (fcs A m k) 24)) 26 (ncells n)).alloc (.cells (fcs none 0 0) 24); simp only [World.size_alloc] at h; exact h)
  have HZ := Lib.hid (by have h := Blk.new ((w.alloc (.cells (fcs A m k) 24)).alloc (.cells (ncells n) 26)) 24 (fcs none 0 0); simp only [World.size_alloc] at h; exact h)
  rw [putF] at hx
  by_cases hM : mayF ns = false
  · rw [if_pos (.inl hM)] at hx
    obtain ⟨rfl, rfl⟩ := Prod.mk.inj hx
    obtain rfl : m = z := Hm.out.symm.trans hz
    have HM := Lib.hid hM
    clear hM hx hz
    go_enter Try.func12, Try.ntmps12
    go_upto_region 1 with fail
    change Code.wp _ _ _ _ (((w.alloc (.cells (fcs A m k) 24)).alloc (.cells (ncells n) 26)).alloc (.cells (fcs none 0 0) 24))
    have hgz : w.heap.size ≤ w.heap.size + 2 := by omega
    have hlo : w.heap.size ≤ w.heap.size := Nat.le_refl _
    obtain ⟨gf, hgf⟩ : ∃ g, w.heap.size = g := ⟨_, rfl⟩
    rw [hgf] at HF HX HZ ⊢
    rw [show w.heap.size + 2 = gf + 2 by rw [hgf]] at hgz
    clear hgf
    generalize (((w.alloc (.cells (fcs A m k) 24)).alloc (.cells (ncells n) 26)).alloc (.cells (fcs none 0 0) 24)) = W0 at h0 HF HX HZ ⊢
    replace Ha := Lib.hid (Ha.out.keep h0.out)
    have hsz := h0.out.size
    have fc := fs_cell HF.out
    go_upto_region 2 with (go_at_call 31; (with_reducible refine (own_s ns m Hm.out hl A k _ Ha.out).mono ?_); rintro e w1 ⟨B, d, rfl, hv, hs⟩; have HV := Lib.hid (row_less hv hsz); replace h0 := Lib.hid (Stp.trans h0.out hs); replace HF := Lib.hid (HF.out.keep hs HF.out.lt); replace HX := Lib.hid (HX.out.keep hs HX.out.lt); replace HZ := Lib.hid (HZ.out.keep hs HZ.out.lt); replace Ha := Lib.hid (Ha.out.keep hs); clear hs hv)
    have HN := Lib.hid (Blk.new w1 24 (fcs B m d))
    have hs1 : Stp w1 (w1.alloc (.cells (fcs B m d) 24)) := Stp.alloc (Stp.refl w1) _
    have hgn : w.heap.size ≤ w1.heap.size := h0.out.size
    change Code.wp _ _ _ _ (w1.alloc (.cells (fcs B m d) 24))
    have hnz := Nat.ne_of_lt HZ.out.lt
    obtain ⟨gn, hgn1⟩ : ∃ g, w1.heap.size = g := ⟨_, rfl⟩
    rw [hgn1] at HN hgn hnz ⊢
    clear hgn1
    generalize w1.alloc (.cells (fcs B m d) 24) = W1 at HN hs1 ⊢
    replace h0 := Lib.hid (Stp.trans h0.out hs1)
    replace HF := Lib.hid (HF.out.keep hs1 HF.out.lt)
    replace HX := Lib.hid (HX.out.keep hs1 HX.out.lt)
    replace HZ := Lib.hid (HZ.out.keep hs1 HZ.out.lt)
    replace Ha := Lib.hid (Ha.out.keep hs1)
    replace HV := Lib.hid (row_keep HV.out hs1)
    clear hs1 fc hsz
    have fc := fs_cell HF.out
    have fz := fs_cell HZ.out
    have fx := fs_cell HN.out
    obtain ⟨q0, q1, q2, q3, q4, q5, q6, q7⟩ := nd_cells HX.out
    go_upto_region 3 with (go_at_call 22; (with_reducible refine (may_s ns m Hm.out hl Hs.out _ HM.out A k _ Ha.out).mono ?_); rintro e wn ⟨rfl, hs⟩; replace h0 := Lib.hid (Stp.trans h0.out hs); replace HF := Lib.hid (HF.out.keep hs HF.out.lt); replace HX := Lib.hid (HX.out.keep hs HX.out.lt); replace HZ := Lib.hid (HZ.out.keep hs HZ.out.lt); replace HN := Lib.hid (HN.out.keep hs HN.out.lt); replace Ha := Lib.hid (Ha.out.keep hs); replace HV := Lib.hid (row_keep HV.out hs); clear fc; have fc := fs_cell HF.out; clear fz; have fz := fs_cell HZ.out; clear fx; have fx := fs_cell HN.out; clear q0 q1 q2 q3 q4 q5 q6 q7; obtain ⟨q0, q1, q2, q3, q4, q5, q6, q7⟩ := nd_cells HX.out; clear hs)
    have ff := HZ.out.free 0
    go_wp2_with fail
    have hf : Blk (wn.setCell ⟨gf + 2, 0, none⟩ (.slice B m d)) (gf + 2) 24 (fcs B m d) := HZ.out.put 0 (.slice B m d)
    have hr := row_less (row_far HV.out HZ.out fn_ne 0 (.slice B m d)) hlo
    have hst : Stp w (wn.setCell ⟨gf + 2, 0, none⟩ (.slice B m d)) := Below.setCell h0.out (p := ⟨gf + 2, 0, none⟩) hgz (.slice B m d)
    change bodyPost _ _ _ _ _ (wn.setCell ⟨gf + 2, 0, none⟩ (.slice B m d))
    generalize wn.setCell ⟨gf + 2, 0, none⟩ (.slice B m d) = Y at hf hr hst ⊢
    clear fc fz fx ff q0 q1 q2 q3 q4 q5 q6 q7
    have fz := fs_cell hf
    refine bodyPost_ret (v := .tuple #[fv B m d, .int .i64 1]) (by simp [results, Try.results12, go_sem, *]) rfl ⟨B, d, rfl, hr, hst⟩
  replace hM : mayF ns = true := by simpa using hM
  by_cases hO : oneB n = false
  · rw [if_pos (.inr hO)] at hx
    obtain ⟨rfl, rfl⟩ := Prod.mk.inj hx
    obtain rfl : m = z := Hm.out.symm.trans hz
    have HM := Lib.hid hM
    have HO := Lib.hid hO
    clear hM hx hz hO
    go_enter Try.func12, Try.ntmps12
    go_upto_region 1 with fail
    change Code.wp _ _ _ _ (((w.alloc (.cells (fcs A m k) 24)).alloc (.cells (ncells n) 26)).alloc (.cells (fcs none 0 0) 24))
    have hgz : w.heap.size ≤ w.heap.size + 2 := by omega
    have hlo : w.heap.size ≤ w.heap.size := Nat.le_refl _
    obtain ⟨gf, hgf⟩ : ∃ g, w.heap.size = g := ⟨_, rfl⟩
    rw [hgf] at HF HX HZ ⊢
    rw [show w.heap.size + 2 = gf + 2 by rw [hgf]] at hgz
    clear hgf
    generalize (((w.alloc (.cells (fcs A m k) 24)).alloc (.cells (ncells n) 26)).alloc (.cells (fcs none 0 0) 24)) = W0 at h0 HF HX HZ ⊢
    replace Ha := Lib.hid (Ha.out.keep h0.out)
    have hsz := h0.out.size
    have fc := fs_cell HF.out
    go_upto_region 2 with (go_at_call 31; (with_reducible refine (own_s ns m Hm.out hl A k _ Ha.out).mono ?_); rintro e w1 ⟨B, d, rfl, hv, hs⟩; have HV := Lib.hid (row_less hv hsz); replace h0 := Lib.hid (Stp.trans h0.out hs); replace HF := Lib.hid (HF.out.keep hs HF.out.lt); replace HX := Lib.hid (HX.out.keep hs HX.out.lt); replace HZ := Lib.hid (HZ.out.keep hs HZ.out.lt); replace Ha := Lib.hid (Ha.out.keep hs); clear hs hv)
    have HN := Lib.hid (Blk.new w1 24 (fcs B m d))
    have hs1 : Stp w1 (w1.alloc (.cells (fcs B m d) 24)) := Stp.alloc (Stp.refl w1) _
    have hgn : w.heap.size ≤ w1.heap.size := h0.out.size
    change Code.wp _ _ _ _ (w1.alloc (.cells (fcs B m d) 24))
    have hnz := Nat.ne_of_lt HZ.out.lt
    obtain ⟨gn, hgn1⟩ : ∃ g, w1.heap.size = g := ⟨_, rfl⟩
    rw [hgn1] at HN hgn hnz ⊢
    clear hgn1
    generalize w1.alloc (.cells (fcs B m d) 24) = W1 at HN hs1 ⊢
    replace h0 := Lib.hid (Stp.trans h0.out hs1)
    replace HF := Lib.hid (HF.out.keep hs1 HF.out.lt)
    replace HX := Lib.hid (HX.out.keep hs1 HX.out.lt)
    replace HZ := Lib.hid (HZ.out.keep hs1 HZ.out.lt)
    replace Ha := Lib.hid (Ha.out.keep hs1)
    replace HV := Lib.hid (row_keep HV.out hs1)
    clear hs1 fc hsz
    have fc := fs_cell HF.out
    have fz := fs_cell HZ.out
    have fx := fs_cell HN.out
    obtain ⟨q0, q1, q2, q3, q4, q5, q6, q7⟩ := nd_cells HX.out
    go_upto_region 3 with (first | (go_at_call 22; (with_reducible refine (may_s ns m Hm.out hl Hs.out _ HM.out A k _ Ha.out).mono ?_); rintro e wn ⟨rfl, hs⟩; replace h0 := Lib.hid (Stp.trans h0.out hs); replace HF := Lib.hid (HF.out.keep hs HF.out.lt); replace HX := Lib.hid (HX.out.keep hs HX.out.lt); replace HZ := Lib.hid (HZ.out.keep hs HZ.out.lt); replace HN := Lib.hid (HN.out.keep hs HN.out.lt); replace Ha := Lib.hid (Ha.out.keep hs); replace HV := Lib.hid (row_keep HV.out hs); clear fc; have fc := fs_cell HF.out; clear fz; have fz := fs_cell HZ.out; clear fx; have fx := fs_cell HN.out; clear q0 q1 q2 q3 q4 q5 q6 q7; obtain ⟨q0, q1, q2, q3, q4, q5, q6, q7⟩ := nd_cells HX.out; clear hs) | (go_at_call 25; (with_reducible refine (tone_n n _ rfl Hsn.out _ HO.out _).mono ?_); rintro e wn ⟨rfl, hs⟩; replace h0 := Lib.hid (Stp.trans h0.out hs); replace HF := Lib.hid (HF.out.keep hs HF.out.lt); replace HX := Lib.hid (HX.out.keep hs HX.out.lt); replace HZ := Lib.hid (HZ.out.keep hs HZ.out.lt); replace HN := Lib.hid (HN.out.keep hs HN.out.lt); replace Ha := Lib.hid (Ha.out.keep hs); replace HV := Lib.hid (row_keep HV.out hs); clear fc; have fc := fs_cell HF.out; clear fz; have fz := fs_cell HZ.out; clear fx; have fx := fs_cell HN.out; clear q0 q1 q2 q3 q4 q5 q6 q7; obtain ⟨q0, q1, q2, q3, q4, q5, q6, q7⟩ := nd_cells HX.out; clear hs))
    have ff := HZ.out.free 0
    go_wp2_with fail
    have hf : Blk (wn.setCell ⟨gf + 2, 0, none⟩ (.slice B m d)) (gf + 2) 24 (fcs B m d) := HZ.out.put 0 (.slice B m d)
    have hr := row_less (row_far HV.out HZ.out fn_ne 0 (.slice B m d)) hlo
    have hst : Stp w (wn.setCell ⟨gf + 2, 0, none⟩ (.slice B m d)) := Below.setCell h0.out (p := ⟨gf + 2, 0, none⟩) hgz (.slice B m d)
    change bodyPost _ _ _ _ _ (wn.setCell ⟨gf + 2, 0, none⟩ (.slice B m d))
    generalize wn.setCell ⟨gf + 2, 0, none⟩ (.slice B m d) = Y at hf hr hst ⊢
    clear fc fz fx ff q0 q1 q2 q3 q4 q5 q6 q7
    have fz := fs_cell hf
    refine bodyPost_ret (v := .tuple #[fv B m d, .int .i64 1]) (by simp [results, Try.results12, go_sem, *]) rfl ⟨B, d, rfl, hr, hst⟩
  replace hO : oneB n = true := by simpa using hO
  rw [if_neg (by rw [hM, hO]; simp)] at hx
  have HM := Lib.hid hM
  have HO := Lib.hid hO
  have Hri := Lib.hid (mayF_iff.1 hM).2.1
  have hm20 : m ≤ 20 := by have h := (mayF_iff.1 hM).1; rwa [Hm.out] at h
  obtain ⟨i, hi⟩ := cut_ex n.path Hri.out
  have Hi := Lib.hid hi
  clear hM hO hi
  by_cases hI : (findN n.path ns).isSome = true
  · rw [if_pos hI] at hx
    obtain ⟨rfl, rfl⟩ := Prod.mk.inj hx
    obtain rfl : m = z := Hm.out.symm.trans hz
    have HI := Lib.hid hI
    clear hx hz hI
    go_enter Try.func12, Try.ntmps12
    go_upto_region 1 with fail
    change Code.wp _ _ _ _ (((w.alloc (.cells (fcs A m k) 24)).alloc (.cells (ncells n) 26)).alloc (.cells (fcs none 0 0) 24))
    have hgz : w.heap.size ≤ w.heap.size + 2 := by omega
    have hlo : w.heap.size ≤ w.heap.size := Nat.le_refl _
    obtain ⟨gf, hgf⟩ : ∃ g, w.heap.size = g := ⟨_, rfl⟩
    rw [hgf] at HF HX HZ ⊢
    rw [show w.heap.size + 2 = gf + 2 by rw [hgf]] at hgz
    clear hgf
    generalize (((w.alloc (.cells (fcs A m k) 24)).alloc (.cells (ncells n) 26)).alloc (.cells (fcs none 0 0) 24)) = W0 at h0 HF HX HZ ⊢
    replace Ha := Lib.hid (Ha.out.keep h0.out)
    have hsz := h0.out.size
    have fc := fs_cell HF.out
    go_upto_region 2 with (go_at_call 31; (with_reducible refine (own_s ns m Hm.out hl A k _ Ha.out).mono ?_); rintro e w1 ⟨B, d, rfl, hv, hs⟩; have HV := Lib.hid (row_less hv hsz); replace h0 := Lib.hid (Stp.trans h0.out hs); replace HF := Lib.hid (HF.out.keep hs HF.out.lt); replace HX := Lib.hid (HX.out.keep hs HX.out.lt); replace HZ := Lib.hid (HZ.out.keep hs HZ.out.lt); replace Ha := Lib.hid (Ha.out.keep hs); clear hs hv)
    have HN := Lib.hid (Blk.new w1 24 (fcs B m d))
    have hs1 : Stp w1 (w1.alloc (.cells (fcs B m d) 24)) := Stp.alloc (Stp.refl w1) _
    have hgn : w.heap.size ≤ w1.heap.size := h0.out.size
    change Code.wp _ _ _ _ (w1.alloc (.cells (fcs B m d) 24))
    have hnz := Nat.ne_of_lt HZ.out.lt
    obtain ⟨gn, hgn1⟩ : ∃ g, w1.heap.size = g := ⟨_, rfl⟩
    rw [hgn1] at HN hgn hnz ⊢
    clear hgn1
    generalize w1.alloc (.cells (fcs B m d) 24) = W1 at HN hs1 ⊢
    replace h0 := Lib.hid (Stp.trans h0.out hs1)
    replace HF := Lib.hid (HF.out.keep hs1 HF.out.lt)
    replace HX := Lib.hid (HX.out.keep hs1 HX.out.lt)
    replace HZ := Lib.hid (HZ.out.keep hs1 HZ.out.lt)
    replace Ha := Lib.hid (Ha.out.keep hs1)
    replace HV := Lib.hid (row_keep HV.out hs1)
    clear hs1 fc hsz
    have fc := fs_cell HF.out
    have fz := fs_cell HZ.out
    have fx := fs_cell HN.out
    obtain ⟨q0, q1, q2, q3, q4, q5, q6, q7⟩ := nd_cells HX.out
    go_upto_region 6 with (first | (go_at_call 22; (with_reducible refine (may_s ns m Hm.out hl Hs.out _ HM.out A k _ Ha.out).mono ?_); rintro e wn ⟨rfl, hs⟩; replace h0 := Lib.hid (Stp.trans h0.out hs); replace HF := Lib.hid (HF.out.keep hs HF.out.lt); replace HX := Lib.hid (HX.out.keep hs HX.out.lt); replace HZ := Lib.hid (HZ.out.keep hs HZ.out.lt); replace HN := Lib.hid (HN.out.keep hs HN.out.lt); replace Ha := Lib.hid (Ha.out.keep hs); replace HV := Lib.hid (row_keep HV.out hs); clear fc; have fc := fs_cell HF.out; clear fz; have fz := fs_cell HZ.out; clear fx; have fx := fs_cell HN.out; clear q0 q1 q2 q3 q4 q5 q6 q7; obtain ⟨q0, q1, q2, q3, q4, q5, q6, q7⟩ := nd_cells HX.out; clear hs) | (go_at_call 25; (with_reducible refine (tone_n n _ rfl Hsn.out _ HO.out _).mono ?_); rintro e wn ⟨rfl, hs⟩; replace h0 := Lib.hid (Stp.trans h0.out hs); replace HF := Lib.hid (HF.out.keep hs HF.out.lt); replace HX := Lib.hid (HX.out.keep hs HX.out.lt); replace HZ := Lib.hid (HZ.out.keep hs HZ.out.lt); replace HN := Lib.hid (HN.out.keep hs HN.out.lt); replace Ha := Lib.hid (Ha.out.keep hs); replace HV := Lib.hid (row_keep HV.out hs); clear fc; have fc := fs_cell HF.out; clear fz; have fz := fs_cell HZ.out; clear fx; have fx := fs_cell HN.out; clear q0 q1 q2 q3 q4 q5 q6 q7; obtain ⟨q0, q1, q2, q3, q4, q5, q6, q7⟩ := nd_cells HX.out; clear hs) | (go_at_call 32; (with_reducible refine (find_s ns m Hm.out hl Hri.out n.path i Hi.out _ HI.out A k _ Ha.out).mono ?_); rintro e wn ⟨rfl, hs⟩; replace h0 := Lib.hid (Stp.trans h0.out hs); replace HF := Lib.hid (HF.out.keep hs HF.out.lt); replace HX := Lib.hid (HX.out.keep hs HX.out.lt); replace HZ := Lib.hid (HZ.out.keep hs HZ.out.lt); replace HN := Lib.hid (HN.out.keep hs HN.out.lt); replace Ha := Lib.hid (Ha.out.keep hs); replace HV := Lib.hid (row_keep HV.out hs); clear fc; have fc := fs_cell HF.out; clear fz; have fz := fs_cell HZ.out; clear fx; have fx := fs_cell HN.out; clear q0 q1 q2 q3 q4 q5 q6 q7; obtain ⟨q0, q1, q2, q3, q4, q5, q6, q7⟩ := nd_cells HX.out; clear hs))
    have ff := HZ.out.free 0
    go_wp2_with fail
    have hf : Blk (wn.setCell ⟨gf + 2, 0, none⟩ (.slice B m d)) (gf + 2) 24 (fcs B m d) := HZ.out.put 0 (.slice B m d)
    have hr := row_less (row_far HV.out HZ.out fn_ne 0 (.slice B m d)) hlo
    have hst : Stp w (wn.setCell ⟨gf + 2, 0, none⟩ (.slice B m d)) := Below.setCell h0.out (p := ⟨gf + 2, 0, none⟩) hgz (.slice B m d)
    change bodyPost _ _ _ _ _ (wn.setCell ⟨gf + 2, 0, none⟩ (.slice B m d))
    generalize wn.setCell ⟨gf + 2, 0, none⟩ (.slice B m d) = Y at hf hr hst ⊢
    clear fc fz fx ff q0 q1 q2 q3 q4 q5 q6 q7
    have fz := fs_cell hf
    refine bodyPost_ret (v := .tuple #[fv B m d, .int .i64 10]) (by simp [results, Try.results12, go_sem, *]) rfl ⟨B, d, rfl, hr, hst⟩
  rw [if_neg hI] at hx
  replace hI : (findN n.path ns).isSome = false := by simpa using hI
  have HI := Lib.hid hI
  by_cases hP : standsB ns n = false
  · rw [if_pos hP] at hx
    obtain ⟨rfl, rfl⟩ := Prod.mk.inj hx
    obtain rfl : m = z := Hm.out.symm.trans hz
    have HP := Lib.hid hP
    clear hx hz hI hP
    go_enter Try.func12, Try.ntmps12
    go_upto_region 1 with fail
    change Code.wp _ _ _ _ (((w.alloc (.cells (fcs A m k) 24)).alloc (.cells (ncells n) 26)).alloc (.cells (fcs none 0 0) 24))
    have hgz : w.heap.size ≤ w.heap.size + 2 := by omega
    have hlo : w.heap.size ≤ w.heap.size := Nat.le_refl _
    obtain ⟨gf, hgf⟩ : ∃ g, w.heap.size = g := ⟨_, rfl⟩
    rw [hgf] at HF HX HZ ⊢
    rw [show w.heap.size + 2 = gf + 2 by rw [hgf]] at hgz
    clear hgf
    generalize (((w.alloc (.cells (fcs A m k) 24)).alloc (.cells (ncells n) 26)).alloc (.cells (fcs none 0 0) 24)) = W0 at h0 HF HX HZ ⊢
    replace Ha := Lib.hid (Ha.out.keep h0.out)
    have hsz := h0.out.size
    have fc := fs_cell HF.out
    go_upto_region 2 with (go_at_call 31; (with_reducible refine (own_s ns m Hm.out hl A k _ Ha.out).mono ?_); rintro e w1 ⟨B, d, rfl, hv, hs⟩; have HV := Lib.hid (row_less hv hsz); replace h0 := Lib.hid (Stp.trans h0.out hs); replace HF := Lib.hid (HF.out.keep hs HF.out.lt); replace HX := Lib.hid (HX.out.keep hs HX.out.lt); replace HZ := Lib.hid (HZ.out.keep hs HZ.out.lt); replace Ha := Lib.hid (Ha.out.keep hs); clear hs hv)
    have HN := Lib.hid (Blk.new w1 24 (fcs B m d))
    have hs1 : Stp w1 (w1.alloc (.cells (fcs B m d) 24)) := Stp.alloc (Stp.refl w1) _
    have hgn : w.heap.size ≤ w1.heap.size := h0.out.size
    change Code.wp _ _ _ _ (w1.alloc (.cells (fcs B m d) 24))
    have hnz := Nat.ne_of_lt HZ.out.lt
    obtain ⟨gn, hgn1⟩ : ∃ g, w1.heap.size = g := ⟨_, rfl⟩
    rw [hgn1] at HN hgn hnz ⊢
    clear hgn1
    generalize w1.alloc (.cells (fcs B m d) 24) = W1 at HN hs1 ⊢
    replace h0 := Lib.hid (Stp.trans h0.out hs1)
    replace HF := Lib.hid (HF.out.keep hs1 HF.out.lt)
    replace HX := Lib.hid (HX.out.keep hs1 HX.out.lt)
    replace HZ := Lib.hid (HZ.out.keep hs1 HZ.out.lt)
    replace Ha := Lib.hid (Ha.out.keep hs1)
    replace HV := Lib.hid (row_keep HV.out hs1)
    clear hs1 fc hsz
    have fc := fs_cell HF.out
    have fz := fs_cell HZ.out
    have fx := fs_cell HN.out
    obtain ⟨q0, q1, q2, q3, q4, q5, q6, q7⟩ := nd_cells HX.out
    go_upto_region 8 with (first | (go_at_call 22; (with_reducible refine (may_s ns m Hm.out hl Hs.out _ HM.out A k _ Ha.out).mono ?_); rintro e wn ⟨rfl, hs⟩; replace h0 := Lib.hid (Stp.trans h0.out hs); replace HF := Lib.hid (HF.out.keep hs HF.out.lt); replace HX := Lib.hid (HX.out.keep hs HX.out.lt); replace HZ := Lib.hid (HZ.out.keep hs HZ.out.lt); replace HN := Lib.hid (HN.out.keep hs HN.out.lt); replace Ha := Lib.hid (Ha.out.keep hs); replace HV := Lib.hid (row_keep HV.out hs); clear fc; have fc := fs_cell HF.out; clear fz; have fz := fs_cell HZ.out; clear fx; have fx := fs_cell HN.out; clear q0 q1 q2 q3 q4 q5 q6 q7; obtain ⟨q0, q1, q2, q3, q4, q5, q6, q7⟩ := nd_cells HX.out; clear hs) | (go_at_call 25; (with_reducible refine (tone_n n _ rfl Hsn.out _ HO.out _).mono ?_); rintro e wn ⟨rfl, hs⟩; replace h0 := Lib.hid (Stp.trans h0.out hs); replace HF := Lib.hid (HF.out.keep hs HF.out.lt); replace HX := Lib.hid (HX.out.keep hs HX.out.lt); replace HZ := Lib.hid (HZ.out.keep hs HZ.out.lt); replace HN := Lib.hid (HN.out.keep hs HN.out.lt); replace Ha := Lib.hid (Ha.out.keep hs); replace HV := Lib.hid (row_keep HV.out hs); clear fc; have fc := fs_cell HF.out; clear fz; have fz := fs_cell HZ.out; clear fx; have fx := fs_cell HN.out; clear q0 q1 q2 q3 q4 q5 q6 q7; obtain ⟨q0, q1, q2, q3, q4, q5, q6, q7⟩ := nd_cells HX.out; clear hs) | (go_at_call 32; (with_reducible refine (find_s ns m Hm.out hl Hri.out n.path i Hi.out _ HI.out A k _ Ha.out).mono ?_); rintro e wn ⟨rfl, hs⟩; replace h0 := Lib.hid (Stp.trans h0.out hs); replace HF := Lib.hid (HF.out.keep hs HF.out.lt); replace HX := Lib.hid (HX.out.keep hs HX.out.lt); replace HZ := Lib.hid (HZ.out.keep hs HZ.out.lt); replace HN := Lib.hid (HN.out.keep hs HN.out.lt); replace Ha := Lib.hid (Ha.out.keep hs); replace HV := Lib.hid (row_keep HV.out hs); clear fc; have fc := fs_cell HF.out; clear fz; have fz := fs_cell HZ.out; clear fx; have fx := fs_cell HN.out; clear q0 q1 q2 q3 q4 q5 q6 q7; obtain ⟨q0, q1, q2, q3, q4, q5, q6, q7⟩ := nd_cells HX.out; clear hs) | (go_at_call 33; (with_reducible refine (place_s ns m Hm.out hl Hri.out n _ rfl Hsn.out _ HP.out A k _ Ha.out).mono ?_); rintro e wn ⟨rfl, hs⟩; replace h0 := Lib.hid (Stp.trans h0.out hs); replace HF := Lib.hid (HF.out.keep hs HF.out.lt); replace HX := Lib.hid (HX.out.keep hs HX.out.lt); replace HZ := Lib.hid (HZ.out.keep hs HZ.out.lt); replace HN := Lib.hid (HN.out.keep hs HN.out.lt); replace Ha := Lib.hid (Ha.out.keep hs); replace HV := Lib.hid (row_keep HV.out hs); clear fc; have fc := fs_cell HF.out; clear fz; have fz := fs_cell HZ.out; clear fx; have fx := fs_cell HN.out; clear q0 q1 q2 q3 q4 q5 q6 q7; obtain ⟨q0, q1, q2, q3, q4, q5, q6, q7⟩ := nd_cells HX.out; clear hs))
    have ff := HZ.out.free 0
    go_wp2_with fail
    have hf : Blk (wn.setCell ⟨gf + 2, 0, none⟩ (.slice B m d)) (gf + 2) 24 (fcs B m d) := HZ.out.put 0 (.slice B m d)
    have hr := row_less (row_far HV.out HZ.out fn_ne 0 (.slice B m d)) hlo
    have hst : Stp w (wn.setCell ⟨gf + 2, 0, none⟩ (.slice B m d)) := Below.setCell h0.out (p := ⟨gf + 2, 0, none⟩) hgz (.slice B m d)
    change bodyPost _ _ _ _ _ (wn.setCell ⟨gf + 2, 0, none⟩ (.slice B m d))
    generalize wn.setCell ⟨gf + 2, 0, none⟩ (.slice B m d) = Y at hf hr hst ⊢
    clear fc fz fx ff q0 q1 q2 q3 q4 q5 q6 q7
    have fz := fs_cell hf
    refine bodyPost_ret (v := .tuple #[fv B m d, .int .i64 9]) (by simp [results, Try.results12, go_sem, *]) rfl ⟨B, d, rfl, hr, hst⟩
  rw [if_neg hP] at hx
  replace hP : standsB ns n = true := by simpa using hP
  have HP := Lib.hid hP
  by_cases h20 : 20 ≤ ns.length
  · rw [if_pos h20] at hx
    obtain ⟨rfl, rfl⟩ := Prod.mk.inj hx
    obtain rfl : m = z := Hm.out.symm.trans hz
    have g20 : ((m : Int) == 20) = true := by rw [beq_iff_eq]; rw [Hm.out] at h20; omega
    clear hx hz hI hP h20
    go_enter Try.func12, Try.ntmps12
    go_upto_region 1 with fail
    change Code.wp _ _ _ _ (((w.alloc (.cells (fcs A m k) 24)).alloc (.cells (ncells n) 26)).alloc (.cells (fcs none 0 0) 24))
    have hgz : w.heap.size ≤ w.heap.size + 2 := by omega
    have hlo : w.heap.size ≤ w.heap.size := Nat.le_refl _
    obtain ⟨gf, hgf⟩ : ∃ g, w.heap.size = g := ⟨_, rfl⟩
    rw [hgf] at HF HX HZ ⊢
    rw [show w.heap.size + 2 = gf + 2 by rw [hgf]] at hgz
    clear hgf
    generalize (((w.alloc (.cells (fcs A m k) 24)).alloc (.cells (ncells n) 26)).alloc (.cells (fcs none 0 0) 24)) = W0 at h0 HF HX HZ ⊢
    replace Ha := Lib.hid (Ha.out.keep h0.out)
    have hsz := h0.out.size
    have fc := fs_cell HF.out
    go_upto_region 2 with (go_at_call 31; (with_reducible refine (own_s ns m Hm.out hl A k _ Ha.out).mono ?_); rintro e w1 ⟨B, d, rfl, hv, hs⟩; have HV := Lib.hid (row_less hv hsz); replace h0 := Lib.hid (Stp.trans h0.out hs); replace HF := Lib.hid (HF.out.keep hs HF.out.lt); replace HX := Lib.hid (HX.out.keep hs HX.out.lt); replace HZ := Lib.hid (HZ.out.keep hs HZ.out.lt); replace Ha := Lib.hid (Ha.out.keep hs); clear hs hv)
    have HN := Lib.hid (Blk.new w1 24 (fcs B m d))
    have hs1 : Stp w1 (w1.alloc (.cells (fcs B m d) 24)) := Stp.alloc (Stp.refl w1) _
    have hgn : w.heap.size ≤ w1.heap.size := h0.out.size
    change Code.wp _ _ _ _ (w1.alloc (.cells (fcs B m d) 24))
    have hnz := Nat.ne_of_lt HZ.out.lt
    obtain ⟨gn, hgn1⟩ : ∃ g, w1.heap.size = g := ⟨_, rfl⟩
    rw [hgn1] at HN hgn hnz ⊢
    clear hgn1
    generalize w1.alloc (.cells (fcs B m d) 24) = W1 at HN hs1 ⊢
    replace h0 := Lib.hid (Stp.trans h0.out hs1)
    replace HF := Lib.hid (HF.out.keep hs1 HF.out.lt)
    replace HX := Lib.hid (HX.out.keep hs1 HX.out.lt)
    replace HZ := Lib.hid (HZ.out.keep hs1 HZ.out.lt)
    replace Ha := Lib.hid (Ha.out.keep hs1)
    replace HV := Lib.hid (row_keep HV.out hs1)
    clear hs1 fc hsz
    have fc := fs_cell HF.out
    have fz := fs_cell HZ.out
    have fx := fs_cell HN.out
    obtain ⟨q0, q1, q2, q3, q4, q5, q6, q7⟩ := nd_cells HX.out
    go_upto_region 10 with (first | (go_at_call 22; (with_reducible refine (may_s ns m Hm.out hl Hs.out _ HM.out A k _ Ha.out).mono ?_); rintro e wn ⟨rfl, hs⟩; replace h0 := Lib.hid (Stp.trans h0.out hs); replace HF := Lib.hid (HF.out.keep hs HF.out.lt); replace HX := Lib.hid (HX.out.keep hs HX.out.lt); replace HZ := Lib.hid (HZ.out.keep hs HZ.out.lt); replace HN := Lib.hid (HN.out.keep hs HN.out.lt); replace Ha := Lib.hid (Ha.out.keep hs); replace HV := Lib.hid (row_keep HV.out hs); clear fc; have fc := fs_cell HF.out; clear fz; have fz := fs_cell HZ.out; clear fx; have fx := fs_cell HN.out; clear q0 q1 q2 q3 q4 q5 q6 q7; obtain ⟨q0, q1, q2, q3, q4, q5, q6, q7⟩ := nd_cells HX.out; clear hs) | (go_at_call 25; (with_reducible refine (tone_n n _ rfl Hsn.out _ HO.out _).mono ?_); rintro e wn ⟨rfl, hs⟩; replace h0 := Lib.hid (Stp.trans h0.out hs); replace HF := Lib.hid (HF.out.keep hs HF.out.lt); replace HX := Lib.hid (HX.out.keep hs HX.out.lt); replace HZ := Lib.hid (HZ.out.keep hs HZ.out.lt); replace HN := Lib.hid (HN.out.keep hs HN.out.lt); replace Ha := Lib.hid (Ha.out.keep hs); replace HV := Lib.hid (row_keep HV.out hs); clear fc; have fc := fs_cell HF.out; clear fz; have fz := fs_cell HZ.out; clear fx; have fx := fs_cell HN.out; clear q0 q1 q2 q3 q4 q5 q6 q7; obtain ⟨q0, q1, q2, q3, q4, q5, q6, q7⟩ := nd_cells HX.out; clear hs) | (go_at_call 32; (with_reducible refine (find_s ns m Hm.out hl Hri.out n.path i Hi.out _ HI.out A k _ Ha.out).mono ?_); rintro e wn ⟨rfl, hs⟩; replace h0 := Lib.hid (Stp.trans h0.out hs); replace HF := Lib.hid (HF.out.keep hs HF.out.lt); replace HX := Lib.hid (HX.out.keep hs HX.out.lt); replace HZ := Lib.hid (HZ.out.keep hs HZ.out.lt); replace HN := Lib.hid (HN.out.keep hs HN.out.lt); replace Ha := Lib.hid (Ha.out.keep hs); replace HV := Lib.hid (row_keep HV.out hs); clear fc; have fc := fs_cell HF.out; clear fz; have fz := fs_cell HZ.out; clear fx; have fx := fs_cell HN.out; clear q0 q1 q2 q3 q4 q5 q6 q7; obtain ⟨q0, q1, q2, q3, q4, q5, q6, q7⟩ := nd_cells HX.out; clear hs) | (go_at_call 33; (with_reducible refine (place_s ns m Hm.out hl Hri.out n _ rfl Hsn.out _ HP.out A k _ Ha.out).mono ?_); rintro e wn ⟨rfl, hs⟩; replace h0 := Lib.hid (Stp.trans h0.out hs); replace HF := Lib.hid (HF.out.keep hs HF.out.lt); replace HX := Lib.hid (HX.out.keep hs HX.out.lt); replace HZ := Lib.hid (HZ.out.keep hs HZ.out.lt); replace HN := Lib.hid (HN.out.keep hs HN.out.lt); replace Ha := Lib.hid (Ha.out.keep hs); replace HV := Lib.hid (row_keep HV.out hs); clear fc; have fc := fs_cell HF.out; clear fz; have fz := fs_cell HZ.out; clear fx; have fx := fs_cell HN.out; clear q0 q1 q2 q3 q4 q5 q6 q7; obtain ⟨q0, q1, q2, q3, q4, q5, q6, q7⟩ := nd_cells HX.out; clear hs))
    have ff := HZ.out.free 0
    go_wp2_with fail
    have hf : Blk (wn.setCell ⟨gf + 2, 0, none⟩ (.slice B m d)) (gf + 2) 24 (fcs B m d) := HZ.out.put 0 (.slice B m d)
    have hr := row_less (row_far HV.out HZ.out fn_ne 0 (.slice B m d)) hlo
    have hst : Stp w (wn.setCell ⟨gf + 2, 0, none⟩ (.slice B m d)) := Below.setCell h0.out (p := ⟨gf + 2, 0, none⟩) hgz (.slice B m d)
    change bodyPost _ _ _ _ _ (wn.setCell ⟨gf + 2, 0, none⟩ (.slice B m d))
    generalize wn.setCell ⟨gf + 2, 0, none⟩ (.slice B m d) = Y at hf hr hst ⊢
    clear fc fz fx ff q0 q1 q2 q3 q4 q5 q6 q7
    have fz := fs_cell hf
    refine bodyPost_ret (v := .tuple #[fv B m d, .int .i64 8]) (by simp [results, Try.results12, go_sem, *]) rfl ⟨B, d, rfl, hr, hst⟩
  · rw [if_neg h20] at hx
    obtain ⟨rfl, rfl⟩ := Prod.mk.inj hx
    have g20 : ((m : Int) == 20) = false := by rw [beq_eq_false_iff_ne]; rw [Hm.out] at h20; omega
    have hins := cut_ins rfl Hi.out (fun x hx h => by have := find_mem.2 ⟨x, hx, h⟩; rw [hI] at this; cases this)
    obtain rfl : m + 1 = z := by rw [← hz, ins_length, Hm.out]
    have him : i ≤ m := by rw [← Hm.out]; exact Hi.out.le
    have Hins := Lib.hid hins
    clear hx hz hI hP h20 hins
    go_enter Try.func12, Try.ntmps12
    go_upto_region 1 with fail
    change Code.wp _ _ _ _ (((w.alloc (.cells (fcs A m k) 24)).alloc (.cells (ncells n) 26)).alloc (.cells (fcs none 0 0) 24))
    have hgz : w.heap.size ≤ w.heap.size + 2 := by omega
    have hlo : w.heap.size ≤ w.heap.size := Nat.le_refl _
    obtain ⟨gf, hgf⟩ : ∃ g, w.heap.size = g := ⟨_, rfl⟩
    rw [hgf] at HF HX HZ ⊢
    rw [show w.heap.size + 2 = gf + 2 by rw [hgf]] at hgz
    clear hgf
    generalize (((w.alloc (.cells (fcs A m k) 24)).alloc (.cells (ncells n) 26)).alloc (.cells (fcs none 0 0) 24)) = W0 at h0 HF HX HZ ⊢
    replace Ha := Lib.hid (Ha.out.keep h0.out)
    have hsz := h0.out.size
    have fc := fs_cell HF.out
    go_upto_region 2 with (go_at_call 31; (with_reducible refine (own_s ns m Hm.out hl A k _ Ha.out).mono ?_); rintro e w1 ⟨B, d, rfl, hv, hs⟩; have HV := Lib.hid (row_less hv hsz); replace h0 := Lib.hid (Stp.trans h0.out hs); replace HF := Lib.hid (HF.out.keep hs HF.out.lt); replace HX := Lib.hid (HX.out.keep hs HX.out.lt); replace HZ := Lib.hid (HZ.out.keep hs HZ.out.lt); replace Ha := Lib.hid (Ha.out.keep hs); clear hs hv)
    have HN := Lib.hid (Blk.new w1 24 (fcs B m d))
    have hs1 : Stp w1 (w1.alloc (.cells (fcs B m d) 24)) := Stp.alloc (Stp.refl w1) _
    have hgn : w.heap.size ≤ w1.heap.size := h0.out.size
    change Code.wp _ _ _ _ (w1.alloc (.cells (fcs B m d) 24))
    have hnz := Nat.ne_of_lt HZ.out.lt
    obtain ⟨gn, hgn1⟩ : ∃ g, w1.heap.size = g := ⟨_, rfl⟩
    rw [hgn1] at HN hgn hnz ⊢
    clear hgn1
    generalize w1.alloc (.cells (fcs B m d) 24) = W1 at HN hs1 ⊢
    replace h0 := Lib.hid (Stp.trans h0.out hs1)
    replace HF := Lib.hid (HF.out.keep hs1 HF.out.lt)
    replace HX := Lib.hid (HX.out.keep hs1 HX.out.lt)
    replace HZ := Lib.hid (HZ.out.keep hs1 HZ.out.lt)
    replace Ha := Lib.hid (Ha.out.keep hs1)
    replace HV := Lib.hid (row_keep HV.out hs1)
    clear hs1 fc hsz
    have fc := fs_cell HF.out
    have fz := fs_cell HZ.out
    have fx := fs_cell HN.out
    obtain ⟨q0, q1, q2, q3, q4, q5, q6, q7⟩ := nd_cells HX.out
    go_upto_region 11 with (first | (go_at_call 22; (with_reducible refine (may_s ns m Hm.out hl Hs.out _ HM.out A k _ Ha.out).mono ?_); rintro e wn ⟨rfl, hs⟩; replace h0 := Lib.hid (Stp.trans h0.out hs); replace HF := Lib.hid (HF.out.keep hs HF.out.lt); replace HX := Lib.hid (HX.out.keep hs HX.out.lt); replace HZ := Lib.hid (HZ.out.keep hs HZ.out.lt); replace HN := Lib.hid (HN.out.keep hs HN.out.lt); replace Ha := Lib.hid (Ha.out.keep hs); replace HV := Lib.hid (row_keep HV.out hs); clear fc; have fc := fs_cell HF.out; clear fz; have fz := fs_cell HZ.out; clear fx; have fx := fs_cell HN.out; clear q0 q1 q2 q3 q4 q5 q6 q7; obtain ⟨q0, q1, q2, q3, q4, q5, q6, q7⟩ := nd_cells HX.out; clear hs) | (go_at_call 25; (with_reducible refine (tone_n n _ rfl Hsn.out _ HO.out _).mono ?_); rintro e wn ⟨rfl, hs⟩; replace h0 := Lib.hid (Stp.trans h0.out hs); replace HF := Lib.hid (HF.out.keep hs HF.out.lt); replace HX := Lib.hid (HX.out.keep hs HX.out.lt); replace HZ := Lib.hid (HZ.out.keep hs HZ.out.lt); replace HN := Lib.hid (HN.out.keep hs HN.out.lt); replace Ha := Lib.hid (Ha.out.keep hs); replace HV := Lib.hid (row_keep HV.out hs); clear fc; have fc := fs_cell HF.out; clear fz; have fz := fs_cell HZ.out; clear fx; have fx := fs_cell HN.out; clear q0 q1 q2 q3 q4 q5 q6 q7; obtain ⟨q0, q1, q2, q3, q4, q5, q6, q7⟩ := nd_cells HX.out; clear hs) | (go_at_call 32; (with_reducible refine (find_s ns m Hm.out hl Hri.out n.path i Hi.out _ HI.out A k _ Ha.out).mono ?_); rintro e wn ⟨rfl, hs⟩; replace h0 := Lib.hid (Stp.trans h0.out hs); replace HF := Lib.hid (HF.out.keep hs HF.out.lt); replace HX := Lib.hid (HX.out.keep hs HX.out.lt); replace HZ := Lib.hid (HZ.out.keep hs HZ.out.lt); replace HN := Lib.hid (HN.out.keep hs HN.out.lt); replace Ha := Lib.hid (Ha.out.keep hs); replace HV := Lib.hid (row_keep HV.out hs); clear fc; have fc := fs_cell HF.out; clear fz; have fz := fs_cell HZ.out; clear fx; have fx := fs_cell HN.out; clear q0 q1 q2 q3 q4 q5 q6 q7; obtain ⟨q0, q1, q2, q3, q4, q5, q6, q7⟩ := nd_cells HX.out; clear hs) | (go_at_call 33; (with_reducible refine (place_s ns m Hm.out hl Hri.out n _ rfl Hsn.out _ HP.out A k _ Ha.out).mono ?_); rintro e wn ⟨rfl, hs⟩; replace h0 := Lib.hid (Stp.trans h0.out hs); replace HF := Lib.hid (HF.out.keep hs HF.out.lt); replace HX := Lib.hid (HX.out.keep hs HX.out.lt); replace HZ := Lib.hid (HZ.out.keep hs HZ.out.lt); replace HN := Lib.hid (HN.out.keep hs HN.out.lt); replace Ha := Lib.hid (Ha.out.keep hs); replace HV := Lib.hid (row_keep HV.out hs); clear fc; have fc := fs_cell HF.out; clear fz; have fz := fs_cell HZ.out; clear fx; have fx := fs_cell HN.out; clear q0 q1 q2 q3 q4 q5 q6 q7; obtain ⟨q0, q1, q2, q3, q4, q5, q6, q7⟩ := nd_cells HX.out; clear hs))
    have hs2 : Stp wn (wn.alloc (.cells (ncells n) 26)) := Stp.alloc (Stp.refl wn) _
    have HL := Lib.hid (Blk.new wn 26 (ncells n))
    have HVn := Lib.hid (show (Value.slice B m d).ownBlock ≠ some wn.heap.size from fun h => Nat.lt_irrefl _ (HV.out.lt _ h).2)
    have HVl := Lib.hid (show w.heap.size ≤ (wn.alloc (.cells (ncells n) 26)).heap.size by rw [World.size_alloc]; have := h0.out.size; omega)
    have HVa := Lib.hid (row_keep HV.out hs2)
    have HS2 := Lib.hid hs2
    clear hs2
    have ff := HN.out.free 0
    go_upto_region 12 with (go_at_call 34; (with_reducible refine (insert_s ns m Hm.out hl n i him w.heap.size (.slice B m d) _ _ HVa.out HL.out HVn.out HVl.out).mono ?_); rintro e w5 ⟨v5, rfl, hv5, hg5⟩; obtain ⟨B5, d5, rfl⟩ := cform hv5; have HV5 := Lib.hid hv5; have HG5 := Lib.hid hg5; replace h0 := Lib.hid (row_stp HVa.out (Stp.trans h0.out HS2.out) hlo hg5); have HN5 := Lib.hid ((HN.out.keep HS2.out HN.out.lt).grown hg5 (row_ne HVa.out (HN.out.keep HS2.out HN.out.lt) fn_ne).symm); have HZ5 := Lib.hid ((HZ.out.keep HS2.out HZ.out.lt).grown hg5 (row_ne HVa.out (HZ.out.keep HS2.out HZ.out.lt) fn_ne).symm); clear hv5 hg5 HV HN HZ fc fz fx ff; have fz := fs_cell HZ5.out; have fx := fs_cell HN5.out; have ff := HN5.out.free 0)
    change Code.wp _ _ _ _ (w5.setCell ⟨gn, 0, none⟩ (.slice B5 (m + 1) d5))
    have HN := Lib.hid (show Blk (w5.setCell ⟨gn, 0, none⟩ (.slice B5 (m + 1) d5)) gn 24 (fcs B5 (m + 1) d5) from HN5.out.put 0 _)
    have hne : gf + 2 ≠ gn := hnz
    have HZ := Lib.hid (HZ5.out.far (p := ⟨gn, 0, none⟩) hne (.slice B5 (m + 1) d5))
    have HV := Lib.hid (row_far HV5.out HN5.out fn_ne 0 (.slice B5 (m + 1) d5))
    replace h0 := Lib.hid (show Stp w (w5.setCell ⟨gn, 0, none⟩ (.slice B5 (m + 1) d5)) from Below.setCell h0.out (p := ⟨gn, 0, none⟩) hgn _)
    generalize w5.setCell ⟨gn, 0, none⟩ (.slice B5 (m + 1) d5) = w6 at HN HZ HV h0 ⊢
    clear fz fx ff HV5 HN5 HZ5 HG5
    have fz := fs_cell HZ.out
    have fx := fs_cell HN.out
    have fc := fz
    have ff := HZ.out.free 0
    go_wp2_with fail
    have hf : Blk (w6.setCell ⟨gf + 2, 0, none⟩ (.slice B5 (m + 1) d5)) (gf + 2) 24 (fcs B5 (m + 1) d5) := HZ.out.put 0 (.slice B5 (m + 1) d5)
    have hr := row_less (row_far (show w6.ownsRow w.heap.size 26 8 (.slice B5 (m + 1) d5) (m + 1) (ntc (insF n ns)) by rw [Hins.out]; exact HV.out) HZ.out fn_ne 0 (.slice B5 (m + 1) d5)) hlo
    have hst : Stp w (w6.setCell ⟨gf + 2, 0, none⟩ (.slice B5 (m + 1) d5)) := Below.setCell h0.out (p := ⟨gf + 2, 0, none⟩) hgz (.slice B5 (m + 1) d5)
    change bodyPost _ _ _ _ _ (w6.setCell ⟨gf + 2, 0, none⟩ (.slice B5 (m + 1) d5))
    generalize w6.setCell ⟨gf + 2, 0, none⟩ (.slice B5 (m + 1) d5) = Y at hf hr hst ⊢
    clear fc fz fx ff
    have fz := fs_cell hf
    refine bodyPost_ret (v := .tuple #[fv B5 (m + 1) d5, .int .i64 0]) (by simp [results, Try.results12, go_sem, *]) rfl ⟨B5, d5, rfl, hr, hst⟩
theorem cut_is {ns : List Nd} {p : List UInt8} {i : Nat} (hr : Rises ns) (h : CutAt ns p i) {n : Nd} (hn : ns[i]? = some n) (hp : (findN p ns).isSome = true) : findN p ns = some i := by
  obtain ⟨j, hj⟩ := Option.isSome_iff_exists.1 hp
  rw [hj, cut_find hr h hj]
theorem file_data {ns : List Nd} (hM : mayF ns = true) {i : Nat} {n : Nd} (hn : ns[i]? = some n) (hk : n.kind = 48) : n.data.length ≤ 4000 := by
  have h := ((mayF_iff.1 hM).2.2 n (List.mem_of_getElem? hn)).1
  unfold oneB at h
  rw [Bool.and_eq_true, Bool.and_eq_true] at h
  have h2 := h.2.2
  unfold Tree.kindB at h2
  rw [if_pos hk, Bool.and_eq_true, decide_eq_true_eq] at h2
  exact h2.2
theorem data_set {n : Nd} (d : List UInt8) : ∀ {ns : List Nd} {i : Nat}, ns[i]? = some n → (ntc ns).set (i * 8 + 7) (.string ⟨(n.data ++ d).toArray⟩) = ntc (ns.set i (moreN n d))
  | [], i, h => by simp at h
  | x :: xs, 0, h => by simp at h; subst h; rfl
  | x :: xs, i + 1, h => by
    have h2 := data_set d (ns := xs) (i := i) (by simpa using h)
    rw [List.set_cons_succ]
    show ((ncells x).toList ++ ntc xs).set _ _ = (ncells x).toList ++ ntc (xs.set i (moreN n d))
    rw [← h2, List.set_append_right _ _ (by show 8 ≤ _; omega), show (i + 1) * 8 + 7 - (ncells x).toList.length = i * 8 + 7 by show (i + 1) * 8 + 7 - 8 = _; omega]
theorem crow_blk {w : World} {b sz g n cap : Nat} {t : TypeId} {xs : List Value} (h : w.ownsRow b t sz (.slice (some ⟨g, 0, none⟩) n cap) n xs) : ∃ cur, Blk w g t cur ∧ n ≤ cap ∧ cap ≤ maxLen ∧ cur.size = cap * sz ∧ cur.toList.take (n * sz) = xs ∧ xs.length = n * sz ∧ b ≤ g := by
  obtain ⟨hl, ⟨hv, _⟩ | ⟨g', cap', cur, hv, hb, hg, h1, h2, h3, h4⟩⟩ := h
  · cases hv
  · cases hv
    exact ⟨cur, hg, h1, h2, h3, h4, hl, hb⟩
theorem crow_put {w : World} {b sz g n cap : Nat} {t : TypeId} {xs : List Value} (h : w.ownsRow b t sz (.slice (some ⟨g, 0, none⟩) n cap) n xs) (j : Nat) (u : Value) : (w.setCell ⟨g, j, none⟩ u).ownsRow b t sz (.slice (some ⟨g, 0, none⟩) n cap) n (xs.set j u) := by
  obtain ⟨cur, hb, h1, h2, h3, h4, hl, hbg⟩ := crow_blk h
  refine ⟨by rw [List.length_set, hl], .inr ⟨g, cap, _, rfl, hbg, hb.put j u, h1, h2, by rw [Array.size_setIfInBounds, h3], ?_⟩⟩
  rw [Array.toList_setIfInBounds, List.take_set, h4]
set_option maxRecDepth 100000 in
set_option maxHeartbeats 8000000 in
theorem grow_s (ns : List Nd) (m : Nat) (hm : ns.length = m) (hl : m ≤ 1000) (hs : ∀ n ∈ ns, SmallN n) (p : List UInt8) (d : List UInt8) (hd : d.length ≤ 1000000) (ms : List Nd) (e0 : Int) (hx : growF ns p d = (ms, e0)) (A : Option Addr) (k : Nat) (w : World) (ha : RdN w A k ns) :
    Calls Try.prog 14 #[fv A m k, .string ⟨p.toArray⟩, .string ⟨d.toArray⟩] w fun e w' => ∃ B c, e = .returned (.tuple #[fv B m c, .int .i64 e0]) ∧ w'.ownsRow w.heap.size 26 8 (.slice B m c) m (ntc ms) ∧ Stp w w' := by
  have Ha := Lib.hid ha
  have Hm := Lib.hid hm
  have Hs := Lib.hid hs
  clear ha hm hs
  have h0 := Lib.hid (Stp.alloc (Stp.alloc (Stp.refl w) (.cells (fcs A m k) 24)) (.cells (fcs none 0 0) 24))
  have HF := Lib.hid ((Blk.new w 24 (fcs A m k)).alloc (.cells (fcs none 0 0) 24))
  have HZ := Lib.hid (by have h := Blk.new (w.alloc (.cells (fcs A m k) 24)) 24 (fcs none 0 0); simp only [World.size_alloc] at h; exact h)
  rw [growF] at hx
  by_cases hM : mayF ns = false
  · rw [if_pos hM] at hx
    obtain ⟨rfl, rfl⟩ := Prod.mk.inj hx
    have HM := Lib.hid hM
    clear hM hx
    go_enter Try.func14, Try.ntmps14
    go_upto_region 1 with fail
    change Code.wp _ _ _ _ ((w.alloc (.cells (fcs A m k) 24)).alloc (.cells (fcs none 0 0) 24))
    have hgz : w.heap.size ≤ w.heap.size + 1 := by omega
    have hlo : w.heap.size ≤ w.heap.size := Nat.le_refl _
    obtain ⟨gf, hgf⟩ : ∃ g, w.heap.size = g := ⟨_, rfl⟩
    rw [hgf] at HF HZ ⊢
    rw [show w.heap.size + 1 = gf + 1 by rw [hgf]] at hgz
    clear hgf
    generalize ((w.alloc (.cells (fcs A m k) 24)).alloc (.cells (fcs none 0 0) 24)) = W0 at h0 HF HZ ⊢
    replace Ha := Lib.hid (Ha.out.keep h0.out)
    have hsz := h0.out.size
    have fc := fs_cell HF.out
    go_upto_region 2 with (go_at_call 31; (with_reducible refine (own_s ns m Hm.out hl A k _ Ha.out).mono ?_); rintro e w1 ⟨B, dd, rfl, hv, hs⟩; have HV := Lib.hid (row_less hv hsz); replace h0 := Lib.hid (Stp.trans h0.out hs); replace HF := Lib.hid (HF.out.keep hs HF.out.lt); replace HZ := Lib.hid (HZ.out.keep hs HZ.out.lt); replace Ha := Lib.hid (Ha.out.keep hs); clear hs hv)
    have HN := Lib.hid (Blk.new w1 24 (fcs B m dd))
    have hs1 : Stp w1 (w1.alloc (.cells (fcs B m dd) 24)) := Stp.alloc (Stp.refl w1) _
    change Code.wp _ _ _ _ (w1.alloc (.cells (fcs B m dd) 24))
    obtain ⟨gn, hgn1⟩ : ∃ g, w1.heap.size = g := ⟨_, rfl⟩
    rw [hgn1] at HN ⊢
    clear hgn1
    generalize w1.alloc (.cells (fcs B m dd) 24) = W1 at HN hs1 ⊢
    replace h0 := Lib.hid (Stp.trans h0.out hs1)
    replace HF := Lib.hid (HF.out.keep hs1 HF.out.lt)
    replace HZ := Lib.hid (HZ.out.keep hs1 HZ.out.lt)
    replace Ha := Lib.hid (Ha.out.keep hs1)
    replace HV := Lib.hid (row_keep HV.out hs1)
    clear hs1 fc hsz
    have fc := fs_cell HF.out
    have fz := fs_cell HZ.out
    have fx := fs_cell HN.out
    go_upto_region 3 with (go_at_call 22; (with_reducible refine (may_s ns m Hm.out hl Hs.out _ HM.out A k _ Ha.out).mono ?_); rintro e wn ⟨rfl, hs⟩; replace h0 := Lib.hid (Stp.trans h0.out hs); replace HF := Lib.hid (HF.out.keep hs HF.out.lt); replace HZ := Lib.hid (HZ.out.keep hs HZ.out.lt); replace HN := Lib.hid (HN.out.keep hs HN.out.lt); replace Ha := Lib.hid (Ha.out.keep hs); replace HV := Lib.hid (row_keep HV.out hs); clear fc; have fc := fs_cell HF.out; clear fz; have fz := fs_cell HZ.out; clear fx; have fx := fs_cell HN.out; clear hs)
    have ff := HZ.out.free 0
    go_wp2_with fail
    have hf : Blk (wn.setCell ⟨gf + 1, 0, none⟩ (.slice B m dd)) (gf + 1) 24 (fcs B m dd) := HZ.out.put 0 (.slice B m dd)
    have hr := row_less (row_far HV.out HZ.out fn_ne 0 (.slice B m dd)) hlo
    have hst : Stp w (wn.setCell ⟨gf + 1, 0, none⟩ (.slice B m dd)) := Below.setCell h0.out (p := ⟨gf + 1, 0, none⟩) hgz (.slice B m dd)
    change bodyPost _ _ _ _ _ (wn.setCell ⟨gf + 1, 0, none⟩ (.slice B m dd))
    generalize wn.setCell ⟨gf + 1, 0, none⟩ (.slice B m dd) = Y at hf hr hst ⊢
    clear fc fz fx ff
    have fz := fs_cell hf
    refine bodyPost_ret (v := .tuple #[fv B m dd, .int .i64 1]) (by simp [results, Try.results14, go_sem, *]) rfl ⟨B, dd, rfl, hr, hst⟩
  rw [if_neg hM] at hx
  replace hM : mayF ns = true := by simpa using hM
  have HM := Lib.hid hM
  have Hri := Lib.hid (mayF_iff.1 hM).2.1
  obtain ⟨i, hi⟩ := cut_ex p Hri.out
  have Hi := Lib.hid hi
  cases hf : findN p ns with
  | none =>
    rw [hf] at hx
    obtain ⟨rfl, rfl⟩ := Prod.mk.inj hx
    have HI := Lib.hid (show (findN p ns).isSome = false by rw [hf]; rfl)
    clear hM hi hf hx
    go_enter Try.func14, Try.ntmps14
    go_upto_region 1 with fail
    change Code.wp _ _ _ _ ((w.alloc (.cells (fcs A m k) 24)).alloc (.cells (fcs none 0 0) 24))
    have hgz : w.heap.size ≤ w.heap.size + 1 := by omega
    have hlo : w.heap.size ≤ w.heap.size := Nat.le_refl _
    obtain ⟨gf, hgf⟩ : ∃ g, w.heap.size = g := ⟨_, rfl⟩
    rw [hgf] at HF HZ ⊢
    rw [show w.heap.size + 1 = gf + 1 by rw [hgf]] at hgz
    clear hgf
    generalize ((w.alloc (.cells (fcs A m k) 24)).alloc (.cells (fcs none 0 0) 24)) = W0 at h0 HF HZ ⊢
    replace Ha := Lib.hid (Ha.out.keep h0.out)
    have hsz := h0.out.size
    have fc := fs_cell HF.out
    go_upto_region 2 with (go_at_call 31; (with_reducible refine (own_s ns m Hm.out hl A k _ Ha.out).mono ?_); rintro e w1 ⟨B, dd, rfl, hv, hs⟩; have HV := Lib.hid (row_less hv hsz); replace h0 := Lib.hid (Stp.trans h0.out hs); replace HF := Lib.hid (HF.out.keep hs HF.out.lt); replace HZ := Lib.hid (HZ.out.keep hs HZ.out.lt); replace Ha := Lib.hid (Ha.out.keep hs); clear hs hv)
    have HN := Lib.hid (Blk.new w1 24 (fcs B m dd))
    have hs1 : Stp w1 (w1.alloc (.cells (fcs B m dd) 24)) := Stp.alloc (Stp.refl w1) _
    change Code.wp _ _ _ _ (w1.alloc (.cells (fcs B m dd) 24))
    obtain ⟨gn, hgn1⟩ : ∃ g, w1.heap.size = g := ⟨_, rfl⟩
    rw [hgn1] at HN ⊢
    clear hgn1
    generalize w1.alloc (.cells (fcs B m dd) 24) = W1 at HN hs1 ⊢
    replace h0 := Lib.hid (Stp.trans h0.out hs1)
    replace HF := Lib.hid (HF.out.keep hs1 HF.out.lt)
    replace HZ := Lib.hid (HZ.out.keep hs1 HZ.out.lt)
    replace Ha := Lib.hid (Ha.out.keep hs1)
    replace HV := Lib.hid (row_keep HV.out hs1)
    clear hs1 fc hsz
    have fc := fs_cell HF.out
    have fz := fs_cell HZ.out
    have fx := fs_cell HN.out
    go_upto_region 6 with (first | (go_at_call 22; (with_reducible refine (may_s ns m Hm.out hl Hs.out _ HM.out A k _ Ha.out).mono ?_); rintro e wn ⟨rfl, hs⟩; replace h0 := Lib.hid (Stp.trans h0.out hs); replace HF := Lib.hid (HF.out.keep hs HF.out.lt); replace HZ := Lib.hid (HZ.out.keep hs HZ.out.lt); replace HN := Lib.hid (HN.out.keep hs HN.out.lt); replace Ha := Lib.hid (Ha.out.keep hs); replace HV := Lib.hid (row_keep HV.out hs); clear fc; have fc := fs_cell HF.out; clear fz; have fz := fs_cell HZ.out; clear fx; have fx := fs_cell HN.out; clear hs) | (go_at_call 32; (with_reducible refine (find_s ns m Hm.out hl Hri.out p _ Hi.out _ HI.out A k _ Ha.out).mono ?_); rintro e wn ⟨rfl, hs⟩; replace h0 := Lib.hid (Stp.trans h0.out hs); replace HF := Lib.hid (HF.out.keep hs HF.out.lt); replace HZ := Lib.hid (HZ.out.keep hs HZ.out.lt); replace HN := Lib.hid (HN.out.keep hs HN.out.lt); replace Ha := Lib.hid (Ha.out.keep hs); replace HV := Lib.hid (row_keep HV.out hs); clear fc; have fc := fs_cell HF.out; clear fz; have fz := fs_cell HZ.out; clear fx; have fx := fs_cell HN.out; clear hs))
    have ff := HZ.out.free 0
    go_wp2_with fail
    have hf : Blk (wn.setCell ⟨gf + 1, 0, none⟩ (.slice B m dd)) (gf + 1) 24 (fcs B m dd) := HZ.out.put 0 (.slice B m dd)
    have hr := row_less (row_far HV.out HZ.out fn_ne 0 (.slice B m dd)) hlo
    have hst : Stp w (wn.setCell ⟨gf + 1, 0, none⟩ (.slice B m dd)) := Below.setCell h0.out (p := ⟨gf + 1, 0, none⟩) hgz (.slice B m dd)
    change bodyPost _ _ _ _ _ (wn.setCell ⟨gf + 1, 0, none⟩ (.slice B m dd))
    generalize wn.setCell ⟨gf + 1, 0, none⟩ (.slice B m dd) = Y at hf hr hst ⊢
    clear fc fz fx ff
    have fz := fs_cell hf
    refine bodyPost_ret (v := .tuple #[fv B m dd, .int .i64 9]) (by simp [results, Try.results14, go_sem, *]) rfl ⟨B, dd, rfl, hr, hst⟩
  | some j =>
    obtain rfl := cut_find Hri.out hi hf
    obtain ⟨n, hn, -⟩ := findN_lt hf
    have HI := Lib.hid (show (findN p ns).isSome = true by rw [hf]; rfl)
    have hgd : ns.getD j zeroN = n := by simp [hn]
    rw [hf] at hx
    dsimp only at hx
    rw [hgd] at hx
    have hjm : j < m := by rw [← Hm.out]; exact (List.getElem?_eq_some_iff.1 hn).1
    have Hn := Lib.hid hn
    have g48 := ckind_beq n 48
    clear hi hf hgd hn
    by_cases hk : n.kind ≠ 48
    · rw [if_pos hk] at hx
      obtain ⟨rfl, rfl⟩ := Prod.mk.inj hx
      have g48' : ((n.kind.toNat : Int) != 48) = true := by rw [bne, show ((n.kind.toNat : Int) == 48) = decide (n.kind = 48) from g48, decide_eq_false hk]; rfl
      clear hM hx g48
      go_enter Try.func14, Try.ntmps14
      go_upto_region 1 with fail
      change Code.wp _ _ _ _ ((w.alloc (.cells (fcs A m k) 24)).alloc (.cells (fcs none 0 0) 24))
      have hgz : w.heap.size ≤ w.heap.size + 1 := by omega
      have hlo : w.heap.size ≤ w.heap.size := Nat.le_refl _
      obtain ⟨gf, hgf⟩ : ∃ g, w.heap.size = g := ⟨_, rfl⟩
      rw [hgf] at HF HZ ⊢
      rw [show w.heap.size + 1 = gf + 1 by rw [hgf]] at hgz
      clear hgf
      generalize ((w.alloc (.cells (fcs A m k) 24)).alloc (.cells (fcs none 0 0) 24)) = W0 at h0 HF HZ ⊢
      replace Ha := Lib.hid (Ha.out.keep h0.out)
      have hsz := h0.out.size
      have fc := fs_cell HF.out
      go_upto_region 2 with (go_at_call 31; (with_reducible refine (own_s ns m Hm.out hl A k _ Ha.out).mono ?_); rintro e w1 ⟨B, dd, rfl, hv, hs⟩; have HV := Lib.hid (row_less hv hsz); replace h0 := Lib.hid (Stp.trans h0.out hs); replace HF := Lib.hid (HF.out.keep hs HF.out.lt); replace HZ := Lib.hid (HZ.out.keep hs HZ.out.lt); replace Ha := Lib.hid (Ha.out.keep hs); clear hs hv)
      have HN := Lib.hid (Blk.new w1 24 (fcs B m dd))
      have hs1 : Stp w1 (w1.alloc (.cells (fcs B m dd) 24)) := Stp.alloc (Stp.refl w1) _
      change Code.wp _ _ _ _ (w1.alloc (.cells (fcs B m dd) 24))
      obtain ⟨gn, hgn1⟩ : ∃ g, w1.heap.size = g := ⟨_, rfl⟩
      rw [hgn1] at HN ⊢
      clear hgn1
      generalize w1.alloc (.cells (fcs B m dd) 24) = W1 at HN hs1 ⊢
      replace h0 := Lib.hid (Stp.trans h0.out hs1)
      replace HF := Lib.hid (HF.out.keep hs1 HF.out.lt)
      replace HZ := Lib.hid (HZ.out.keep hs1 HZ.out.lt)
      replace Ha := Lib.hid (Ha.out.keep hs1)
      replace HV := Lib.hid (row_keep HV.out hs1)
      clear hs1 fc hsz
      have fc := fs_cell HF.out
      have fz := fs_cell HZ.out
      have fx := fs_cell HN.out
      go_upto_region 5 with (first | (go_at_call 22; (with_reducible refine (may_s ns m Hm.out hl Hs.out _ HM.out A k _ Ha.out).mono ?_); rintro e wn ⟨rfl, hs⟩; replace h0 := Lib.hid (Stp.trans h0.out hs); replace HF := Lib.hid (HF.out.keep hs HF.out.lt); replace HZ := Lib.hid (HZ.out.keep hs HZ.out.lt); replace HN := Lib.hid (HN.out.keep hs HN.out.lt); replace Ha := Lib.hid (Ha.out.keep hs); replace HV := Lib.hid (row_keep HV.out hs); clear fc; have fc := fs_cell HF.out; clear fz; have fz := fs_cell HZ.out; clear fx; have fx := fs_cell HN.out; clear hs) | (go_at_call 32; (with_reducible refine (find_s ns m Hm.out hl Hri.out p _ Hi.out _ HI.out A k _ Ha.out).mono ?_); rintro e wn ⟨rfl, hs⟩; replace h0 := Lib.hid (Stp.trans h0.out hs); replace HF := Lib.hid (HF.out.keep hs HF.out.lt); replace HZ := Lib.hid (HZ.out.keep hs HZ.out.lt); replace HN := Lib.hid (HN.out.keep hs HN.out.lt); replace Ha := Lib.hid (Ha.out.keep hs); replace HV := Lib.hid (row_keep HV.out hs); clear fc; have fc := fs_cell HF.out; clear fz; have fz := fs_cell HZ.out; clear fx; have fx := fs_cell HN.out; clear hs))
      obtain ⟨b, o, rfl, -, q0, q1, q2, q3, q4, q5, q6, q7⟩ := Ha.out.cells Hn.out
      go_upto_region 6 with fail
      have ff := HZ.out.free 0
      go_wp2_with fail
      have hf : Blk (wn.setCell ⟨gf + 1, 0, none⟩ (.slice B m dd)) (gf + 1) 24 (fcs B m dd) := HZ.out.put 0 (.slice B m dd)
      have hr := row_less (row_far HV.out HZ.out fn_ne 0 (.slice B m dd)) hlo
      have hst : Stp w (wn.setCell ⟨gf + 1, 0, none⟩ (.slice B m dd)) := Below.setCell h0.out (p := ⟨gf + 1, 0, none⟩) hgz (.slice B m dd)
      change bodyPost _ _ _ _ _ (wn.setCell ⟨gf + 1, 0, none⟩ (.slice B m dd))
      generalize wn.setCell ⟨gf + 1, 0, none⟩ (.slice B m dd) = Y at hf hr hst ⊢
      clear fc fz fx ff q0 q1 q2 q3 q4 q5 q6 q7
      have fz := fs_cell hf
      refine bodyPost_ret (v := .tuple #[fv B m dd, .int .i64 9]) (by simp [results, Try.results14, go_sem, *]) rfl ⟨B, dd, rfl, hr, hst⟩
    rw [if_neg hk] at hx
    replace hk : n.kind = 48 := Decidable.not_not.1 hk
    have g48' : ((n.kind.toNat : Int) != 48) = false := by rw [bne, show ((n.kind.toNat : Int) == 48) = decide (n.kind = 48) from g48, decide_eq_true hk]; rfl
    have hdl : n.data.length ≤ 4000 := file_data hM Hn.out hk
    clear hM g48
    by_cases h4 : 4000 < n.data.length + d.length
    · rw [if_pos h4] at hx
      obtain ⟨rfl, rfl⟩ := Prod.mk.inj hx
      have g4 : decide ((4000 : Int) < (n.data.length : Int) + (d.length : Int)) = true := decide_eq_true (by omega)
      clear hx h4
      go_enter Try.func14, Try.ntmps14
      go_upto_region 1 with fail
      change Code.wp _ _ _ _ ((w.alloc (.cells (fcs A m k) 24)).alloc (.cells (fcs none 0 0) 24))
      have hgz : w.heap.size ≤ w.heap.size + 1 := by omega
      have hlo : w.heap.size ≤ w.heap.size := Nat.le_refl _
      obtain ⟨gf, hgf⟩ : ∃ g, w.heap.size = g := ⟨_, rfl⟩
      rw [hgf] at HF HZ ⊢
      rw [show w.heap.size + 1 = gf + 1 by rw [hgf]] at hgz
      clear hgf
      generalize ((w.alloc (.cells (fcs A m k) 24)).alloc (.cells (fcs none 0 0) 24)) = W0 at h0 HF HZ ⊢
      replace Ha := Lib.hid (Ha.out.keep h0.out)
      have hsz := h0.out.size
      have fc := fs_cell HF.out
      go_upto_region 2 with (go_at_call 31; (with_reducible refine (own_s ns m Hm.out hl A k _ Ha.out).mono ?_); rintro e w1 ⟨B, dd, rfl, hv, hs⟩; have HV := Lib.hid (row_less hv hsz); replace h0 := Lib.hid (Stp.trans h0.out hs); replace HF := Lib.hid (HF.out.keep hs HF.out.lt); replace HZ := Lib.hid (HZ.out.keep hs HZ.out.lt); replace Ha := Lib.hid (Ha.out.keep hs); clear hs hv)
      have HN := Lib.hid (Blk.new w1 24 (fcs B m dd))
      have hs1 : Stp w1 (w1.alloc (.cells (fcs B m dd) 24)) := Stp.alloc (Stp.refl w1) _
      change Code.wp _ _ _ _ (w1.alloc (.cells (fcs B m dd) 24))
      obtain ⟨gn, hgn1⟩ : ∃ g, w1.heap.size = g := ⟨_, rfl⟩
      rw [hgn1] at HN ⊢
      clear hgn1
      generalize w1.alloc (.cells (fcs B m dd) 24) = W1 at HN hs1 ⊢
      replace h0 := Lib.hid (Stp.trans h0.out hs1)
      replace HF := Lib.hid (HF.out.keep hs1 HF.out.lt)
      replace HZ := Lib.hid (HZ.out.keep hs1 HZ.out.lt)
      replace Ha := Lib.hid (Ha.out.keep hs1)
      replace HV := Lib.hid (row_keep HV.out hs1)
      clear hs1 fc hsz
      have fc := fs_cell HF.out
      have fz := fs_cell HZ.out
      have fx := fs_cell HN.out
      go_upto_region 5 with (first | (go_at_call 22; (with_reducible refine (may_s ns m Hm.out hl Hs.out _ HM.out A k _ Ha.out).mono ?_); rintro e wn ⟨rfl, hs⟩; replace h0 := Lib.hid (Stp.trans h0.out hs); replace HF := Lib.hid (HF.out.keep hs HF.out.lt); replace HZ := Lib.hid (HZ.out.keep hs HZ.out.lt); replace HN := Lib.hid (HN.out.keep hs HN.out.lt); replace Ha := Lib.hid (Ha.out.keep hs); replace HV := Lib.hid (row_keep HV.out hs); clear fc; have fc := fs_cell HF.out; clear fz; have fz := fs_cell HZ.out; clear fx; have fx := fs_cell HN.out; clear hs) | (go_at_call 32; (with_reducible refine (find_s ns m Hm.out hl Hri.out p _ Hi.out _ HI.out A k _ Ha.out).mono ?_); rintro e wn ⟨rfl, hs⟩; replace h0 := Lib.hid (Stp.trans h0.out hs); replace HF := Lib.hid (HF.out.keep hs HF.out.lt); replace HZ := Lib.hid (HZ.out.keep hs HZ.out.lt); replace HN := Lib.hid (HN.out.keep hs HN.out.lt); replace Ha := Lib.hid (Ha.out.keep hs); replace HV := Lib.hid (row_keep HV.out hs); clear fc; have fc := fs_cell HF.out; clear fz; have fz := fs_cell HZ.out; clear fx; have fx := fs_cell HN.out; clear hs))
      obtain ⟨b, o, rfl, -, q0, q1, q2, q3, q4, q5, q6, q7⟩ := Ha.out.cells Hn.out
      go_upto_region 8 with fail
      have ff := HZ.out.free 0
      go_wp2_with fail
      have hf : Blk (wn.setCell ⟨gf + 1, 0, none⟩ (.slice B m dd)) (gf + 1) 24 (fcs B m dd) := HZ.out.put 0 (.slice B m dd)
      have hr := row_less (row_far HV.out HZ.out fn_ne 0 (.slice B m dd)) hlo
      have hst : Stp w (wn.setCell ⟨gf + 1, 0, none⟩ (.slice B m dd)) := Below.setCell h0.out (p := ⟨gf + 1, 0, none⟩) hgz (.slice B m dd)
      change bodyPost _ _ _ _ _ (wn.setCell ⟨gf + 1, 0, none⟩ (.slice B m dd))
      generalize wn.setCell ⟨gf + 1, 0, none⟩ (.slice B m dd) = Y at hf hr hst ⊢
      clear fc fz fx ff q0 q1 q2 q3 q4 q5 q6 q7
      have fz := fs_cell hf
      refine bodyPost_ret (v := .tuple #[fv B m dd, .int .i64 8]) (by simp [results, Try.results14, go_sem, *]) rfl ⟨B, dd, rfl, hr, hst⟩
    · rw [if_neg h4] at hx
      obtain ⟨rfl, rfl⟩ := Prod.mk.inj hx
      have g4 : decide ((4000 : Int) < (n.data.length : Int) + (d.length : Int)) = false := decide_eq_false (by omega)
      have hlen : n.data.length + d.length ≤ 4000 := by omega
      clear hx h4
      go_enter Try.func14, Try.ntmps14
      go_upto_region 1 with fail
      change Code.wp _ _ _ _ ((w.alloc (.cells (fcs A m k) 24)).alloc (.cells (fcs none 0 0) 24))
      have hgz : w.heap.size ≤ w.heap.size + 1 := by omega
      have hlo : w.heap.size ≤ w.heap.size := Nat.le_refl _
      obtain ⟨gf, hgf⟩ : ∃ g, w.heap.size = g := ⟨_, rfl⟩
      rw [hgf] at HF HZ ⊢
      rw [show w.heap.size + 1 = gf + 1 by rw [hgf]] at hgz
      clear hgf
      generalize ((w.alloc (.cells (fcs A m k) 24)).alloc (.cells (fcs none 0 0) 24)) = W0 at h0 HF HZ ⊢
      replace Ha := Lib.hid (Ha.out.keep h0.out)
      have hsz := h0.out.size
      have fc := fs_cell HF.out
      go_upto_region 2 with (go_at_call 31; (with_reducible refine (own_s ns m Hm.out hl A k _ Ha.out).mono ?_); rintro e w1 ⟨B, dd, rfl, hv, hs⟩; have HV := Lib.hid (row_less hv hsz); replace h0 := Lib.hid (Stp.trans h0.out hs); replace HF := Lib.hid (HF.out.keep hs HF.out.lt); replace HZ := Lib.hid (HZ.out.keep hs HZ.out.lt); replace Ha := Lib.hid (Ha.out.keep hs); clear hs hv)
      have HN := Lib.hid (Blk.new w1 24 (fcs B m dd))
      have hs1 : Stp w1 (w1.alloc (.cells (fcs B m dd) 24)) := Stp.alloc (Stp.refl w1) _
      change Code.wp _ _ _ _ (w1.alloc (.cells (fcs B m dd) 24))
      obtain ⟨gn, hgn1⟩ : ∃ g, w1.heap.size = g := ⟨_, rfl⟩
      rw [hgn1] at HN ⊢
      clear hgn1
      generalize w1.alloc (.cells (fcs B m dd) 24) = W1 at HN hs1 ⊢
      replace h0 := Lib.hid (Stp.trans h0.out hs1)
      replace HF := Lib.hid (HF.out.keep hs1 HF.out.lt)
      replace HZ := Lib.hid (HZ.out.keep hs1 HZ.out.lt)
      replace Ha := Lib.hid (Ha.out.keep hs1)
      replace HV := Lib.hid (row_keep HV.out hs1)
      clear hs1 fc hsz
      have fc := fs_cell HF.out
      have fz := fs_cell HZ.out
      have fx := fs_cell HN.out
      go_upto_region 5 with (first | (go_at_call 22; (with_reducible refine (may_s ns m Hm.out hl Hs.out _ HM.out A k _ Ha.out).mono ?_); rintro e wn ⟨rfl, hs⟩; replace h0 := Lib.hid (Stp.trans h0.out hs); replace HF := Lib.hid (HF.out.keep hs HF.out.lt); replace HZ := Lib.hid (HZ.out.keep hs HZ.out.lt); replace HN := Lib.hid (HN.out.keep hs HN.out.lt); replace Ha := Lib.hid (Ha.out.keep hs); replace HV := Lib.hid (row_keep HV.out hs); clear fc; have fc := fs_cell HF.out; clear fz; have fz := fs_cell HZ.out; clear fx; have fx := fs_cell HN.out; clear hs) | (go_at_call 32; (with_reducible refine (find_s ns m Hm.out hl Hri.out p _ Hi.out _ HI.out A k _ Ha.out).mono ?_); rintro e wn ⟨rfl, hs⟩; replace h0 := Lib.hid (Stp.trans h0.out hs); replace HF := Lib.hid (HF.out.keep hs HF.out.lt); replace HZ := Lib.hid (HZ.out.keep hs HZ.out.lt); replace HN := Lib.hid (HN.out.keep hs HN.out.lt); replace Ha := Lib.hid (Ha.out.keep hs); replace HV := Lib.hid (row_keep HV.out hs); clear fc; have fc := fs_cell HF.out; clear fz; have fz := fs_cell HZ.out; clear fx; have fx := fs_cell HN.out; clear hs))
      obtain ⟨b, o, rfl, -, q0, q1, q2, q3, q4, q5, q6, q7⟩ := Ha.out.cells Hn.out
      go_upto_region 9 with fail
      clear q0 q1 q2 q3 q4 q5 q6 q7
      obtain ⟨g, c5, e5⟩ := cslice HV.out (by omega)
      cases e5
      obtain ⟨cur, hbk, -, -, -, hcur, -, hlog⟩ := crow_blk HV.out
      have d1 : wn.cell? ⟨g, j * 8 + 7, none⟩ = some (.string ⟨n.data.toArray⟩) := by
        rw [hbk.cell]
        have e : (ntc ns)[j * 8 + 7]? = some (.string ⟨n.data.toArray⟩) := ntc_at (j := j) (i := 7) (n := n) Hn.out (by omega)
        rw [← hcur, List.getElem?_take] at e
        split at e
        · simpa using e
        · cases e
      have d2 := hbk.free (j * 8 + 7)
      have hadd := add_ll n.data d (by omega)
      have hgZ : gf + 1 ≠ g := fun e => row_ne HV.out HZ.out fn_ne (by rw [e]; rfl)
      have hgN : gn ≠ g := fun e => row_ne HV.out HN.out fn_ne (by rw [e]; rfl)
      have HV5 := Lib.hid (show (wn.setCell ⟨g, j * 8 + 7, none⟩ (.string ⟨(n.data ++ d).toArray⟩)).ownsRow w.heap.size 26 8 (.slice (some ⟨g, 0, none⟩) m dd) m (ntc (ns.set j (moreN n d))) by
        rw [← data_set d Hn.out]
        exact crow_put HV.out _ _)
      have HZ5 := Lib.hid (HZ.out.far (p := ⟨g, j * 8 + 7, none⟩) hgZ (.string ⟨(n.data ++ d).toArray⟩))
      have HN5 := Lib.hid (HN.out.far (p := ⟨g, j * 8 + 7, none⟩) hgN (.string ⟨(n.data ++ d).toArray⟩))
      have HS5 := Lib.hid (show Stp w (wn.setCell ⟨g, j * 8 + 7, none⟩ (.string ⟨(n.data ++ d).toArray⟩)) from Below.setCell h0.out (p := ⟨g, j * 8 + 7, none⟩) hlog _)
      clear hbk hcur hlog
      go_upto_region 10 with fail
      change Code.wp _ _ _ _ (wn.setCell ⟨g, j * 8 + 7, none⟩ (.string ⟨(n.data ++ d).toArray⟩))
      generalize wn.setCell ⟨g, j * 8 + 7, none⟩ (.string ⟨(n.data ++ d).toArray⟩) = w6 at HV5 HZ5 HN5 HS5 ⊢
      clear HV HZ HN h0 fc fz fx d1 d2 hadd
      have HV := HV5
      have HZ := HZ5
      have HN := HN5
      have h0 := HS5
      have fz := fs_cell HZ.out
      have fx := fs_cell HN.out
      have fc := fz
      have ff := HZ.out.free 0
      go_wp2_with fail
      have hf : Blk (w6.setCell ⟨gf + 1, 0, none⟩ (.slice (some ⟨g, 0, none⟩) m dd)) (gf + 1) 24 (fcs (some ⟨g, 0, none⟩) m dd) := HZ.out.put 0 (.slice (some ⟨g, 0, none⟩) m dd)
      have hr := row_less (row_far HV.out HZ.out fn_ne 0 (.slice (some ⟨g, 0, none⟩) m dd)) hlo
      have hst : Stp w (w6.setCell ⟨gf + 1, 0, none⟩ (.slice (some ⟨g, 0, none⟩) m dd)) := Below.setCell h0.out (p := ⟨gf + 1, 0, none⟩) hgz (.slice (some ⟨g, 0, none⟩) m dd)
      change bodyPost _ _ _ _ _ (w6.setCell ⟨gf + 1, 0, none⟩ (.slice (some ⟨g, 0, none⟩) m dd))
      generalize w6.setCell ⟨gf + 1, 0, none⟩ (.slice (some ⟨g, 0, none⟩) m dd) = Y at hf hr hst ⊢
      clear fc fz fx ff
      have fz := fs_cell hf
      refine bodyPost_ret (v := .tuple #[fv (some ⟨g, 0, none⟩) m dd, .int .i64 0]) (by simp [results, Try.results14, go_sem, *]) rfl ⟨(some ⟨g, 0, none⟩), dd, rfl, hr, hst⟩
set_option maxRecDepth 100000 in
set_option maxHeartbeats 4000000 in
theorem get_s (ns : List Nd) (m : Nat) (hm : ns.length = m) (hl : m ≤ 1000) (hs : ∀ n ∈ ns, SmallN n) (p : List UInt8) (x : Nd) (e0 : Int) (hx : getF ns p = (x, e0)) (A : Option Addr) (k : Nat) (w : World) (ha : RdN w A k ns) :
    Calls Try.prog 16 #[fv A m k, .string ⟨p.toArray⟩] w fun e w' => e = .returned (.tuple #[nv x, .int .i64 e0]) ∧ Stp w w' := by
  have Ha := Lib.hid ha
  have Hm := Lib.hid hm
  have Hs := Lib.hid hs
  clear ha hm hs
  have h0 := Lib.hid (Stp.alloc (Stp.alloc (Stp.refl w) (.cells (fcs A m k) 24)) (.cells (ncells zeroN) 26))
  have HF := Lib.hid ((Blk.new w 24 (fcs A m k)).alloc (.cells (ncells zeroN) 26))
  have HZ := Lib.hid (by have h := Blk.new (w.alloc (.cells (fcs A m k) 24)) 26 (ncells zeroN); simp only [World.size_alloc] at h; exact h)
  cases hM : mayF ns with
  | false =>
    rw [getF, if_pos hM] at hx
    obtain ⟨rfl, rfl⟩ := Prod.mk.inj hx
    have HM := Lib.hid hM
    clear hM hx
    go_enter Try.func16, Try.ntmps16
    go_upto_region 1 with fail
    change Code.wp _ _ _ _ ((w.alloc (.cells (fcs A m k) 24)).alloc (.cells (ncells zeroN) 26))
    have hgz : w.heap.size ≤ w.heap.size + 1 := by omega
    obtain ⟨gf, hgf⟩ : ∃ g, w.heap.size = g := ⟨_, rfl⟩
    rw [hgf] at HF HZ ⊢
    rw [show w.heap.size + 1 = gf + 1 by rw [hgf]] at hgz
    clear hgf
    generalize ((w.alloc (.cells (fcs A m k) 24)).alloc (.cells (ncells zeroN) 26)) = W0 at h0 HF HZ ⊢
    replace Ha := Lib.hid (Ha.out.keep h0.out)
    have fc := fs_cell HF.out
    go_upto_region 2 with (go_at_call 22; (with_reducible refine (may_s ns m Hm.out hl Hs.out _ HM.out A k _ Ha.out).mono ?_); rintro e wn ⟨rfl, hs⟩; replace h0 := Lib.hid (Stp.trans h0.out hs); replace HF := Lib.hid (HF.out.keep hs HF.out.lt); replace HZ := Lib.hid (HZ.out.keep hs HZ.out.lt); replace Ha := Lib.hid (Ha.out.keep hs); clear hs fc; have fc := fs_cell HF.out)
    obtain ⟨⟨z0, z1, z2, z3, z4, z5, z6, z7⟩, y0, y1, y2, y3, y4, y5, y6, y7⟩ := nzy HZ.out
    go_wp2_with fail
    have hf := filln_blk zeroN HZ.out
    have hst := filln_stp zeroN h0.out hgz
    change bodyPost _ _ _ _ _ (fillN wn (gf + 1) zeroN)
    generalize fillN wn (gf + 1) zeroN = Y at hf hst ⊢
    clear z0 z1 z2 z3 z4 z5 z6 z7 y0 y1 y2 y3 y4 y5 y6 y7
    obtain ⟨z0, z1, z2, z3, z4, z5, z6, z7⟩ := nd_cells hf
    refine bodyPost_ret (v := .tuple #[nv zeroN, .int .i64 1]) (by simp [results, Try.results16, go_sem, *]) rfl ⟨rfl, hst⟩
  | true =>
  rw [getF, if_neg (by rw [hM]; decide)] at hx
  have HM := Lib.hid hM
  have Hri := Lib.hid (mayF_iff.1 hM).2.1
  obtain ⟨i, hi⟩ := cut_ex p Hri.out
  have Hi := Lib.hid hi
  clear hM
  cases hf : findN p ns with
  | none =>
    rw [hf] at hx
    obtain ⟨rfl, rfl⟩ := Prod.mk.inj hx
    have HI := Lib.hid (show (findN p ns).isSome = false by rw [hf]; rfl)
    clear hf hx hi
    go_enter Try.func16, Try.ntmps16
    go_upto_region 1 with fail
    change Code.wp _ _ _ _ ((w.alloc (.cells (fcs A m k) 24)).alloc (.cells (ncells zeroN) 26))
    have hgz : w.heap.size ≤ w.heap.size + 1 := by omega
    obtain ⟨gf, hgf⟩ : ∃ g, w.heap.size = g := ⟨_, rfl⟩
    rw [hgf] at HF HZ ⊢
    rw [show w.heap.size + 1 = gf + 1 by rw [hgf]] at hgz
    clear hgf
    generalize ((w.alloc (.cells (fcs A m k) 24)).alloc (.cells (ncells zeroN) 26)) = W0 at h0 HF HZ ⊢
    replace Ha := Lib.hid (Ha.out.keep h0.out)
    have fc := fs_cell HF.out
    go_upto_region 5 with (first | (go_at_call 22; (with_reducible refine (may_s ns m Hm.out hl Hs.out _ HM.out A k _ Ha.out).mono ?_); rintro e wn ⟨rfl, hs⟩; replace h0 := Lib.hid (Stp.trans h0.out hs); replace HF := Lib.hid (HF.out.keep hs HF.out.lt); replace HZ := Lib.hid (HZ.out.keep hs HZ.out.lt); replace Ha := Lib.hid (Ha.out.keep hs); clear hs fc; have fc := fs_cell HF.out) | (go_at_call 32; (with_reducible refine (find_s ns m Hm.out hl Hri.out p _ Hi.out _ HI.out A k _ Ha.out).mono ?_); rintro e wn ⟨rfl, hs⟩; replace h0 := Lib.hid (Stp.trans h0.out hs); replace HF := Lib.hid (HF.out.keep hs HF.out.lt); replace HZ := Lib.hid (HZ.out.keep hs HZ.out.lt); replace Ha := Lib.hid (Ha.out.keep hs); clear hs fc; have fc := fs_cell HF.out))
    obtain ⟨⟨z0, z1, z2, z3, z4, z5, z6, z7⟩, y0, y1, y2, y3, y4, y5, y6, y7⟩ := nzy HZ.out
    go_wp2_with fail
    have hf := filln_blk zeroN HZ.out
    have hst := filln_stp zeroN h0.out hgz
    change bodyPost _ _ _ _ _ (fillN wn (gf + 1) zeroN)
    generalize fillN wn (gf + 1) zeroN = Y at hf hst ⊢
    clear z0 z1 z2 z3 z4 z5 z6 z7 y0 y1 y2 y3 y4 y5 y6 y7
    obtain ⟨z0, z1, z2, z3, z4, z5, z6, z7⟩ := nd_cells hf
    refine bodyPost_ret (v := .tuple #[nv zeroN, .int .i64 9]) (by simp [results, Try.results16, go_sem, *]) rfl ⟨rfl, hst⟩
  | some j =>
    obtain rfl := cut_find Hri.out hi hf
    obtain ⟨n, hn, -⟩ := findN_lt hf
    have HI := Lib.hid (show (findN p ns).isSome = true by rw [hf]; rfl)
    have hgd : ns.getD j zeroN = n := by simp [hn]
    rw [hf] at hx
    dsimp only at hx
    rw [hgd] at hx
    obtain ⟨rfl, rfl⟩ := Prod.mk.inj hx
    have hjm : j < m := by rw [← Hm.out]; exact (List.getElem?_eq_some_iff.1 hn).1
    have Hn := Lib.hid hn
    clear hf hx hi hgd hn
    go_enter Try.func16, Try.ntmps16
    go_upto_region 1 with fail
    change Code.wp _ _ _ _ ((w.alloc (.cells (fcs A m k) 24)).alloc (.cells (ncells zeroN) 26))
    have hgz : w.heap.size ≤ w.heap.size + 1 := by omega
    obtain ⟨gf, hgf⟩ : ∃ g, w.heap.size = g := ⟨_, rfl⟩
    rw [hgf] at HF HZ ⊢
    rw [show w.heap.size + 1 = gf + 1 by rw [hgf]] at hgz
    clear hgf
    generalize ((w.alloc (.cells (fcs A m k) 24)).alloc (.cells (ncells zeroN) 26)) = W0 at h0 HF HZ ⊢
    replace Ha := Lib.hid (Ha.out.keep h0.out)
    have fc := fs_cell HF.out
    go_upto_region 6 with (first | (go_at_call 22; (with_reducible refine (may_s ns m Hm.out hl Hs.out _ HM.out A k _ Ha.out).mono ?_); rintro e wn ⟨rfl, hs⟩; replace h0 := Lib.hid (Stp.trans h0.out hs); replace HF := Lib.hid (HF.out.keep hs HF.out.lt); replace HZ := Lib.hid (HZ.out.keep hs HZ.out.lt); replace Ha := Lib.hid (Ha.out.keep hs); clear hs fc; have fc := fs_cell HF.out) | (go_at_call 32; (with_reducible refine (find_s ns m Hm.out hl Hri.out p _ Hi.out _ HI.out A k _ Ha.out).mono ?_); rintro e wn ⟨rfl, hs⟩; replace h0 := Lib.hid (Stp.trans h0.out hs); replace HF := Lib.hid (HF.out.keep hs HF.out.lt); replace HZ := Lib.hid (HZ.out.keep hs HZ.out.lt); replace Ha := Lib.hid (Ha.out.keep hs); clear hs fc; have fc := fs_cell HF.out))
    obtain ⟨b, o, rfl, -, q0, q1, q2, q3, q4, q5, q6, q7⟩ := Ha.out.cells Hn.out
    obtain ⟨⟨z0, z1, z2, z3, z4, z5, z6, z7⟩, y0, y1, y2, y3, y4, y5, y6, y7⟩ := nzy HZ.out
    go_wp2_with fail
    have hf := filln_blk n HZ.out
    have hst := filln_stp n h0.out hgz
    change bodyPost _ _ _ _ _ (fillN wn (gf + 1) n)
    generalize fillN wn (gf + 1) n = Y at hf hst ⊢
    clear z0 z1 z2 z3 z4 z5 z6 z7 y0 y1 y2 y3 y4 y5 y6 y7
    obtain ⟨z0, z1, z2, z3, z4, z5, z6, z7⟩ := nd_cells hf
    refine bodyPost_ret (v := .tuple #[nv n, .int .i64 0]) (by simp [results, Try.results16, go_sem, *]) rfl ⟨rfl, hst⟩
/-- A file's text, by the nodes that Get answers. -/
def textG (ns : List Nd) (x : Nd) (e : Int) : List UInt8 × Int :=
  if x.kind = 49 then (if (getF ns x.link).2 ≠ 0 then ([], (getF ns x.link).2) else if (getF ns x.link).1.kind = 48 then ((getF ns x.link).1.data, 0) else ([], 9))
  else if e ≠ 0 then ([], e) else if x.kind = 48 then (x.data, 0) else ([], 9)
theorem text_get (ns : List Nd) (p : List UInt8) : textF ns p = textG ns (getF ns p).1 (getF ns p).2 := by
  unfold textF textG
  cases hM : mayF ns with
  | false =>
    rw [if_pos rfl, getF, if_pos hM]
    rfl
  | true =>
    rw [if_neg (by decide)]
    unfold fileF
    simp only [getF, if_neg (show ¬ (mayF ns = false) by rw [hM]; decide)]
    cases hf : findN p ns with
    | none => rfl
    | some i =>
      dsimp only
      by_cases hk : (ns.getD i zeroN).kind = 49
      · rw [if_pos hk, if_pos hk]
        cases hf2 : findN (ns.getD i zeroN).link ns with
        | none => rfl
        | some j => rfl
      · rw [if_neg hk, if_neg hk]
        rfl
theorem get_small {ns : List Nd} {p : List UInt8} {x : Nd} {e : Int} (hx : getF ns p = (x, e)) (hs : ∀ n ∈ ns, SmallN n) : SmallN x := by
  have hz : SmallN zeroN := by constructor <;> decide
  unfold getF at hx
  split at hx
  · cases hx; exact hz
  · split at hx
    · rename_i i hf
      cases hx
      obtain ⟨n, hn, -⟩ := findN_lt hf
      have hgd : ns.getD i zeroN = n := by simp [hn]
      rw [hgd]
      exact hs n (List.mem_of_getElem? hn)
    · cases hx; exact hz
set_option maxRecDepth 100000 in
set_option maxHeartbeats 4000000 in
theorem text_s (ns : List Nd) (m : Nat) (hm : ns.length = m) (hl : m ≤ 1000) (hs : ∀ n ∈ ns, SmallN n) (p : List UInt8) (s : List UInt8) (e0 : Int) (hx : textF ns p = (s, e0)) (A : Option Addr) (k : Nat) (w : World) (ha : RdN w A k ns) :
    Calls Try.prog 18 #[fv A m k, .string ⟨p.toArray⟩] w fun e w' => e = .returned (.tuple #[.string ⟨s.toArray⟩, .int .i64 e0]) ∧ Stp w w' := by
  rw [text_get] at hx
  obtain ⟨x, e1, hg⟩ : ∃ x e1, getF ns p = (x, e1) := ⟨_, _, rfl⟩
  rw [hg] at hx
  dsimp only at hx
  obtain ⟨y, e2, hg2⟩ : ∃ y e2, getF ns x.link = (y, e2) := ⟨_, _, rfl⟩
  rw [textG, hg2] at hx
  dsimp only at hx
  have Ha := Lib.hid ha
  have Hm := Lib.hid hm
  have Hs := Lib.hid hs
  have HG := Lib.hid hg
  have HG2 := Lib.hid hg2
  have h0 := Lib.hid (Stp.alloc (Stp.refl w) (.cells (fcs A m k) 24))
  have HF := Lib.hid (Blk.new w 24 (fcs A m k))
  have k49 := ckind_beq x 49
  have k48 := ckind_beq x 48
  have k48y := ckind_beq y 48
  rw [show ((49 : UInt8).toNat : Int) = 49 from rfl] at k49
  rw [show ((48 : UInt8).toNat : Int) = 48 from rfl] at k48 k48y
  have n48 : ((x.kind.toNat : Int) != 48) = !decide (x.kind = 48) := by rw [bne, k48]
  have n48y : ((y.kind.toNat : Int) != 48) = !decide (y.kind = 48) := by rw [bne, k48y]
  obtain ⟨d49, h49⟩ : ∃ b, decide (x.kind = 49) = b := ⟨_, rfl⟩
  obtain ⟨d48, h48⟩ : ∃ b, decide (x.kind = 48) = b := ⟨_, rfl⟩
  obtain ⟨d48y, h48y⟩ : ∃ b, decide (y.kind = 48) = b := ⟨_, rfl⟩
  rw [h49] at k49
  rw [h48] at n48
  rw [h48y] at n48y
  clear ha hm hs hg hg2 k48 k48y
  have key : (d49 = true ∧ ((e2 ≠ 0 ∧ s = [] ∧ e0 = e2) ∨ (e2 = 0 ∧ d48y = true ∧ s = y.data ∧ e0 = 0) ∨ (e2 = 0 ∧ d48y = false ∧ s = [] ∧ e0 = 9))) ∨ (d49 = false ∧ ((e1 ≠ 0 ∧ s = [] ∧ e0 = e1) ∨ (e1 = 0 ∧ d48 = true ∧ s = x.data ∧ e0 = 0) ∨ (e1 = 0 ∧ d48 = false ∧ s = [] ∧ e0 = 9))) := by
    split at hx
    · rename_i h
      refine .inl ⟨by rw [← h49]; exact decide_eq_true h, ?_⟩
      split at hx
      · rename_i h2; cases hx; exact .inl ⟨h2, rfl, rfl⟩
      · rename_i h2
        split at hx
        · rename_i h3; cases hx; exact .inr (.inl ⟨Decidable.not_not.1 h2, by rw [← h48y]; exact decide_eq_true h3, rfl, rfl⟩)
        · rename_i h3; cases hx; exact .inr (.inr ⟨Decidable.not_not.1 h2, by rw [← h48y]; exact decide_eq_false h3, rfl, rfl⟩)
    · rename_i h
      refine .inr ⟨by rw [← h49]; exact decide_eq_false h, ?_⟩
      split at hx
      · rename_i h2; cases hx; exact .inl ⟨h2, rfl, rfl⟩
      · rename_i h2
        split at hx
        · rename_i h3; cases hx; exact .inr (.inl ⟨Decidable.not_not.1 h2, by rw [← h48]; exact decide_eq_true h3, rfl, rfl⟩)
        · rename_i h3; cases hx; exact .inr (.inr ⟨Decidable.not_not.1 h2, by rw [← h48]; exact decide_eq_false h3, rfl, rfl⟩)
  clear hx h49 h48 h48y
  rcases key with ⟨rfl, ⟨he, rfl, rfl⟩ | ⟨rfl, rfl, rfl, rfl⟩ | ⟨rfl, rfl, rfl, rfl⟩⟩ | ⟨rfl, ⟨he, rfl, rfl⟩ | ⟨rfl, rfl, rfl, rfl⟩ | ⟨rfl, rfl, rfl, rfl⟩⟩
  · have ge : (e0 != 0) = true := by rw [bne_iff_ne]; exact he
    clear he
    go_enter Try.func18, Try.ntmps18
    go_upto_region 1 with fail
    change Code.wp _ _ _ _ (w.alloc (.cells (fcs A m k) 24))
    obtain ⟨gf, hgf⟩ : ∃ g, w.heap.size = g := ⟨_, rfl⟩
    rw [hgf] at HF ⊢
    clear hgf
    generalize w.alloc (.cells (fcs A m k) 24) = W0 at h0 HF ⊢
    replace Ha := Lib.hid (Ha.out.keep h0.out)
    have fc := fs_cell HF.out
    go_upto_region 2 with (go_at_call 16; (with_reducible refine (get_s ns m Hm.out hl Hs.out p x _ HG.out A k _ Ha.out).mono ?_); rintro e wn ⟨rfl, hs⟩; replace h0 := Lib.hid (Stp.trans h0.out hs); replace HF := Lib.hid (HF.out.keep hs HF.out.lt); replace Ha := Lib.hid (Ha.out.keep hs); clear hs fc)
    have hs1 : Stp wn (wn.alloc (.cells (ncells x) 26)) := Stp.alloc (Stp.refl wn) _
    have HX := Lib.hid (Blk.new wn 26 (ncells x))
    have hgx : w.heap.size ≤ wn.heap.size := h0.out.size
    change Code.wp _ _ _ _ (wn.alloc (.cells (ncells x) 26))
    obtain ⟨gx, hgx1⟩ : ∃ g, wn.heap.size = g := ⟨_, rfl⟩
    rw [hgx1] at HX hgx ⊢
    clear hgx1
    generalize wn.alloc (.cells (ncells x) 26) = W1 at HX hs1 ⊢
    replace h0 := Lib.hid (Stp.trans h0.out hs1)
    replace HF := Lib.hid (HF.out.keep hs1 HF.out.lt)
    replace Ha := Lib.hid (Ha.out.keep hs1)
    clear hs1
    have fc := fs_cell HF.out
    obtain ⟨⟨z0, z1, z2, z3, z4, z5, z6, z7⟩, y0, y1, y2, y3, y4, y5, y6, y7⟩ := nzy HX.out
    go_upto_region 4 with (go_at_call 16; (with_reducible refine (get_s ns m Hm.out hl Hs.out x.link y _ HG2.out A k _ Ha.out).mono ?_); rintro e w2 ⟨rfl, hs⟩; replace h0 := Lib.hid (Stp.trans h0.out hs); replace HX := Lib.hid (HX.out.keep hs HX.out.lt); clear hs fc z0 z1 z2 z3 z4 z5 z6 z7 y0 y1 y2 y3 y4 y5 y6 y7; obtain ⟨⟨z0, z1, z2, z3, z4, z5, z6, z7⟩, y0, y1, y2, y3, y4, y5, y6, y7⟩ := nzy HX.out)
    have hf := filln_blk y HX.out
    have hst := filln_stp y h0.out hgx
    change Code.wp _ _ _ _ (fillN w2 gx y)
    generalize fillN w2 gx y = Y at hf hst ⊢
    clear z0 z1 z2 z3 z4 z5 z6 z7 y0 y1 y2 y3 y4 y5 y6 y7 h0
    obtain ⟨z0, z1, z2, z3, z4, z5, z6, z7⟩ := nd_cells hf
    have h0 := Lib.hid hst
    go_wp2_with fail
    go_ret2
    exact ⟨rfl, h0.out⟩
  · skip
    go_enter Try.func18, Try.ntmps18
    go_upto_region 1 with fail
    change Code.wp _ _ _ _ (w.alloc (.cells (fcs A m k) 24))
    obtain ⟨gf, hgf⟩ : ∃ g, w.heap.size = g := ⟨_, rfl⟩
    rw [hgf] at HF ⊢
    clear hgf
    generalize w.alloc (.cells (fcs A m k) 24) = W0 at h0 HF ⊢
    replace Ha := Lib.hid (Ha.out.keep h0.out)
    have fc := fs_cell HF.out
    go_upto_region 2 with (go_at_call 16; (with_reducible refine (get_s ns m Hm.out hl Hs.out p x _ HG.out A k _ Ha.out).mono ?_); rintro e wn ⟨rfl, hs⟩; replace h0 := Lib.hid (Stp.trans h0.out hs); replace HF := Lib.hid (HF.out.keep hs HF.out.lt); replace Ha := Lib.hid (Ha.out.keep hs); clear hs fc)
    have hs1 : Stp wn (wn.alloc (.cells (ncells x) 26)) := Stp.alloc (Stp.refl wn) _
    have HX := Lib.hid (Blk.new wn 26 (ncells x))
    have hgx : w.heap.size ≤ wn.heap.size := h0.out.size
    change Code.wp _ _ _ _ (wn.alloc (.cells (ncells x) 26))
    obtain ⟨gx, hgx1⟩ : ∃ g, wn.heap.size = g := ⟨_, rfl⟩
    rw [hgx1] at HX hgx ⊢
    clear hgx1
    generalize wn.alloc (.cells (ncells x) 26) = W1 at HX hs1 ⊢
    replace h0 := Lib.hid (Stp.trans h0.out hs1)
    replace HF := Lib.hid (HF.out.keep hs1 HF.out.lt)
    replace Ha := Lib.hid (Ha.out.keep hs1)
    clear hs1
    have fc := fs_cell HF.out
    obtain ⟨⟨z0, z1, z2, z3, z4, z5, z6, z7⟩, y0, y1, y2, y3, y4, y5, y6, y7⟩ := nzy HX.out
    go_upto_region 4 with (go_at_call 16; (with_reducible refine (get_s ns m Hm.out hl Hs.out x.link y _ HG2.out A k _ Ha.out).mono ?_); rintro e w2 ⟨rfl, hs⟩; replace h0 := Lib.hid (Stp.trans h0.out hs); replace HX := Lib.hid (HX.out.keep hs HX.out.lt); clear hs fc z0 z1 z2 z3 z4 z5 z6 z7 y0 y1 y2 y3 y4 y5 y6 y7; obtain ⟨⟨z0, z1, z2, z3, z4, z5, z6, z7⟩, y0, y1, y2, y3, y4, y5, y6, y7⟩ := nzy HX.out)
    have hf := filln_blk y HX.out
    have hst := filln_stp y h0.out hgx
    change Code.wp _ _ _ _ (fillN w2 gx y)
    generalize fillN w2 gx y = Y at hf hst ⊢
    clear z0 z1 z2 z3 z4 z5 z6 z7 y0 y1 y2 y3 y4 y5 y6 y7 h0
    obtain ⟨z0, z1, z2, z3, z4, z5, z6, z7⟩ := nd_cells hf
    have h0 := Lib.hid hst
    go_wp2_with fail
    go_ret2
    exact ⟨rfl, h0.out⟩
  · skip
    go_enter Try.func18, Try.ntmps18
    go_upto_region 1 with fail
    change Code.wp _ _ _ _ (w.alloc (.cells (fcs A m k) 24))
    obtain ⟨gf, hgf⟩ : ∃ g, w.heap.size = g := ⟨_, rfl⟩
    rw [hgf] at HF ⊢
    clear hgf
    generalize w.alloc (.cells (fcs A m k) 24) = W0 at h0 HF ⊢
    replace Ha := Lib.hid (Ha.out.keep h0.out)
    have fc := fs_cell HF.out
    go_upto_region 2 with (go_at_call 16; (with_reducible refine (get_s ns m Hm.out hl Hs.out p x _ HG.out A k _ Ha.out).mono ?_); rintro e wn ⟨rfl, hs⟩; replace h0 := Lib.hid (Stp.trans h0.out hs); replace HF := Lib.hid (HF.out.keep hs HF.out.lt); replace Ha := Lib.hid (Ha.out.keep hs); clear hs fc)
    have hs1 : Stp wn (wn.alloc (.cells (ncells x) 26)) := Stp.alloc (Stp.refl wn) _
    have HX := Lib.hid (Blk.new wn 26 (ncells x))
    have hgx : w.heap.size ≤ wn.heap.size := h0.out.size
    change Code.wp _ _ _ _ (wn.alloc (.cells (ncells x) 26))
    obtain ⟨gx, hgx1⟩ : ∃ g, wn.heap.size = g := ⟨_, rfl⟩
    rw [hgx1] at HX hgx ⊢
    clear hgx1
    generalize wn.alloc (.cells (ncells x) 26) = W1 at HX hs1 ⊢
    replace h0 := Lib.hid (Stp.trans h0.out hs1)
    replace HF := Lib.hid (HF.out.keep hs1 HF.out.lt)
    replace Ha := Lib.hid (Ha.out.keep hs1)
    clear hs1
    have fc := fs_cell HF.out
    obtain ⟨⟨z0, z1, z2, z3, z4, z5, z6, z7⟩, y0, y1, y2, y3, y4, y5, y6, y7⟩ := nzy HX.out
    go_upto_region 4 with (go_at_call 16; (with_reducible refine (get_s ns m Hm.out hl Hs.out x.link y _ HG2.out A k _ Ha.out).mono ?_); rintro e w2 ⟨rfl, hs⟩; replace h0 := Lib.hid (Stp.trans h0.out hs); replace HX := Lib.hid (HX.out.keep hs HX.out.lt); clear hs fc z0 z1 z2 z3 z4 z5 z6 z7 y0 y1 y2 y3 y4 y5 y6 y7; obtain ⟨⟨z0, z1, z2, z3, z4, z5, z6, z7⟩, y0, y1, y2, y3, y4, y5, y6, y7⟩ := nzy HX.out)
    have hf := filln_blk y HX.out
    have hst := filln_stp y h0.out hgx
    change Code.wp _ _ _ _ (fillN w2 gx y)
    generalize fillN w2 gx y = Y at hf hst ⊢
    clear z0 z1 z2 z3 z4 z5 z6 z7 y0 y1 y2 y3 y4 y5 y6 y7 h0
    obtain ⟨z0, z1, z2, z3, z4, z5, z6, z7⟩ := nd_cells hf
    have h0 := Lib.hid hst
    go_wp2_with fail
    go_ret2
    exact ⟨rfl, h0.out⟩
  · have ge : (e0 != 0) = true := by rw [bne_iff_ne]; exact he
    clear he
    go_enter Try.func18, Try.ntmps18
    go_upto_region 1 with fail
    change Code.wp _ _ _ _ (w.alloc (.cells (fcs A m k) 24))
    obtain ⟨gf, hgf⟩ : ∃ g, w.heap.size = g := ⟨_, rfl⟩
    rw [hgf] at HF ⊢
    clear hgf
    generalize w.alloc (.cells (fcs A m k) 24) = W0 at h0 HF ⊢
    replace Ha := Lib.hid (Ha.out.keep h0.out)
    have fc := fs_cell HF.out
    go_upto_region 2 with (go_at_call 16; (with_reducible refine (get_s ns m Hm.out hl Hs.out p x _ HG.out A k _ Ha.out).mono ?_); rintro e wn ⟨rfl, hs⟩; replace h0 := Lib.hid (Stp.trans h0.out hs); replace HF := Lib.hid (HF.out.keep hs HF.out.lt); replace Ha := Lib.hid (Ha.out.keep hs); clear hs fc)
    have hs1 : Stp wn (wn.alloc (.cells (ncells x) 26)) := Stp.alloc (Stp.refl wn) _
    have HX := Lib.hid (Blk.new wn 26 (ncells x))
    have hgx : w.heap.size ≤ wn.heap.size := h0.out.size
    change Code.wp _ _ _ _ (wn.alloc (.cells (ncells x) 26))
    obtain ⟨gx, hgx1⟩ : ∃ g, wn.heap.size = g := ⟨_, rfl⟩
    rw [hgx1] at HX hgx ⊢
    clear hgx1
    generalize wn.alloc (.cells (ncells x) 26) = W1 at HX hs1 ⊢
    replace h0 := Lib.hid (Stp.trans h0.out hs1)
    replace HF := Lib.hid (HF.out.keep hs1 HF.out.lt)
    replace Ha := Lib.hid (Ha.out.keep hs1)
    clear hs1
    have fc := fs_cell HF.out
    obtain ⟨⟨z0, z1, z2, z3, z4, z5, z6, z7⟩, y0, y1, y2, y3, y4, y5, y6, y7⟩ := nzy HX.out
    go_wp2_with fail
    go_ret2
    exact ⟨rfl, h0.out⟩
  · skip
    go_enter Try.func18, Try.ntmps18
    go_upto_region 1 with fail
    change Code.wp _ _ _ _ (w.alloc (.cells (fcs A m k) 24))
    obtain ⟨gf, hgf⟩ : ∃ g, w.heap.size = g := ⟨_, rfl⟩
    rw [hgf] at HF ⊢
    clear hgf
    generalize w.alloc (.cells (fcs A m k) 24) = W0 at h0 HF ⊢
    replace Ha := Lib.hid (Ha.out.keep h0.out)
    have fc := fs_cell HF.out
    go_upto_region 2 with (go_at_call 16; (with_reducible refine (get_s ns m Hm.out hl Hs.out p x _ HG.out A k _ Ha.out).mono ?_); rintro e wn ⟨rfl, hs⟩; replace h0 := Lib.hid (Stp.trans h0.out hs); replace HF := Lib.hid (HF.out.keep hs HF.out.lt); replace Ha := Lib.hid (Ha.out.keep hs); clear hs fc)
    have hs1 : Stp wn (wn.alloc (.cells (ncells x) 26)) := Stp.alloc (Stp.refl wn) _
    have HX := Lib.hid (Blk.new wn 26 (ncells x))
    have hgx : w.heap.size ≤ wn.heap.size := h0.out.size
    change Code.wp _ _ _ _ (wn.alloc (.cells (ncells x) 26))
    obtain ⟨gx, hgx1⟩ : ∃ g, wn.heap.size = g := ⟨_, rfl⟩
    rw [hgx1] at HX hgx ⊢
    clear hgx1
    generalize wn.alloc (.cells (ncells x) 26) = W1 at HX hs1 ⊢
    replace h0 := Lib.hid (Stp.trans h0.out hs1)
    replace HF := Lib.hid (HF.out.keep hs1 HF.out.lt)
    replace Ha := Lib.hid (Ha.out.keep hs1)
    clear hs1
    have fc := fs_cell HF.out
    obtain ⟨⟨z0, z1, z2, z3, z4, z5, z6, z7⟩, y0, y1, y2, y3, y4, y5, y6, y7⟩ := nzy HX.out
    go_wp2_with fail
    go_ret2
    exact ⟨rfl, h0.out⟩
  · skip
    go_enter Try.func18, Try.ntmps18
    go_upto_region 1 with fail
    change Code.wp _ _ _ _ (w.alloc (.cells (fcs A m k) 24))
    obtain ⟨gf, hgf⟩ : ∃ g, w.heap.size = g := ⟨_, rfl⟩
    rw [hgf] at HF ⊢
    clear hgf
    generalize w.alloc (.cells (fcs A m k) 24) = W0 at h0 HF ⊢
    replace Ha := Lib.hid (Ha.out.keep h0.out)
    have fc := fs_cell HF.out
    go_upto_region 2 with (go_at_call 16; (with_reducible refine (get_s ns m Hm.out hl Hs.out p x _ HG.out A k _ Ha.out).mono ?_); rintro e wn ⟨rfl, hs⟩; replace h0 := Lib.hid (Stp.trans h0.out hs); replace HF := Lib.hid (HF.out.keep hs HF.out.lt); replace Ha := Lib.hid (Ha.out.keep hs); clear hs fc)
    have hs1 : Stp wn (wn.alloc (.cells (ncells x) 26)) := Stp.alloc (Stp.refl wn) _
    have HX := Lib.hid (Blk.new wn 26 (ncells x))
    have hgx : w.heap.size ≤ wn.heap.size := h0.out.size
    change Code.wp _ _ _ _ (wn.alloc (.cells (ncells x) 26))
    obtain ⟨gx, hgx1⟩ : ∃ g, wn.heap.size = g := ⟨_, rfl⟩
    rw [hgx1] at HX hgx ⊢
    clear hgx1
    generalize wn.alloc (.cells (ncells x) 26) = W1 at HX hs1 ⊢
    replace h0 := Lib.hid (Stp.trans h0.out hs1)
    replace HF := Lib.hid (HF.out.keep hs1 HF.out.lt)
    replace Ha := Lib.hid (Ha.out.keep hs1)
    clear hs1
    have fc := fs_cell HF.out
    obtain ⟨⟨z0, z1, z2, z3, z4, z5, z6, z7⟩, y0, y1, y2, y3, y4, y5, y6, y7⟩ := nzy HX.out
    go_wp2_with fail
    go_ret2
    exact ⟨rfl, h0.out⟩
/-- The code's package fs. -/
theorem fsI : FsI where
  may ns m hm hl hs b hb A k w ha := may_s ns m hm hl hs b hb A k w ha
  same ns ms m j hm hj hl hl2 b hb A B k l w ha hb2 := fsame_s ns ms m j hm hj hl hl2 b hb A B k l w ha hb2
  get ns m hm hl hs p y hy hy9 x e0 hx A k w ha := get_s ns m hm hl hs p x e0 hx A k w ha
  put ns m hm hl hs n v hv hn ms e0 hx z hz A k w ha := by
    subst hv
    refine (put_s ns m hm hl hs n hn ms e0 hx z hz A k w ha).mono ?_
    rintro e w' ⟨B, d, rfl, hr, hst⟩
    subst hz
    obtain ⟨B', d', e2, hR⟩ := RdN.of_row hr
    cases e2
    exact ⟨_, _, rfl, hR, hst⟩
  grow ns m hm hl hs p y hy hy9 d x hx hx9 ms e0 hg z hz A k w ha := by
    have hml : ms.length = m := by rw [(grow_small hg hs).2, hm]
    refine (grow_s ns m hm hl hs p d (by omega) ms e0 hg A k w ha).mono ?_
    rintro e w' ⟨B, c, rfl, hr, hst⟩
    obtain rfl : m = z := hml.symm.trans hz
    subst hml
    obtain ⟨B', d', e2, hR⟩ := RdN.of_row hr
    cases e2
    exact ⟨_, _, rfl, hR, hst⟩
  text ns m hm hl hs p y hy hy9 s e0 hx A k w ha := text_s ns m hm hl hs p s e0 hx A k w ha
end Go.Proofs.Ytjddgmdbgajjpaa.Fs
