/-
  The document's Grow of package fs: no statement is proved here.
-/
import Derived.Test.YtjddgmdbgajjpaaFsRef2
namespace Go.Proofs.Ytjddgmdbgajjpaa.Fs
open Go.Sort Go.RowKit Go.Proofs.Ytjddgmdbgajjpaa.Str Go.Proofs.Ytjddgmdbgajjpaa.Base Go.Proofs.Ytjddgmdbgajjpaa.Node Go.Proofs.Ytjddgmdbgajjpaa.Long Go.Proofs.Ytjddgmdbgajjpaa.FsM
open Go.Proofs.Ytjddgmdbgajjpaa.Tree (oneB mayT fewT nodeA nodeB findN findV hasB riseB findN_lt findN_bound node_info)
set_option linter.unusedVariables false
theorem one_data {n : Nd} (h : oneB n = true) (hk : n.kind = 48) : n.data.length ≤ 4000 := by
  unfold oneB at h
  rw [Bool.and_eq_true, Bool.and_eq_true] at h
  have h2 := h.2.2
  unfold Tree.kindB at h2
  rw [if_pos hk, Bool.and_eq_true, decide_eq_true_eq] at h2
  exact h2.2
theorem has_no {ns : List Nd} {p : List UInt8} (h : ∀ i n, ¬ IsFile ns p i n) : hasB ns p 48 = false := by
  rw [Bool.eq_false_iff]
  intro hb
  unfold hasB at hb
  cases hf : findN p ns with
  | none => rw [hf] at hb; cases hb
  | some i =>
    obtain ⟨n, hn, _⟩ := findN_lt hf
    rw [hf] at hb
    simp [hn] at hb
    exact h i n ⟨hf, hn, hb⟩
theorem has_yes {ns : List Nd} {p : List UInt8} {i : Nat} {n : Nd} (h : IsFile ns p i n) : hasB ns p 48 = true := by
  unfold hasB
  rw [h.1]
  simp [h.2.1, h.2.2]
theorem ntc_set_at {n : Nd} (d : List UInt8) : ∀ {ns : List Nd} {i : Nat}, ns[i]? = some n → (ntc ns).set (i * 8 + 7) (.string ⟨(n.data ++ d).toArray⟩) = ntc (ns.set i (moreN n d))
  | [], i, h => by simp at h
  | x :: xs, 0, h => by simp at h; subst h; rfl
  | x :: xs, i + 1, h => by
    have h2 := ntc_set_at d (ns := xs) (i := i) (by simpa using h)
    rw [List.set_cons_succ]
    show ((ncells x).toList ++ ntc xs).set _ _ = (ncells x).toList ++ ntc (xs.set i (moreN n d))
    rw [← h2, List.set_append_right _ _ (by show 8 ≤ _; omega), show (i + 1) * 8 + 7 - (ncells x).toList.length = i * 8 + 7 by show (i + 1) * 8 + 7 - 8 = _; omega]
theorem row_slice {w : World} {b sz n : Nat} {t : TypeId} {v : Value} {xs : List Value} (h : w.ownsRow b t sz v n xs) (hn : 0 < n) : ∃ g cap, v = .slice (some ⟨g, 0, none⟩) n cap := by
  obtain ⟨hl, ⟨rfl, hn2⟩ | ⟨g, cap, cur, rfl, -⟩⟩ := h
  · omega
  · exact ⟨g, cap, rfl⟩
theorem row_blk9 {w : World} {b sz g n cap : Nat} {t : TypeId} {xs : List Value} (h : w.ownsRow b t sz (.slice (some ⟨g, 0, none⟩) n cap) n xs) : ∃ cur, Blk w g t cur ∧ n ≤ cap ∧ cap ≤ maxLen ∧ cur.size = cap * sz ∧ cur.toList.take (n * sz) = xs ∧ xs.length = n * sz ∧ b ≤ g := by
  obtain ⟨hl, ⟨hv, _⟩ | ⟨g', cap', cur, hv, hb, hg, h1, h2, h3, h4⟩⟩ := h
  · cases hv
  · cases hv
    exact ⟨cur, hg, h1, h2, h3, h4, hl, hb⟩
theorem row_put9 {w : World} {b sz g n cap : Nat} {t : TypeId} {xs : List Value} (h : w.ownsRow b t sz (.slice (some ⟨g, 0, none⟩) n cap) n xs) (j : Nat) (u : Value) : (w.setCell ⟨g, j, none⟩ u).ownsRow b t sz (.slice (some ⟨g, 0, none⟩) n cap) n (xs.set j u) := by
  obtain ⟨cur, hb, h1, h2, h3, h4, hl, hbg⟩ := row_blk9 h
  refine ⟨by rw [List.length_set, hl], .inr ⟨g, cap, _, rfl, hbg, hb.put j u, h1, h2, by rw [Array.size_setIfInBounds, h3], ?_⟩⟩
  rw [Array.toList_setIfInBounds, List.take_set, h4]
set_option maxRecDepth 100000 in
set_option maxHeartbeats 8000000 in
theorem rgrow_n (ns : List Nd) (m : Nat) (hm : ns.length = m) (hl : m < 9223372036854775808) (hs : ∀ n ∈ ns, SmallN n) (p : List UInt8) (d : List UInt8) (hd : d.length ≤ 1000000) (ms : List Nd) (e0 : Int) (hx : growF ns p d = (ms, e0)) (A : Option Addr) (k : Nat) (w : World) (ha : RdN w A k ns) :
    Calls Try.prog 15 #[fv A m k, .string ⟨p.toArray⟩, .string ⟨d.toArray⟩] w fun e w' => ∃ B c, e = .returned (.tuple #[fv B m c, .int .i64 e0]) ∧ RdN w' B c ms ∧ Stp w w' := by
  obtain ⟨i0, hi0, hz0, hsz, hby⟩ := info_parts node_info
  have Ha := Lib.hid ha
  have Hm := Lib.hid hm
  have Hs := Lib.hid hs
  clear ha hm hs
  have h0 := Lib.hid (Stp.alloc (Stp.refl w) (.cells (fcs A m k) 24))
  have HF := Lib.hid (Blk.new w 24 (fcs A m k))
  have HZ := Lib.hid (by have h := Blk.new (w.alloc (.cells (fcs A m k) 24)) 24 (fcs none 0 0); simp only [World.size_alloc] at h; exact h)
  replace HF := Lib.hid (HF.out.alloc (.cells (fcs none 0 0) 24))
  replace h0 := Lib.hid (Stp.alloc h0.out (.cells (fcs none 0 0) 24))
  rcases grow_cases ns p d with ⟨hM, hg⟩ | ⟨hM, hno, hg⟩ | ⟨hM, i, n, hfile, key⟩
  · rw [hg] at hx
    obtain ⟨rfl, rfl⟩ := Prod.mk.inj hx
    have HM := Lib.hid hM
    clear hM hg hx
    go_enter Try.func15, Try.ntmps15
    go_upto_region 1 with fail
    change Code.wp _ _ _ _ ((w.alloc (.cells (fcs A m k) 24)).alloc (.cells (fcs none 0 0) 24))
    have hgz : w.heap.size ≤ w.heap.size + 1 := by omega
    obtain ⟨gf, hgf⟩ : ∃ g, w.heap.size = g := ⟨_, rfl⟩
    rw [hgf] at HF HZ ⊢
    rw [show w.heap.size + 1 = gf + 1 by rw [hgf]] at hgz
    clear hgf
    generalize ((w.alloc (.cells (fcs A m k) 24)).alloc (.cells (fcs none 0 0) 24)) = W0 at h0 HF HZ ⊢
    replace Ha := Lib.hid (Ha.out.keep h0.out)
    have fc := fs_cell HF.out; have fz := fs_cell HZ.out
    go_upto_region 2 with (go_at_call 21; (with_reducible refine (rmay_s ns m Hm.out hl Hs.out _ HM.out A k _ Ha.out).mono ?_); rintro e wn ⟨rfl, hs⟩; replace h0 := Lib.hid (Stp.trans h0.out hs); replace HF := Lib.hid (HF.out.keep hs HF.out.lt); replace HZ := Lib.hid (HZ.out.keep hs HZ.out.lt); replace Ha := Lib.hid (Ha.out.keep hs); clear hs; clear fc fz; have fc := fs_cell HF.out; have fz := fs_cell HZ.out)
    have ff := HZ.out.free 0
    go_wp2_with fail
    have hf : Blk (wn.setCell ⟨gf + 1, 0, none⟩ (.slice A m k)) (gf + 1) 24 (fcs A m k) := HZ.out.put 0 (.slice A m k)
    have hr := rdn_far Ha.out HZ.out 0 (.slice A m k)
    have hst : Stp w (wn.setCell ⟨gf + 1, 0, none⟩ (.slice A m k)) := Below.setCell h0.out (p := ⟨gf + 1, 0, none⟩) hgz (.slice A m k)
    change bodyPost _ _ _ _ _ (wn.setCell ⟨gf + 1, 0, none⟩ (.slice A m k))
    generalize wn.setCell ⟨gf + 1, 0, none⟩ (.slice A m k) = Y at hf hr hst ⊢
    clear fc fz ff
    have fz := fs_cell hf
    refine bodyPost_ret (v := .tuple #[fv A m k, .int .i64 1]) (by simp [results, Try.results15, go_sem, *]) rfl ⟨A, k, rfl, hr, hst⟩
  · rw [hg] at hx
    obtain ⟨rfl, rfl⟩ := Prod.mk.inj hx
    have HM := Lib.hid hM
    have HB := Lib.hid (has_no hno)
    clear hM hg hx hno
    go_enter Try.func15, Try.ntmps15
    go_upto_region 1 with fail
    change Code.wp _ _ _ _ ((w.alloc (.cells (fcs A m k) 24)).alloc (.cells (fcs none 0 0) 24))
    have hgz : w.heap.size ≤ w.heap.size + 1 := by omega
    obtain ⟨gf, hgf⟩ : ∃ g, w.heap.size = g := ⟨_, rfl⟩
    rw [hgf] at HF HZ ⊢
    rw [show w.heap.size + 1 = gf + 1 by rw [hgf]] at hgz
    clear hgf
    generalize ((w.alloc (.cells (fcs A m k) 24)).alloc (.cells (fcs none 0 0) 24)) = W0 at h0 HF HZ ⊢
    replace Ha := Lib.hid (Ha.out.keep h0.out)
    have fc := fs_cell HF.out; have fz := fs_cell HZ.out
    go_upto_region 5 with (first
      | (go_at_call 21; (with_reducible refine (rmay_s ns m Hm.out hl Hs.out _ HM.out A k _ Ha.out).mono ?_); rintro e wn ⟨rfl, hs⟩; replace h0 := Lib.hid (Stp.trans h0.out hs); replace HF := Lib.hid (HF.out.keep hs HF.out.lt); replace HZ := Lib.hid (HZ.out.keep hs HZ.out.lt); replace Ha := Lib.hid (Ha.out.keep hs); clear hs; clear fc fz; have fc := fs_cell HF.out; have fz := fs_cell HZ.out)
      | (go_at_call 38; (with_reducible refine (rhas_s ns m Hm.out hl p 48 _ k48 _ HB.out A k _ Ha.out).mono ?_); rintro e wn ⟨rfl, hs⟩; replace h0 := Lib.hid (Stp.trans h0.out hs); replace HF := Lib.hid (HF.out.keep hs HF.out.lt); replace HZ := Lib.hid (HZ.out.keep hs HZ.out.lt); replace Ha := Lib.hid (Ha.out.keep hs); clear hs; clear fc fz; have fc := fs_cell HF.out; have fz := fs_cell HZ.out))
    have ff := HZ.out.free 0
    go_wp2_with fail
    have hf : Blk (wn.setCell ⟨gf + 1, 0, none⟩ (.slice A m k)) (gf + 1) 24 (fcs A m k) := HZ.out.put 0 (.slice A m k)
    have hr := rdn_far Ha.out HZ.out 0 (.slice A m k)
    have hst : Stp w (wn.setCell ⟨gf + 1, 0, none⟩ (.slice A m k)) := Below.setCell h0.out (p := ⟨gf + 1, 0, none⟩) hgz (.slice A m k)
    change bodyPost _ _ _ _ _ (wn.setCell ⟨gf + 1, 0, none⟩ (.slice A m k))
    generalize wn.setCell ⟨gf + 1, 0, none⟩ (.slice A m k) = Y at hf hr hst ⊢
    clear fc fz ff
    have fz := fs_cell hf
    refine bodyPost_ret (v := .tuple #[fv A m k, .int .i64 9]) (by simp [results, Try.results15, go_sem, *]) rfl ⟨A, k, rfl, hr, hst⟩
  have HM := Lib.hid hM
  have HB := Lib.hid (has_yes hfile)
  have hi : i < m := by rw [← Hm.out]; exact (List.getElem?_eq_some_iff.1 hfile.2.1).1
  have HV := Lib.hid (show findV ns p = (i : Int) by rw [findV, hfile.1])
  have Hn := Lib.hid hfile.2.1
  have hnd : n.data.length ≤ 4000 := one_data ((mayF_iff.1 hM).2.2 n (List.mem_of_getElem? hfile.2.1)).1 hfile.2.2
  clear hM hfile
  rcases key with ⟨h4, hg⟩ | ⟨h4, hg⟩
  · rw [hg] at hx
    obtain ⟨rfl, rfl⟩ := Prod.mk.inj hx
    have g4 : decide ((4000 : Int) < (n.data.length : Int) + (d.length : Int)) = true := decide_eq_true (by omega)
    clear hg hx h4
    go_enter Try.func15, Try.ntmps15
    go_upto_region 1 with fail
    change Code.wp _ _ _ _ ((w.alloc (.cells (fcs A m k) 24)).alloc (.cells (fcs none 0 0) 24))
    have hgz : w.heap.size ≤ w.heap.size + 1 := by omega
    obtain ⟨gf, hgf⟩ : ∃ g, w.heap.size = g := ⟨_, rfl⟩
    rw [hgf] at HF HZ ⊢
    rw [show w.heap.size + 1 = gf + 1 by rw [hgf]] at hgz
    clear hgf
    generalize ((w.alloc (.cells (fcs A m k) 24)).alloc (.cells (fcs none 0 0) 24)) = W0 at h0 HF HZ ⊢
    replace Ha := Lib.hid (Ha.out.keep h0.out)
    have fc := fs_cell HF.out; have fz := fs_cell HZ.out
    go_upto_region 8 with (first
      | (go_at_call 21; (with_reducible refine (rmay_s ns m Hm.out hl Hs.out _ HM.out A k _ Ha.out).mono ?_); rintro e wn ⟨rfl, hs⟩; replace h0 := Lib.hid (Stp.trans h0.out hs); replace HF := Lib.hid (HF.out.keep hs HF.out.lt); replace HZ := Lib.hid (HZ.out.keep hs HZ.out.lt); replace Ha := Lib.hid (Ha.out.keep hs); clear hs; clear fc fz; have fc := fs_cell HF.out; have fz := fs_cell HZ.out)
      | (go_at_call 38; (with_reducible refine (rhas_s ns m Hm.out hl p 48 _ k48 _ HB.out A k _ Ha.out).mono ?_); rintro e wn ⟨rfl, hs⟩; replace h0 := Lib.hid (Stp.trans h0.out hs); replace HF := Lib.hid (HF.out.keep hs HF.out.lt); replace HZ := Lib.hid (HZ.out.keep hs HZ.out.lt); replace Ha := Lib.hid (Ha.out.keep hs); clear hs; clear fc fz; have fc := fs_cell HF.out; have fz := fs_cell HZ.out)
      | (go_at_call 36; (with_reducible refine (rfind_n ns m Hm.out hl p _ HV.out A k _ Ha.out).mono ?_); rintro e wn ⟨rfl, rfl⟩))
    obtain ⟨b, o, rfl, -, q0, q1, q2, q3, q4, q5, q6, q7⟩ := Ha.out.cells Hn.out
    have ff := HZ.out.free 0
    go_wp2_with fail
    have hf : Blk (wn.setCell ⟨gf + 1, 0, none⟩ (.slice (some ⟨b, o, none⟩) m k)) (gf + 1) 24 (fcs (some ⟨b, o, none⟩) m k) := HZ.out.put 0 (.slice (some ⟨b, o, none⟩) m k)
    have hr := rdn_far Ha.out HZ.out 0 (.slice (some ⟨b, o, none⟩) m k)
    have hst : Stp w (wn.setCell ⟨gf + 1, 0, none⟩ (.slice (some ⟨b, o, none⟩) m k)) := Below.setCell h0.out (p := ⟨gf + 1, 0, none⟩) hgz (.slice (some ⟨b, o, none⟩) m k)
    change bodyPost _ _ _ _ _ (wn.setCell ⟨gf + 1, 0, none⟩ (.slice (some ⟨b, o, none⟩) m k))
    generalize wn.setCell ⟨gf + 1, 0, none⟩ (.slice (some ⟨b, o, none⟩) m k) = Y at hf hr hst ⊢
    clear fc fz ff q0 q1 q2 q3 q4 q5 q6 q7
    have fz := fs_cell hf
    refine bodyPost_ret (v := .tuple #[fv (some ⟨b, o, none⟩) m k, .int .i64 8]) (by simp [results, Try.results15, go_sem, *]) rfl ⟨(some ⟨b, o, none⟩), k, rfl, hr, hst⟩
  · rw [hg] at hx
    obtain ⟨rfl, rfl⟩ := Prod.mk.inj hx
    have g4 : decide ((4000 : Int) < (n.data.length : Int) + (d.length : Int)) = false := decide_eq_false (by omega)
    have hlen : n.data.length + d.length ≤ 4000 := h4
    clear hg hx h4
    go_enter Try.func15, Try.ntmps15
    go_upto_region 1 with fail
    change Code.wp _ _ _ _ ((w.alloc (.cells (fcs A m k) 24)).alloc (.cells (fcs none 0 0) 24))
    have hgz : w.heap.size ≤ w.heap.size + 1 := by omega
    obtain ⟨gf, hgf⟩ : ∃ g, w.heap.size = g := ⟨_, rfl⟩
    rw [hgf] at HF HZ ⊢
    rw [show w.heap.size + 1 = gf + 1 by rw [hgf]] at hgz
    clear hgf
    generalize ((w.alloc (.cells (fcs A m k) 24)).alloc (.cells (fcs none 0 0) 24)) = W0 at h0 HF HZ ⊢
    replace Ha := Lib.hid (Ha.out.keep h0.out)
    have fc := fs_cell HF.out; have fz := fs_cell HZ.out
    go_upto_region 8 with (first
      | (go_at_call 21; (with_reducible refine (rmay_s ns m Hm.out hl Hs.out _ HM.out A k _ Ha.out).mono ?_); rintro e wn ⟨rfl, hs⟩; replace h0 := Lib.hid (Stp.trans h0.out hs); replace HF := Lib.hid (HF.out.keep hs HF.out.lt); replace HZ := Lib.hid (HZ.out.keep hs HZ.out.lt); replace Ha := Lib.hid (Ha.out.keep hs); clear hs; clear fc fz; have fc := fs_cell HF.out; have fz := fs_cell HZ.out)
      | (go_at_call 38; (with_reducible refine (rhas_s ns m Hm.out hl p 48 _ k48 _ HB.out A k _ Ha.out).mono ?_); rintro e wn ⟨rfl, hs⟩; replace h0 := Lib.hid (Stp.trans h0.out hs); replace HF := Lib.hid (HF.out.keep hs HF.out.lt); replace HZ := Lib.hid (HZ.out.keep hs HZ.out.lt); replace Ha := Lib.hid (Ha.out.keep hs); clear hs; clear fc fz; have fc := fs_cell HF.out; have fz := fs_cell HZ.out)
      | (go_at_call 36; (with_reducible refine (rfind_n ns m Hm.out hl p _ HV.out A k _ Ha.out).mono ?_); rintro e wn ⟨rfl, rfl⟩))
    have HC : Hid (A.isSome = true → ∀ j u, (ntc ns)[j]? = some u → ∀ b o, A = some ⟨b, o, none⟩ → wn.cell? ((⟨b, o, none⟩ : Addr).add j) = some u) := Lib.hid (fun _ j u hj b o e => by
      obtain ⟨b', o', e', -, hc⟩ := Ha.out.2 (by intro h; rw [h] at Hn; exact absurd Hn.out (by simp))
      rw [e] at e'
      cases e'
      rw [Addr.add_lit]
      exact hc j u hj)
    obtain ⟨b, o, rfl, -, q0, q1, q2, q3, q4, q5, q6, q7⟩ := Ha.out.cells Hn.out
    have HC2 := Lib.hid (fun j u hj => HC.out rfl j u hj b o rfl)
    have hm20 : m ≤ 20 := by have h := (mayF_iff.1 HM.out).1; rwa [Hm.out] at h
    clear HC
    go_upto_region 11 with (at_builtin; refine wpList_append_own (P := Try.prog) _ rfl (.const (.slice none 0 0)) (.tmp 40) 22 rfl wn.heap.size 26 i0 _ 8 88 Try.underlying22 hi0 hz0 hsz hby rfl (by decide) _ 0 [] rfl (World.ownsRow_nil _ _ _ _) ⟨b, o, none⟩ m k (ntc ns) rfl (by rw [ntc_length, Hm.out]) HC2.out (ntc_one ns) (by unfold maxLen; omega) (by omega) (Nat.le_refl _) ?_; intro v4 w4 hv' hg4 _; have H4 : Hid (Stp wn w4) := Lib.hid (row_stp (show wn.ownsRow wn.heap.size 26 8 (.slice none 0 0) 0 [] from World.ownsRow_nil _ _ _ _) (Stp.refl wn) (Nat.le_refl _) hg4); have Hv4 : Hid (w4.ownsRow wn.heap.size 26 8 v4 m (ntc ns)) := Lib.hid (by rw [Nat.zero_add, List.nil_append] at hv'; exact hv'); clear hv' hg4 fc fz q0 q1 q2 q3 q4 q5 q6 q7)
    obtain ⟨g, cap, rfl⟩ := row_slice Hv4.out (by omega)
    obtain ⟨cur, hbk, -, -, -, hcur, -, hlo⟩ := row_blk9 Hv4.out
    have d1 : w4.cell? ⟨g, i * 8 + 7, none⟩ = some (.string ⟨n.data.toArray⟩) := by
      rw [hbk.cell]
      have e : (ntc ns)[i * 8 + 7]? = some (.string ⟨n.data.toArray⟩) := ntc_at (j := i) (i := 7) (n := n) Hn.out (by omega)
      rw [← hcur, List.getElem?_take] at e
      split at e
      · simpa using e
      · cases e
    have d2 := hbk.free (i * 8 + 7)
    have hadd := add_ll n.data d (by omega)
    have HV5 : Hid ((w4.setCell ⟨g, i * 8 + 7, none⟩ (.string ⟨(n.data ++ d).toArray⟩)).ownsRow wn.heap.size 26 8 (.slice (some ⟨g, 0, none⟩) m cap) m (ntc (ns.set i (moreN n d)))) := Lib.hid (by
      rw [← ntc_set_at d Hn.out]
      exact row_put9 Hv4.out _ _)
    have HS5 : Hid (Stp wn (w4.setCell ⟨g, i * 8 + 7, none⟩ (.string ⟨(n.data ++ d).toArray⟩))) := Lib.hid (Below.setCell H4.out (p := ⟨g, i * 8 + 7, none⟩) hlo _)
    clear hbk hcur hlo
    go_upto_region 12 with fail
    change Code.wp _ _ _ _ (w4.setCell ⟨g, i * 8 + 7, none⟩ (.string ⟨(n.data ++ d).toArray⟩))
    generalize w4.setCell ⟨g, i * 8 + 7, none⟩ (.string ⟨(n.data ++ d).toArray⟩) = W9 at HV5 HS5 ⊢
    obtain ⟨A4, c4, e4, hr4⟩ := RdN.of_row (ns := ns.set i (moreN n d)) (lo := wn.heap.size) (w := W9) (e := 26) (by rw [List.length_set, Hm.out]; exact HV5.out)
    rw [List.length_set, Hm.out] at e4
    cases e4
    have HR := Lib.hid hr4
    clear hr4 d1 d2 hadd
    replace h0 := Lib.hid (Stp.trans h0.out HS5.out)
    replace HZ := Lib.hid (HZ.out.keep HS5.out HZ.out.lt)
    have fz := fs_cell HZ.out
    have ff := HZ.out.free 0
    go_wp2_with fail
    have hf : Blk (W9.setCell ⟨gf + 1, 0, none⟩ (.slice (some ⟨g, 0, none⟩) m cap)) (gf + 1) 24 (fcs (some ⟨g, 0, none⟩) m cap) := HZ.out.put 0 (.slice (some ⟨g, 0, none⟩) m cap)
    have hr := rdn_far HR.out HZ.out 0 (.slice (some ⟨g, 0, none⟩) m cap)
    have hst : Stp w (W9.setCell ⟨gf + 1, 0, none⟩ (.slice (some ⟨g, 0, none⟩) m cap)) := Below.setCell h0.out (p := ⟨gf + 1, 0, none⟩) hgz (.slice (some ⟨g, 0, none⟩) m cap)
    change bodyPost _ _ _ _ _ (W9.setCell ⟨gf + 1, 0, none⟩ (.slice (some ⟨g, 0, none⟩) m cap))
    generalize W9.setCell ⟨gf + 1, 0, none⟩ (.slice (some ⟨g, 0, none⟩) m cap) = Y at hf hr hst ⊢
    clear fz ff
    have fz := fs_cell hf
    refine bodyPost_ret (v := .tuple #[fv (some ⟨g, 0, none⟩) m cap, .int .i64 0]) (by simp [results, Try.results15, go_sem, *]) rfl ⟨(some ⟨g, 0, none⟩), cap, rfl, hr, hst⟩
theorem rgrow_s (ns : List Nd) (m : Nat) (hm : ns.length = m) (hl : m < 9223372036854775808) (hs : ∀ n ∈ ns, SmallN n) (p : List UInt8) (d : List UInt8) (hd : d.length ≤ 1000000) (ms : List Nd) (e0 : Int) (hx : growF ns p d = (ms, e0)) (z : Nat) (hz : ms.length = z) (A : Option Addr) (k : Nat) (w : World) (ha : RdN w A k ns) :
    Calls Try.prog 15 #[fv A m k, .string ⟨p.toArray⟩, .string ⟨d.toArray⟩] w fun e w' => ∃ B c, e = .returned (.tuple #[fv B z c, .int .i64 e0]) ∧ RdN w' B c ms ∧ Stp w w' := by
  obtain rfl : m = z := by
    rw [← hz, ← hm]
    rcases grow_cases ns p d with ⟨-, hg⟩ | ⟨-, -, hg⟩ | ⟨-, i, n, -, ⟨-, hg⟩ | ⟨-, hg⟩⟩ <;> (rw [hg] at hx; rw [← (Prod.mk.inj hx).1]) 
    rw [List.length_set]
  exact rgrow_n ns m hm hl hs p d hd ms e0 hx A k w ha
end Go.Proofs.Ytjddgmdbgajjpaa.Fs
