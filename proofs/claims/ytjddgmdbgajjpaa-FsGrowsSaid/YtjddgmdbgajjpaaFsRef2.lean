/-
  The document's Put of package fs: no statement is proved here.
-/
import Derived.Test.YtjddgmdbgajjpaaFsRef
import Derived.Test.YtjddgmdbgajjpaaTreeApp
namespace Go.Proofs.Ytjddgmdbgajjpaa.Fs
open Go.Sort Go.RowKit Go.Proofs.Ytjddgmdbgajjpaa.Str Go.Proofs.Ytjddgmdbgajjpaa.Base Go.Proofs.Ytjddgmdbgajjpaa.Node Go.Proofs.Ytjddgmdbgajjpaa.Long Go.Proofs.Ytjddgmdbgajjpaa.FsM
open Go.Proofs.Ytjddgmdbgajjpaa.Tree (oneB mayT fewT nodeA nodeB findN findV hasB riseB findN_lt findN_bound node_info)
set_option linter.unusedVariables false
theorem ins_skip {n : Nd} : ∀ {xs ys : List Nd}, (∀ x ∈ xs, ¬ n.path < x.path) → insF n (xs ++ ys) = xs ++ insF n ys
  | [], ys, _ => rfl
  | x :: xs, ys, h => by
    rw [List.cons_append, insF, if_neg (h x List.mem_cons_self), ins_skip (fun y hy => h y (List.mem_cons_of_mem _ hy)), List.cons_append]
theorem ins_stop {n : Nd} : ∀ {xs ys : List Nd}, (∃ x ∈ xs, n.path < x.path) → insF n (xs ++ ys) = insF n xs ++ ys
  | [], ys, h => by obtain ⟨x, hx, -⟩ := h; exact absurd hx List.not_mem_nil
  | x :: xs, ys, h => by
    rw [List.cons_append, insF, insF]
    by_cases hx : n.path < x.path
    · rw [if_pos hx, if_pos hx]; rfl
    · rw [if_neg hx, if_neg hx, ins_stop]
      · rfl
      · obtain ⟨y, hy, hl⟩ := h
        rcases List.mem_cons.1 hy with rfl | hy
        · exact absurd hl hx
        · exact ⟨y, hy, hl⟩
theorem find_neg {ns : List Nd} {p : List UInt8} (h : (findN p ns).isSome = false) : findV ns p = -1 := by
  rw [findV]; cases hf : findN p ns with
  | none => rfl
  | some i => rw [hf] at h; cases h
theorem find_pos {ns : List Nd} {p : List UInt8} (h : (findN p ns).isSome = true) : ∃ i : Nat, findV ns p = (i : Int) := by
  rw [findV]; cases hf : findN p ns with
  | none => rw [hf] at h; cases h
  | some i => exact ⟨i, rfl⟩
set_option maxRecDepth 100000 in
set_option maxHeartbeats 8000000 in
theorem rput_no (ns : List Nd) (m : Nat) (hm : ns.length = m) (hl : m < 9223372036854775808) (hs : ∀ n ∈ ns, SmallN n) (n : Nd) (hn : SmallN n) (ms : List Nd) (e0 : Int) (hx : putF ns n = (ms, e0)) (he : e0 ≠ 0) (z : Nat) (hz : ms.length = z) (A : Option Addr) (k : Nat) (w : World) (ha : RdN w A k ns) :
    Calls Try.prog 13 #[fv A m k, nv n] w fun e w' => ∃ B d, e = .returned (.tuple #[fv B z d, .int .i64 e0]) ∧ RdN w' B d ms ∧ Stp w w' := by
  have hno := put_no (ns := ns) (n := n) (by rw [hx]; exact he)
  rw [hx] at hno
  dsimp only at hno
  replace hno := hno.symm
  subst hno
  obtain rfl : m = z := by rw [← hz, hm]
  have Hsn := Lib.hid hn
  have Ha := Lib.hid ha
  have Hm := Lib.hid hm
  have Hs := Lib.hid hs
  clear ha hm hs
  have h0 := Lib.hid (Stp.alloc (Stp.refl w) (.cells (fcs A m k) 24))
  have HF := Lib.hid (Blk.new w 24 (fcs A m k))
  have HN := Lib.hid (by have h := Blk.new (w.alloc (.cells (fcs A m k) 24)) 26 (ncells n); simp only [World.size_alloc] at h; exact h)
  replace HF := Lib.hid (HF.out.alloc (.cells (ncells n) 26))
  replace h0 := Lib.hid (Stp.alloc h0.out (.cells (ncells n) 26))
  have HZ := Lib.hid (by have h := Blk.new ((w.alloc (.cells (fcs A m k) 24)).alloc (.cells (ncells n) 26)) 24 (fcs none 0 0); simp only [World.size_alloc, Nat.add_assoc, Nat.reduceAdd] at h; exact h)
  replace HF := Lib.hid (HF.out.alloc (.cells (fcs none 0 0) 24))
  replace HN := Lib.hid (HN.out.alloc (.cells (fcs none 0 0) 24))
  replace h0 := Lib.hid (Stp.alloc h0.out (.cells (fcs none 0 0) 24))
  by_cases h1 : mayF ns = false ∨ oneB n = false
  · rw [putF, if_pos h1] at hx
    obtain ⟨-, rfl⟩ := Prod.mk.inj hx
    obtain ⟨mb, hmb⟩ : ∃ b, mayF ns = b := ⟨_, rfl⟩
    obtain ⟨ob, hob⟩ : ∃ b, oneB n = b := ⟨_, rfl⟩
    rw [hmb, hob] at h1
    have HM := Lib.hid hmb
    have HO := Lib.hid hob
    have key : mb = false ∨ (mb = true ∧ ob = false) := by cases mb <;> cases ob <;> simp_all
    clear h1 hx hmb hob hz hn he
    rcases key with rfl | ⟨rfl, rfl⟩
    all_goals
      go_enter Try.func13, Try.ntmps13
      go_upto_region 1 with fail
      change Code.wp _ _ _ _ (((w.alloc (.cells (fcs A m k) 24)).alloc (.cells (ncells n) 26)).alloc (.cells (fcs none 0 0) 24))
      have hgz : w.heap.size ≤ w.heap.size + 2 := by omega
      obtain ⟨gf, hgf⟩ : ∃ g, w.heap.size = g := ⟨_, rfl⟩
      rw [hgf] at HF HN HZ ⊢
      rw [show w.heap.size + 2 = gf + 2 by rw [hgf]] at hgz
      clear hgf
      generalize (((w.alloc (.cells (fcs A m k) 24)).alloc (.cells (ncells n) 26)).alloc (.cells (fcs none 0 0) 24)) = W0 at h0 HF HN HZ ⊢
      replace Ha := Lib.hid (Ha.out.keep h0.out)
      have fc := fs_cell HF.out; have fz := fs_cell HZ.out; obtain ⟨p0, p1, p2, p3, p4, p5, p6, p7⟩ := nd_cells HN.out
      go_upto_region 3 with (first
        | (go_at_call 21; (with_reducible refine (rmay_s ns m Hm.out hl Hs.out _ HM.out A k _ Ha.out).mono ?_); rintro e wn ⟨rfl, hs⟩; replace h0 := Lib.hid (Stp.trans h0.out hs); replace HF := Lib.hid (HF.out.keep hs HF.out.lt); replace HN := Lib.hid (HN.out.keep hs HN.out.lt); replace HZ := Lib.hid (HZ.out.keep hs HZ.out.lt); replace Ha := Lib.hid (Ha.out.keep hs); clear hs; clear fc fz p0 p1 p2 p3 p4 p5 p6 p7; have fc := fs_cell HF.out; have fz := fs_cell HZ.out; obtain ⟨p0, p1, p2, p3, p4, p5, p6, p7⟩ := nd_cells HN.out)
        | (go_at_call 35; (with_reducible refine (rone_n n _ rfl Hsn.out _ HO.out _).mono ?_); rintro e wn ⟨rfl, hs⟩; replace h0 := Lib.hid (Stp.trans h0.out hs); replace HF := Lib.hid (HF.out.keep hs HF.out.lt); replace HN := Lib.hid (HN.out.keep hs HN.out.lt); replace HZ := Lib.hid (HZ.out.keep hs HZ.out.lt); replace Ha := Lib.hid (Ha.out.keep hs); clear hs; clear fc fz p0 p1 p2 p3 p4 p5 p6 p7; have fc := fs_cell HF.out; have fz := fs_cell HZ.out; obtain ⟨p0, p1, p2, p3, p4, p5, p6, p7⟩ := nd_cells HN.out))
      have ff := HZ.out.free 0
      go_wp2_with fail
      have hf : Blk (wn.setCell ⟨gf + 2, 0, none⟩ (.slice A m k)) (gf + 2) 24 (fcs A m k) := HZ.out.put 0 (.slice A m k)
      have hr := rdn_far Ha.out HZ.out 0 (.slice A m k)
      have hst : Stp w (wn.setCell ⟨gf + 2, 0, none⟩ (.slice A m k)) := Below.setCell h0.out (p := ⟨gf + 2, 0, none⟩) hgz (.slice A m k)
      change bodyPost _ _ _ _ _ (wn.setCell ⟨gf + 2, 0, none⟩ (.slice A m k))
      generalize wn.setCell ⟨gf + 2, 0, none⟩ (.slice A m k) = Y at hf hr hst ⊢
      clear fc fz p0 p1 p2 p3 p4 p5 p6 p7 ff
      have fz := fs_cell hf
      refine bodyPost_ret (v := .tuple #[fv A m k, .int .i64 1]) (by simp [results, Try.results13, go_sem, *]) rfl ⟨A, k, rfl, hr, hst⟩
  rw [putF, if_neg h1] at hx
  have hM : mayF ns = true := by cases h : mayF ns; exact absurd (.inl h) h1; rfl
  have hO : oneB n = true := by cases h : oneB n; exact absurd (.inr h) h1; rfl
  have HM := Lib.hid hM
  have HO := Lib.hid hO
  clear hM hO h1
  by_cases h2 : (findN n.path ns).isSome = true
  · rw [if_pos h2] at hx
    obtain ⟨-, rfl⟩ := Prod.mk.inj hx
    obtain ⟨i, hi⟩ := find_pos h2
    have HV := Lib.hid hi
    clear h2 hx hi hz hn he
    go_enter Try.func13, Try.ntmps13
    go_upto_region 1 with fail
    change Code.wp _ _ _ _ (((w.alloc (.cells (fcs A m k) 24)).alloc (.cells (ncells n) 26)).alloc (.cells (fcs none 0 0) 24))
    have hgz : w.heap.size ≤ w.heap.size + 2 := by omega
    obtain ⟨gf, hgf⟩ : ∃ g, w.heap.size = g := ⟨_, rfl⟩
    rw [hgf] at HF HN HZ ⊢
    rw [show w.heap.size + 2 = gf + 2 by rw [hgf]] at hgz
    clear hgf
    generalize (((w.alloc (.cells (fcs A m k) 24)).alloc (.cells (ncells n) 26)).alloc (.cells (fcs none 0 0) 24)) = W0 at h0 HF HN HZ ⊢
    replace Ha := Lib.hid (Ha.out.keep h0.out)
    have fc := fs_cell HF.out; have fz := fs_cell HZ.out; obtain ⟨p0, p1, p2, p3, p4, p5, p6, p7⟩ := nd_cells HN.out
    go_upto_region 6 with (first
      | (go_at_call 21; (with_reducible refine (rmay_s ns m Hm.out hl Hs.out _ HM.out A k _ Ha.out).mono ?_); rintro e wn ⟨rfl, hs⟩; replace h0 := Lib.hid (Stp.trans h0.out hs); replace HF := Lib.hid (HF.out.keep hs HF.out.lt); replace HN := Lib.hid (HN.out.keep hs HN.out.lt); replace HZ := Lib.hid (HZ.out.keep hs HZ.out.lt); replace Ha := Lib.hid (Ha.out.keep hs); clear hs; clear fc fz p0 p1 p2 p3 p4 p5 p6 p7; have fc := fs_cell HF.out; have fz := fs_cell HZ.out; obtain ⟨p0, p1, p2, p3, p4, p5, p6, p7⟩ := nd_cells HN.out)
      | (go_at_call 35; (with_reducible refine (rone_n n _ rfl Hsn.out _ HO.out _).mono ?_); rintro e wn ⟨rfl, hs⟩; replace h0 := Lib.hid (Stp.trans h0.out hs); replace HF := Lib.hid (HF.out.keep hs HF.out.lt); replace HN := Lib.hid (HN.out.keep hs HN.out.lt); replace HZ := Lib.hid (HZ.out.keep hs HZ.out.lt); replace Ha := Lib.hid (Ha.out.keep hs); clear hs; clear fc fz p0 p1 p2 p3 p4 p5 p6 p7; have fc := fs_cell HF.out; have fz := fs_cell HZ.out; obtain ⟨p0, p1, p2, p3, p4, p5, p6, p7⟩ := nd_cells HN.out)
      | (go_at_call 36; (with_reducible refine (rfind_n ns m Hm.out hl n.path _ HV.out A k _ Ha.out).mono ?_); rintro e wn ⟨rfl, rfl⟩))
    have ff := HZ.out.free 0
    go_wp2_with fail
    have hf : Blk (wn.setCell ⟨gf + 2, 0, none⟩ (.slice A m k)) (gf + 2) 24 (fcs A m k) := HZ.out.put 0 (.slice A m k)
    have hr := rdn_far Ha.out HZ.out 0 (.slice A m k)
    have hst : Stp w (wn.setCell ⟨gf + 2, 0, none⟩ (.slice A m k)) := Below.setCell h0.out (p := ⟨gf + 2, 0, none⟩) hgz (.slice A m k)
    change bodyPost _ _ _ _ _ (wn.setCell ⟨gf + 2, 0, none⟩ (.slice A m k))
    generalize wn.setCell ⟨gf + 2, 0, none⟩ (.slice A m k) = Y at hf hr hst ⊢
    clear fc fz p0 p1 p2 p3 p4 p5 p6 p7 ff
    have fz := fs_cell hf
    refine bodyPost_ret (v := .tuple #[fv A m k, .int .i64 10]) (by simp [results, Try.results13, go_sem, *]) rfl ⟨A, k, rfl, hr, hst⟩
  rw [if_neg h2] at hx
  have HV := Lib.hid (find_neg (by simpa using h2))
  clear h2
  by_cases h3 : standsB ns n = false
  · rw [if_pos h3] at hx
    obtain ⟨-, rfl⟩ := Prod.mk.inj hx
    have HS := Lib.hid h3
    clear h3 hx hz hn he
    go_enter Try.func13, Try.ntmps13
    go_upto_region 1 with fail
    change Code.wp _ _ _ _ (((w.alloc (.cells (fcs A m k) 24)).alloc (.cells (ncells n) 26)).alloc (.cells (fcs none 0 0) 24))
    have hgz : w.heap.size ≤ w.heap.size + 2 := by omega
    obtain ⟨gf, hgf⟩ : ∃ g, w.heap.size = g := ⟨_, rfl⟩
    rw [hgf] at HF HN HZ ⊢
    rw [show w.heap.size + 2 = gf + 2 by rw [hgf]] at hgz
    clear hgf
    generalize (((w.alloc (.cells (fcs A m k) 24)).alloc (.cells (ncells n) 26)).alloc (.cells (fcs none 0 0) 24)) = W0 at h0 HF HN HZ ⊢
    replace Ha := Lib.hid (Ha.out.keep h0.out)
    have fc := fs_cell HF.out; have fz := fs_cell HZ.out; obtain ⟨p0, p1, p2, p3, p4, p5, p6, p7⟩ := nd_cells HN.out
    go_upto_region 8 with (first
      | (go_at_call 21; (with_reducible refine (rmay_s ns m Hm.out hl Hs.out _ HM.out A k _ Ha.out).mono ?_); rintro e wn ⟨rfl, hs⟩; replace h0 := Lib.hid (Stp.trans h0.out hs); replace HF := Lib.hid (HF.out.keep hs HF.out.lt); replace HN := Lib.hid (HN.out.keep hs HN.out.lt); replace HZ := Lib.hid (HZ.out.keep hs HZ.out.lt); replace Ha := Lib.hid (Ha.out.keep hs); clear hs; clear fc fz p0 p1 p2 p3 p4 p5 p6 p7; have fc := fs_cell HF.out; have fz := fs_cell HZ.out; obtain ⟨p0, p1, p2, p3, p4, p5, p6, p7⟩ := nd_cells HN.out)
      | (go_at_call 35; (with_reducible refine (rone_n n _ rfl Hsn.out _ HO.out _).mono ?_); rintro e wn ⟨rfl, hs⟩; replace h0 := Lib.hid (Stp.trans h0.out hs); replace HF := Lib.hid (HF.out.keep hs HF.out.lt); replace HN := Lib.hid (HN.out.keep hs HN.out.lt); replace HZ := Lib.hid (HZ.out.keep hs HZ.out.lt); replace Ha := Lib.hid (Ha.out.keep hs); clear hs; clear fc fz p0 p1 p2 p3 p4 p5 p6 p7; have fc := fs_cell HF.out; have fz := fs_cell HZ.out; obtain ⟨p0, p1, p2, p3, p4, p5, p6, p7⟩ := nd_cells HN.out)
      | (go_at_call 36; (with_reducible refine (rfind_n ns m Hm.out hl n.path _ HV.out A k _ Ha.out).mono ?_); rintro e wn ⟨rfl, rfl⟩)
      | (go_at_call 37; (with_reducible refine (rstands_s ns m Hm.out hl n _ rfl Hsn.out _ HS.out A k _ Ha.out).mono ?_); rintro e wn ⟨rfl, hs⟩; replace h0 := Lib.hid (Stp.trans h0.out hs); replace HF := Lib.hid (HF.out.keep hs HF.out.lt); replace HN := Lib.hid (HN.out.keep hs HN.out.lt); replace HZ := Lib.hid (HZ.out.keep hs HZ.out.lt); replace Ha := Lib.hid (Ha.out.keep hs); clear hs; clear fc fz p0 p1 p2 p3 p4 p5 p6 p7; have fc := fs_cell HF.out; have fz := fs_cell HZ.out; obtain ⟨p0, p1, p2, p3, p4, p5, p6, p7⟩ := nd_cells HN.out))
    have ff := HZ.out.free 0
    go_wp2_with fail
    have hf : Blk (wn.setCell ⟨gf + 2, 0, none⟩ (.slice A m k)) (gf + 2) 24 (fcs A m k) := HZ.out.put 0 (.slice A m k)
    have hr := rdn_far Ha.out HZ.out 0 (.slice A m k)
    have hst : Stp w (wn.setCell ⟨gf + 2, 0, none⟩ (.slice A m k)) := Below.setCell h0.out (p := ⟨gf + 2, 0, none⟩) hgz (.slice A m k)
    change bodyPost _ _ _ _ _ (wn.setCell ⟨gf + 2, 0, none⟩ (.slice A m k))
    generalize wn.setCell ⟨gf + 2, 0, none⟩ (.slice A m k) = Y at hf hr hst ⊢
    clear fc fz p0 p1 p2 p3 p4 p5 p6 p7 ff
    have fz := fs_cell hf
    refine bodyPost_ret (v := .tuple #[fv A m k, .int .i64 9]) (by simp [results, Try.results13, go_sem, *]) rfl ⟨A, k, rfl, hr, hst⟩
  rw [if_neg h3] at hx
  have HS := Lib.hid (show standsB ns n = true by simpa using h3)
  clear h3
  by_cases h4 : 20 ≤ ns.length
  · rw [if_pos h4] at hx
    obtain ⟨-, rfl⟩ := Prod.mk.inj hx
    rw [hz] at h4
    have g : decide ((20 : Int) ≤ (m : Int)) = true := decide_eq_true (by omega)
    clear h4 hx hz hn he
    go_enter Try.func13, Try.ntmps13
    go_upto_region 1 with fail
    change Code.wp _ _ _ _ (((w.alloc (.cells (fcs A m k) 24)).alloc (.cells (ncells n) 26)).alloc (.cells (fcs none 0 0) 24))
    have hgz : w.heap.size ≤ w.heap.size + 2 := by omega
    obtain ⟨gf, hgf⟩ : ∃ g, w.heap.size = g := ⟨_, rfl⟩
    rw [hgf] at HF HN HZ ⊢
    rw [show w.heap.size + 2 = gf + 2 by rw [hgf]] at hgz
    clear hgf
    generalize (((w.alloc (.cells (fcs A m k) 24)).alloc (.cells (ncells n) 26)).alloc (.cells (fcs none 0 0) 24)) = W0 at h0 HF HN HZ ⊢
    replace Ha := Lib.hid (Ha.out.keep h0.out)
    have fc := fs_cell HF.out; have fz := fs_cell HZ.out; obtain ⟨p0, p1, p2, p3, p4, p5, p6, p7⟩ := nd_cells HN.out
    go_upto_region 8 with (first
      | (go_at_call 21; (with_reducible refine (rmay_s ns m Hm.out hl Hs.out _ HM.out A k _ Ha.out).mono ?_); rintro e wn ⟨rfl, hs⟩; replace h0 := Lib.hid (Stp.trans h0.out hs); replace HF := Lib.hid (HF.out.keep hs HF.out.lt); replace HN := Lib.hid (HN.out.keep hs HN.out.lt); replace HZ := Lib.hid (HZ.out.keep hs HZ.out.lt); replace Ha := Lib.hid (Ha.out.keep hs); clear hs; clear fc fz p0 p1 p2 p3 p4 p5 p6 p7; have fc := fs_cell HF.out; have fz := fs_cell HZ.out; obtain ⟨p0, p1, p2, p3, p4, p5, p6, p7⟩ := nd_cells HN.out)
      | (go_at_call 35; (with_reducible refine (rone_n n _ rfl Hsn.out _ HO.out _).mono ?_); rintro e wn ⟨rfl, hs⟩; replace h0 := Lib.hid (Stp.trans h0.out hs); replace HF := Lib.hid (HF.out.keep hs HF.out.lt); replace HN := Lib.hid (HN.out.keep hs HN.out.lt); replace HZ := Lib.hid (HZ.out.keep hs HZ.out.lt); replace Ha := Lib.hid (Ha.out.keep hs); clear hs; clear fc fz p0 p1 p2 p3 p4 p5 p6 p7; have fc := fs_cell HF.out; have fz := fs_cell HZ.out; obtain ⟨p0, p1, p2, p3, p4, p5, p6, p7⟩ := nd_cells HN.out)
      | (go_at_call 36; (with_reducible refine (rfind_n ns m Hm.out hl n.path _ HV.out A k _ Ha.out).mono ?_); rintro e wn ⟨rfl, rfl⟩)
      | (go_at_call 37; (with_reducible refine (rstands_s ns m Hm.out hl n _ rfl Hsn.out _ HS.out A k _ Ha.out).mono ?_); rintro e wn ⟨rfl, hs⟩; replace h0 := Lib.hid (Stp.trans h0.out hs); replace HF := Lib.hid (HF.out.keep hs HF.out.lt); replace HN := Lib.hid (HN.out.keep hs HN.out.lt); replace HZ := Lib.hid (HZ.out.keep hs HZ.out.lt); replace Ha := Lib.hid (Ha.out.keep hs); clear hs; clear fc fz p0 p1 p2 p3 p4 p5 p6 p7; have fc := fs_cell HF.out; have fz := fs_cell HZ.out; obtain ⟨p0, p1, p2, p3, p4, p5, p6, p7⟩ := nd_cells HN.out))
    have ff := HZ.out.free 0
    go_wp2_with fail
    have hf : Blk (wn.setCell ⟨gf + 2, 0, none⟩ (.slice A m k)) (gf + 2) 24 (fcs A m k) := HZ.out.put 0 (.slice A m k)
    have hr := rdn_far Ha.out HZ.out 0 (.slice A m k)
    have hst : Stp w (wn.setCell ⟨gf + 2, 0, none⟩ (.slice A m k)) := Below.setCell h0.out (p := ⟨gf + 2, 0, none⟩) hgz (.slice A m k)
    change bodyPost _ _ _ _ _ (wn.setCell ⟨gf + 2, 0, none⟩ (.slice A m k))
    generalize wn.setCell ⟨gf + 2, 0, none⟩ (.slice A m k) = Y at hf hr hst ⊢
    clear fc fz p0 p1 p2 p3 p4 p5 p6 p7 ff
    have fz := fs_cell hf
    refine bodyPost_ret (v := .tuple #[fv A m k, .int .i64 8]) (by simp [results, Try.results13, go_sem, *]) rfl ⟨A, k, rfl, hr, hst⟩
  rw [if_neg h4] at hx
  exact absurd (Prod.mk.inj hx).2.symm he
set_option maxRecDepth 100000 in
set_option maxHeartbeats 8000000 in
theorem rput_yes (ns : List Nd) (m : Nat) (hm : ns.length = m) (hl : m < 9223372036854775808) (hs : ∀ n ∈ ns, SmallN n) (n : Nd) (hn : SmallN n) (h1 : mayF ns = true) (h2 : oneB n = true) (h3 : (findN n.path ns).isSome = false) (h4 : standsB ns n = true) (h5 : m < 20) (A : Option Addr) (k : Nat) (w : World) (ha : RdN w A k ns) :
    Calls Try.prog 13 #[fv A m k, nv n] w fun e w' => ∃ B d, e = .returned (.tuple #[fv B (m + 1) d, .int .i64 0]) ∧ RdN w' B d (insF n ns) ∧ Stp w w' := by
  obtain ⟨i0, hi, hz0, hsz, hby⟩ := info_parts node_info
  have Hsn := Lib.hid hn
  have HM := Lib.hid h1
  have HO := Lib.hid h2
  have HV := Lib.hid (find_neg h3)
  have HS := Lib.hid h4
  have g20 : decide ((20 : Int) ≤ (m : Int)) = false := decide_eq_false (by omega)
  have Ha := Lib.hid ha
  have Hm := Lib.hid hm
  have Hs := Lib.hid hs
  clear ha hm hs
  have h0 := Lib.hid (Stp.alloc (Stp.refl w) (.cells (fcs A m k) 24))
  have HF := Lib.hid (Blk.new w 24 (fcs A m k))
  have HN := Lib.hid (by have h := Blk.new (w.alloc (.cells (fcs A m k) 24)) 26 (ncells n); simp only [World.size_alloc] at h; exact h)
  replace HF := Lib.hid (HF.out.alloc (.cells (ncells n) 26))
  replace h0 := Lib.hid (Stp.alloc h0.out (.cells (ncells n) 26))
  have HZ := Lib.hid (by have h := Blk.new ((w.alloc (.cells (fcs A m k) 24)).alloc (.cells (ncells n) 26)) 24 (fcs none 0 0); simp only [World.size_alloc, Nat.add_assoc, Nat.reduceAdd] at h; exact h)
  replace HF := Lib.hid (HF.out.alloc (.cells (fcs none 0 0) 24))
  replace HN := Lib.hid (HN.out.alloc (.cells (fcs none 0 0) 24))
  replace h0 := Lib.hid (Stp.alloc h0.out (.cells (fcs none 0 0) 24))
  clear h1 h2 h3 h4 hn
  go_enter Try.func13, Try.ntmps13
  go_upto_region 1 with fail
  change Code.wp _ _ _ _ (((w.alloc (.cells (fcs A m k) 24)).alloc (.cells (ncells n) 26)).alloc (.cells (fcs none 0 0) 24))
  have hgz : w.heap.size ≤ w.heap.size + 2 := by omega
  obtain ⟨gf, hgf⟩ : ∃ g, w.heap.size = g := ⟨_, rfl⟩
  rw [hgf] at HF HN HZ ⊢
  rw [show w.heap.size + 2 = gf + 2 by rw [hgf]] at hgz
  clear hgf
  generalize (((w.alloc (.cells (fcs A m k) 24)).alloc (.cells (ncells n) 26)).alloc (.cells (fcs none 0 0) 24)) = W0 at h0 HF HN HZ ⊢
  replace Ha := Lib.hid (Ha.out.keep h0.out)
  have fc := fs_cell HF.out; have fz := fs_cell HZ.out; obtain ⟨p0, p1, p2, p3, p4, p5, p6, p7⟩ := nd_cells HN.out
  go_upto_region 15 with (first
    | (go_at_call 21; (with_reducible refine (rmay_s ns m Hm.out hl Hs.out _ HM.out A k _ Ha.out).mono ?_); rintro e wn ⟨rfl, hs⟩; replace h0 := Lib.hid (Stp.trans h0.out hs); replace HF := Lib.hid (HF.out.keep hs HF.out.lt); replace HN := Lib.hid (HN.out.keep hs HN.out.lt); replace HZ := Lib.hid (HZ.out.keep hs HZ.out.lt); replace Ha := Lib.hid (Ha.out.keep hs); clear hs; clear fc fz p0 p1 p2 p3 p4 p5 p6 p7; have fc := fs_cell HF.out; have fz := fs_cell HZ.out; obtain ⟨p0, p1, p2, p3, p4, p5, p6, p7⟩ := nd_cells HN.out)
    | (go_at_call 35; (with_reducible refine (rone_n n _ rfl Hsn.out _ HO.out _).mono ?_); rintro e wn ⟨rfl, hs⟩; replace h0 := Lib.hid (Stp.trans h0.out hs); replace HF := Lib.hid (HF.out.keep hs HF.out.lt); replace HN := Lib.hid (HN.out.keep hs HN.out.lt); replace HZ := Lib.hid (HZ.out.keep hs HZ.out.lt); replace Ha := Lib.hid (Ha.out.keep hs); clear hs; clear fc fz p0 p1 p2 p3 p4 p5 p6 p7; have fc := fs_cell HF.out; have fz := fs_cell HZ.out; obtain ⟨p0, p1, p2, p3, p4, p5, p6, p7⟩ := nd_cells HN.out)
    | (go_at_call 36; (with_reducible refine (rfind_n ns m Hm.out hl n.path _ HV.out A k _ Ha.out).mono ?_); rintro e wn ⟨rfl, rfl⟩)
    | (go_at_call 37; (with_reducible refine (rstands_s ns m Hm.out hl n _ rfl Hsn.out _ HS.out A k _ Ha.out).mono ?_); rintro e wn ⟨rfl, hs⟩; replace h0 := Lib.hid (Stp.trans h0.out hs); replace HF := Lib.hid (HF.out.keep hs HF.out.lt); replace HN := Lib.hid (HN.out.keep hs HN.out.lt); replace HZ := Lib.hid (HZ.out.keep hs HZ.out.lt); replace Ha := Lib.hid (Ha.out.keep hs); clear hs; clear fc fz p0 p1 p2 p3 p4 p5 p6 p7; have fc := fs_cell HF.out; have fz := fs_cell HZ.out; obtain ⟨p0, p1, p2, p3, p4, p5, p6, p7⟩ := nd_cells HN.out))
  obtain ⟨W1, hW1⟩ : ∃ W, W = wn := ⟨_, rfl⟩
  subst hW1
  go_loopw [9, 10, 11] (fun vo vi iv wr => ∃ (j : Nat) (q : Bool) (X : List Nd) (y : Nat), j ≤ m ∧ iv = .int .i64 (j : Int) ∧ vi = .bool q ∧ Hid (X.length = y) ∧ Hid ((q = false ∧ X = ns.take j ∧ ∀ x ∈ ns.take j, ¬ n.path < x.path) ∨ (q = true ∧ X = insF n (ns.take j) ∧ ∃ x ∈ ns.take j, n.path < x.path)) ∧ Hid (wr.ownsRow W1.heap.size 26 8 vo y (ntc X)) ∧ Hid (Stp W1 wr)) (fun _ _ iv _ => m - (intOf iv).toNat)
  case atStart => exact ⟨0, false, [], 0, by omega, rfl, rfl, Lib.hid rfl, Lib.hid (.inl ⟨rfl, rfl, fun x hx => absurd hx List.not_mem_nil⟩), Lib.hid (World.ownsRow_nil _ _ _ _), Lib.hid (Stp.refl _)⟩
  case round =>
    obtain ⟨j, q, X, y, hj, rfl, rfl, HX, HQ, Hv, H1⟩ := hrel
    have HL : Hid (y ≤ 20) := Lib.hid (by
      rcases HQ.out with ⟨-, h, -⟩ | ⟨-, h, -⟩
      · rw [← HX.out, h, List.length_take]; omega
      · rw [← HX.out, h, ins_length, List.length_take]; omega)
    clear fc fz p0 p1 p2 p3 p4 p5 p6 p7
    have fc := fs_cell (HF.out.keep H1.out HF.out.lt); obtain ⟨p0, p1, p2, p3, p4, p5, p6, p7⟩ := nd_cells (HN.out.keep H1.out HN.out.lt)
    by_cases hlt : j < m
    · obtain ⟨x, hx⟩ : ∃ x, ns[j]? = some x := ⟨_, List.getElem?_eq_getElem (by rw [Hm.out]; exact hlt)⟩
      obtain ⟨b, o, rfl, -, q0, q1, q2, q3, q4, q5, q6, q7⟩ := (Ha.out.keep H1.out).cells hx
      have Hx := Lib.hid hx
      have Htk : Hid (ns.take (j + 1) = ns.take j ++ [x]) := Lib.hid (by rw [List.take_add_one, hx]; rfl)
      have g5 : decide ((j : Int) < (m : Int)) = true := decide_eq_true (by omega)
      obtain ⟨b1, hb1⟩ : ∃ y, Op.bytesLess x.path n.path = y := ⟨_, rfl⟩
      obtain ⟨b4, hb4⟩ : ∃ y, (x.path == n.path) = y := ⟨_, rfl⟩
      clear hx
      go_upto_region 17 with fail
      have vf := cell_regrown fc
      have v0 := cell_regrown q0
      have u0 := cell_regrown p0
      clear fc p0 p1 p2 p3 p4 p5 p6 p7
      clear q0 q1 q2 q3 q4 q5 q6 q7
      have key : (q = false ∧ b1 = true ∧ Hid (¬ n.path < x.path)) ∨ (q = false ∧ b1 = false ∧ b4 = true ∧ Hid (¬ n.path < x.path)) ∨ (q = false ∧ b1 = false ∧ b4 = false ∧ Hid (n.path < x.path)) ∨ q = true := by
        cases q
        · rcases Tree.tri n.path x.path with h | h | h
          · exact .inr (.inr (.inl ⟨rfl, by rw [← hb1, Go.Proofs.bytesLess_eq]; exact decide_eq_false (fun h2 => List.lt_irrefl _ (List.lt_trans h h2)), by rw [← hb4]; exact beq_eq_false_iff_ne.2 (fun e => by rw [e] at h; exact List.lt_irrefl _ h), Lib.hid h⟩))
          · exact .inr (.inl ⟨rfl, by rw [← hb1, h, Go.Proofs.bytesLess_eq]; exact decide_eq_false (List.lt_irrefl _), by rw [← hb4, h]; exact beq_self_eq_true _, Lib.hid (by rw [h]; exact List.lt_irrefl _)⟩)
          · exact .inl ⟨rfl, by rw [← hb1, Go.Proofs.bytesLess_eq]; exact decide_eq_true h, Lib.hid (fun h2 => List.lt_irrefl _ (List.lt_trans h h2))⟩
        · exact .inr (.inr (.inr rfl))
      rcases key with ⟨rfl, rfl, Hno⟩ | ⟨rfl, rfl, rfl, Hno⟩ | ⟨rfl, rfl, rfl, Hyes⟩ | rfl
      all_goals
        refine wp_region_quiet_below (by kernel_rfl) (by kernel_rfl) ?_
        repeat (go_big_quiet_step (fail))
        refine wpQuiet_nil ?_
        intro _ hw'
        obtain ⟨⟨dq, osq⟩, hw''⟩ := hw'
        subst hw''
        have X9 := Lib.hid (show Stp wr (grow (redrawn wr dq) osq) from below_regrown wr dq osq)
        clear vf v0 u0
        generalize grow (redrawn wr dq) osq = Y at X9 ⊢
        replace H1 := Lib.hid (Stp.trans H1.out X9.out)
        replace Hv := Lib.hid (row_keep Hv.out X9.out)
        clear X9
        have fc := fs_cell (HF.out.keep H1.out HF.out.lt)
        obtain ⟨p0, p1, p2, p3, p4, p5, p6, p7⟩ := nd_cells (HN.out.keep H1.out HN.out.lt)
        obtain ⟨b2, o2, e2, -, q0, q1, q2, q3, q4, q5, q6, q7⟩ := (Ha.out.keep H1.out).cells Hx.out
        cases e2
      · go_wp2_with (at_builtin; refine wpList_append_own (P := Try.prog) _ rfl (.tmp 65) (.tmp 71) 22 rfl W1.heap.size 26 i0 _ 8 88 Try.underlying22 hi hz0 hsz hby rfl (by decide) _ _ _ rfl (Hv.out.alloc _) ⟨Y.heap.size, 0, none⟩ 1 1 (ncells x).toList rfl rfl (lit_cells x Y _) (lit_one x) (by have := HL.out; unfold maxLen; omega) (by have := HL.out; omega) (by rw [World.size_alloc]; have := H1.out.size; omega) ?_; intro v4 w4 hv' hg4 _; have H4 := Lib.hid (row_stp (Hv.out.alloc _) (Stp.alloc H1.out _) (Nat.le_refl _) hg4); have Hv4 := Lib.hid hv'; clear hv' hg4 fc p0 p1 p2 p3 p4 p5 p6 p7 q0 q1 q2 q3 q4 q5 q6 q7)
        have Hq : Hid ((false = false ∧ ns.take (j + 1) = ns.take (j + 1) ∧ ∀ x ∈ ns.take (j + 1), ¬ n.path < x.path) ∨ (false = true ∧ ns.take (j + 1) = insF n (ns.take (j + 1)) ∧ ∃ x ∈ ns.take (j + 1), n.path < x.path)) := Lib.hid (by
          rcases HQ.out with ⟨-, -, h⟩ | ⟨h, -⟩
          · refine .inl ⟨rfl, rfl, fun a ha => ?_⟩
            rw [Htk.out] at ha
            rcases List.mem_append.1 ha with ha | ha
            · exact h a ha
            · rw [List.mem_singleton.1 ha]; exact Hno.out
          · cases h)
        have eX : X = ns.take j := by
          rcases HQ.out with ⟨-, h, -⟩ | ⟨h, -⟩
          · exact h
          · cases h
        have Hv5 : Hid (w4.ownsRow W1.heap.size 26 8 v4 (y + 1) (ntc (ns.take (j + 1)))) := Lib.hid (by rw [Htk.out, ntc_append, ← eX]; exact Hv4.out)
        have HX5 : Hid ((ns.take (j + 1)).length = y + 1) := Lib.hid (by rw [Htk.out, List.length_append, ← eX, HX.out]; rfl)
        go_roundw
        case rel => exact ⟨j + 1, false, ns.take (j + 1), y + 1, by omega, by go_num, rfl, HX5, Hq, Hv5, H4⟩
        case measure => simp [intOf]; omega
      · go_wp2_with (at_builtin; refine wpList_append_own (P := Try.prog) _ rfl (.tmp 65) (.tmp 71) 22 rfl W1.heap.size 26 i0 _ 8 88 Try.underlying22 hi hz0 hsz hby rfl (by decide) _ _ _ rfl (Hv.out.alloc _) ⟨Y.heap.size, 0, none⟩ 1 1 (ncells x).toList rfl rfl (lit_cells x Y _) (lit_one x) (by have := HL.out; unfold maxLen; omega) (by have := HL.out; omega) (by rw [World.size_alloc]; have := H1.out.size; omega) ?_; intro v4 w4 hv' hg4 _; have H4 := Lib.hid (row_stp (Hv.out.alloc _) (Stp.alloc H1.out _) (Nat.le_refl _) hg4); have Hv4 := Lib.hid hv'; clear hv' hg4 fc p0 p1 p2 p3 p4 p5 p6 p7 q0 q1 q2 q3 q4 q5 q6 q7)
        have Hq : Hid ((false = false ∧ ns.take (j + 1) = ns.take (j + 1) ∧ ∀ x ∈ ns.take (j + 1), ¬ n.path < x.path) ∨ (false = true ∧ ns.take (j + 1) = insF n (ns.take (j + 1)) ∧ ∃ x ∈ ns.take (j + 1), n.path < x.path)) := Lib.hid (by
          rcases HQ.out with ⟨-, -, h⟩ | ⟨h, -⟩
          · refine .inl ⟨rfl, rfl, fun a ha => ?_⟩
            rw [Htk.out] at ha
            rcases List.mem_append.1 ha with ha | ha
            · exact h a ha
            · rw [List.mem_singleton.1 ha]; exact Hno.out
          · cases h)
        have eX : X = ns.take j := by
          rcases HQ.out with ⟨-, h, -⟩ | ⟨h, -⟩
          · exact h
          · cases h
        have Hv5 : Hid (w4.ownsRow W1.heap.size 26 8 v4 (y + 1) (ntc (ns.take (j + 1)))) := Lib.hid (by rw [Htk.out, ntc_append, ← eX]; exact Hv4.out)
        have HX5 : Hid ((ns.take (j + 1)).length = y + 1) := Lib.hid (by rw [Htk.out, List.length_append, ← eX, HX.out]; rfl)
        go_roundw
        case rel => exact ⟨j + 1, false, ns.take (j + 1), y + 1, by omega, by go_num, rfl, HX5, Hq, Hv5, H4⟩
        case measure => simp [intOf]; omega
      · go_wp2_with (first
          | (at_builtin; refine wpList_append_own (P := Try.prog) _ rfl (.tmp 61) (.tmp 63) 22 rfl W1.heap.size 26 i0 _ 8 88 Try.underlying22 hi hz0 hsz hby rfl (by decide) _ _ _ rfl (Hv.out.alloc _) ⟨Y.heap.size, 0, none⟩ 1 1 (ncells n).toList rfl rfl (lit_cells n Y _) (lit_one n) (by have := HL.out; unfold maxLen; omega) (by have := HL.out; omega) (by rw [World.size_alloc]; have := H1.out.size; omega) ?_; intro v4 w4 hv' hg4 _; have H4 := Lib.hid (row_stp (Hv.out.alloc _) (Stp.alloc H1.out _) (Nat.le_refl _) hg4); have Hv4 := Lib.hid hv'; clear hv' hg4 fc p0 p1 p2 p3 p4 p5 p6 p7 q0 q1 q2 q3 q4 q5 q6 q7; have fc := fs_cell (HF.out.keep H4.out HF.out.lt); obtain ⟨p0, p1, p2, p3, p4, p5, p6, p7⟩ := nd_cells (HN.out.keep H4.out HN.out.lt); obtain ⟨b3, o3, e3, -, q0, q1, q2, q3, q4, q5, q6, q7⟩ := (Ha.out.keep H4.out).cells Hx.out; cases e3)
          | (at_builtin; refine wpList_append_own (P := Try.prog) _ rfl (.tmp 65) (.tmp 71) 22 rfl W1.heap.size 26 i0 _ 8 88 Try.underlying22 hi hz0 hsz hby rfl (by decide) _ _ _ rfl (Hv4.out.alloc _) ⟨w4.heap.size, 0, none⟩ 1 1 (ncells x).toList rfl rfl (lit_cells x w4 _) (lit_one x) (by have := HL.out; unfold maxLen; omega) (by have := HL.out; omega) (by rw [World.size_alloc]; have := H4.out.size; omega) ?_; intro v5 w5 hv' hg4 _; have H5 := Lib.hid (row_stp (Hv4.out.alloc _) (Stp.alloc H4.out _) (Nat.le_refl _) hg4); have Hv5 := Lib.hid hv'; clear hv' hg4 fc p0 p1 p2 p3 p4 p5 p6 p7 q0 q1 q2 q3 q4 q5 q6 q7))
        have eX : X = ns.take j ∧ ∀ x ∈ ns.take j, ¬ n.path < x.path := by
          rcases HQ.out with ⟨-, h, h2⟩ | ⟨h, -⟩
          · exact ⟨h, h2⟩
          · cases h
        have hlt2 : n.path < x.path := Hyes.out
        have eI : insF n (ns.take (j + 1)) = ns.take j ++ ([n] ++ [x]) := by
          rw [Htk.out, ins_skip eX.2, insF, if_pos hlt2]; rfl
        have Hq : Hid ((true = false ∧ insF n (ns.take (j + 1)) = ns.take (j + 1) ∧ ∀ x ∈ ns.take (j + 1), ¬ n.path < x.path) ∨ (true = true ∧ insF n (ns.take (j + 1)) = insF n (ns.take (j + 1)) ∧ ∃ x ∈ ns.take (j + 1), n.path < x.path)) := Lib.hid (.inr ⟨rfl, rfl, x, by rw [Htk.out]; exact List.mem_append_right _ (List.mem_singleton_self _), hlt2⟩)
        have Hv6 : Hid (w5.ownsRow W1.heap.size 26 8 v5 (y + 1 + 1) (ntc (insF n (ns.take (j + 1))))) := Lib.hid (by rw [eI, ← List.append_assoc, ntc_append, ntc_append, ← eX.1]; exact Hv5.out)
        have HX5 : Hid ((insF n (ns.take (j + 1))).length = y + 1 + 1) := Lib.hid (by rw [eI, ← eX.1, List.length_append, HX.out]; rfl)
        go_roundw
        case rel => exact ⟨j + 1, true, insF n (ns.take (j + 1)), y + 1 + 1, by omega, by go_num, rfl, HX5, Hq, Hv6, H5⟩
        case measure => simp [intOf]; omega
      · go_wp2_with (at_builtin; refine wpList_append_own (P := Try.prog) _ rfl (.tmp 65) (.tmp 71) 22 rfl W1.heap.size 26 i0 _ 8 88 Try.underlying22 hi hz0 hsz hby rfl (by decide) _ _ _ rfl (Hv.out.alloc _) ⟨Y.heap.size, 0, none⟩ 1 1 (ncells x).toList rfl rfl (lit_cells x Y _) (lit_one x) (by have := HL.out; unfold maxLen; omega) (by have := HL.out; omega) (by rw [World.size_alloc]; have := H1.out.size; omega) ?_; intro v4 w4 hv' hg4 _; have H4 := Lib.hid (row_stp (Hv.out.alloc _) (Stp.alloc H1.out _) (Nat.le_refl _) hg4); have Hv4 := Lib.hid hv'; clear hv' hg4 fc p0 p1 p2 p3 p4 p5 p6 p7 q0 q1 q2 q3 q4 q5 q6 q7)
        have eX : X = insF n (ns.take j) ∧ ∃ x ∈ ns.take j, n.path < x.path := by
          rcases HQ.out with ⟨h, -⟩ | ⟨-, h, h2⟩
          · cases h
          · exact ⟨h, h2⟩
        have eI : insF n (ns.take (j + 1)) = X ++ [x] := by rw [Htk.out, ins_stop eX.2, ← eX.1]
        have Hq : Hid ((true = false ∧ insF n (ns.take (j + 1)) = ns.take (j + 1) ∧ ∀ x ∈ ns.take (j + 1), ¬ n.path < x.path) ∨ (true = true ∧ insF n (ns.take (j + 1)) = insF n (ns.take (j + 1)) ∧ ∃ x ∈ ns.take (j + 1), n.path < x.path)) := Lib.hid (by
          obtain ⟨a, h1, h2⟩ := eX.2
          exact .inr ⟨rfl, rfl, a, by rw [Htk.out]; exact List.mem_append_left _ h1, h2⟩)
        have Hv5 : Hid (w4.ownsRow W1.heap.size 26 8 v4 (y + 1) (ntc (insF n (ns.take (j + 1))))) := Lib.hid (by rw [eI, ntc_append]; exact Hv4.out)
        have HX5 : Hid ((insF n (ns.take (j + 1))).length = y + 1) := Lib.hid (by rw [eI, List.length_append, HX.out]; rfl)
        go_roundw
        case rel => exact ⟨j + 1, true, insF n (ns.take (j + 1)), y + 1, by omega, by go_num, rfl, HX5, Hq, Hv5, H4⟩
        case measure => simp [intOf]; omega
    · obtain rfl : j = m := by omega
      have htake : ns.take j = ns := List.take_of_length_le (by rw [Hm.out]; exact Nat.le_refl _)
      rw [htake] at HQ
      have g5 : decide ((j : Int) < (j : Int)) = false := decide_eq_false (by omega)
      clear htake hlt
      cases q
      · go_upto_region 23 with (at_builtin; refine wpList_append_own (P := Try.prog) _ rfl (.tmp 75) (.tmp 77) 22 rfl W1.heap.size 26 i0 _ 8 88 Try.underlying22 hi hz0 hsz hby rfl (by decide) _ _ _ rfl (Hv.out.alloc _) ⟨wr.heap.size, 0, none⟩ 1 1 (ncells n).toList rfl rfl (lit_cells n wr _) (lit_one n) (by have := HL.out; unfold maxLen; omega) (by have := HL.out; omega) (by rw [World.size_alloc]; have := H1.out.size; omega) ?_; intro v4 w4 hv' hg4 _; have H4 := Lib.hid (row_stp (Hv.out.alloc _) (Stp.alloc H1.out _) (Nat.le_refl _) hg4); have Hv4 := Lib.hid hv'; clear hv' hg4 fc p0 p1 p2 p3 p4 p5 p6 p7)
        have eI : insF n ns = X ++ [n] := by
          rcases HQ.out with ⟨-, h, h2⟩ | ⟨h, -⟩
          · have := ins_skip (ys := []) h2
            rw [List.append_nil] at this
            rw [this, h]; rfl
          · cases h
        obtain ⟨A4, c4, e4, hr4⟩ := RdN.of_row (ns := insF n ns) (lo := W1.heap.size) (v := v4) (w := w4) (e := 26) (by rw [ins_length, Hm.out, eI, ntc_append]; have h := Hv4.out; rwa [show y = j by rw [← HX.out, show X.length = j from by have := congrArg List.length eI; rw [ins_length, List.length_append, Hm.out] at this; simpa using this.symm]] at h)
        rw [ins_length, Hm.out] at e4
        subst e4
        have HR := Lib.hid hr4
        clear eI hr4
        replace h0 := Lib.hid (Stp.trans h0.out H4.out); replace HZ := Lib.hid (HZ.out.keep H4.out HZ.out.lt); have fz := fs_cell HZ.out
        have ff := HZ.out.free 0
        go_wp2_with fail
        have hf : Blk (w4.setCell ⟨gf + 2, 0, none⟩ (.slice A4 (j + 1) c4)) (gf + 2) 24 (fcs A4 (j + 1) c4) := HZ.out.put 0 (.slice A4 (j + 1) c4)
        have hr := rdn_far HR.out HZ.out 0 (.slice A4 (j + 1) c4)
        have hst : Stp w (w4.setCell ⟨gf + 2, 0, none⟩ (.slice A4 (j + 1) c4)) := Below.setCell h0.out (p := ⟨gf + 2, 0, none⟩) hgz (.slice A4 (j + 1) c4)
        change bodyPost _ _ _ _ _ (w4.setCell ⟨gf + 2, 0, none⟩ (.slice A4 (j + 1) c4))
        generalize wn.setCell ⟨gf + 2, 0, none⟩ (.slice A4 (j + 1) c4) = Y at hf hr hst ⊢
        clear fz ff
        have fz := fs_cell hf
        refine bodyPost_ret (v := .tuple #[fv A4 (j + 1) c4, .int .i64 0]) (by simp [results, Try.results13, go_sem, *]) rfl ⟨A4, c4, rfl, hr, hst⟩
      · have eI : X = insF n ns := by
          rcases HQ.out with ⟨h, -⟩ | ⟨-, h, -⟩
          · cases h
          · exact h
        obtain ⟨A4, c4, e4, hr4⟩ := RdN.of_row (ns := insF n ns) (lo := W1.heap.size) (w := wr) (e := 26) (by rw [← eI, HX.out]; exact Hv.out)
        rw [ins_length, Hm.out] at e4
        subst e4
        have HR := Lib.hid hr4
        clear eI hr4
        have H4 := H1
        replace h0 := Lib.hid (Stp.trans h0.out H4.out); replace HZ := Lib.hid (HZ.out.keep H4.out HZ.out.lt); have fz := fs_cell HZ.out
        go_upto_region 23 with fail
        have ff := HZ.out.free 0
        go_wp2_with fail
        have hf : Blk (wr.setCell ⟨gf + 2, 0, none⟩ (.slice A4 (j + 1) c4)) (gf + 2) 24 (fcs A4 (j + 1) c4) := HZ.out.put 0 (.slice A4 (j + 1) c4)
        have hr := rdn_far HR.out HZ.out 0 (.slice A4 (j + 1) c4)
        have hst : Stp w (wr.setCell ⟨gf + 2, 0, none⟩ (.slice A4 (j + 1) c4)) := Below.setCell h0.out (p := ⟨gf + 2, 0, none⟩) hgz (.slice A4 (j + 1) c4)
        change bodyPost _ _ _ _ _ (wr.setCell ⟨gf + 2, 0, none⟩ (.slice A4 (j + 1) c4))
        generalize wn.setCell ⟨gf + 2, 0, none⟩ (.slice A4 (j + 1) c4) = Y at hf hr hst ⊢
        clear fz ff fc p0 p1 p2 p3 p4 p5 p6 p7
        have fz := fs_cell hf
        refine bodyPost_ret (v := .tuple #[fv A4 (j + 1) c4, .int .i64 0]) (by simp [results, Try.results13, go_sem, *]) rfl ⟨A4, c4, rfl, hr, hst⟩
theorem rput_s (ns : List Nd) (m : Nat) (hm : ns.length = m) (hl : m < 9223372036854775808) (hs : ∀ n ∈ ns, SmallN n) (n : Nd) (hn : SmallN n) (ms : List Nd) (e0 : Int) (hx : putF ns n = (ms, e0)) (z : Nat) (hz : ms.length = z) (A : Option Addr) (k : Nat) (w : World) (ha : RdN w A k ns) :
    Calls Try.prog 13 #[fv A m k, nv n] w fun e w' => ∃ B d, e = .returned (.tuple #[fv B z d, .int .i64 e0]) ∧ RdN w' B d ms ∧ Stp w w' := by
  by_cases he : e0 = 0
  · subst he
    obtain ⟨h1, h2, h3, h4, h5, h6⟩ := put_ok (ns := ns) (n := n) (by rw [hx])
    rw [hx] at h6
    dsimp only at h6
    subst h6
    rw [ins_length, hm] at hz
    subst hz
    exact rput_yes ns m hm hl hs n hn h1 h2 h3 h4 (by rw [← hm]; exact h5) A k w ha
  · exact rput_no ns m hm hl hs n hn ms e0 hx he z hz A k w ha
end Go.Proofs.Ytjddgmdbgajjpaa.Fs
