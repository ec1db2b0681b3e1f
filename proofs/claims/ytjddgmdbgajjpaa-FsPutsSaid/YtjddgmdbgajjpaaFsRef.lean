/-
  The document's answers of package fs: its May, Same, Get, Text: no statement is proved here.
-/
import Derived.Test.YtjddgmdbgajjpaaFsI
import Derived.Deep.RegionWith
import Derived.Deep.RegionLaw
import Derived.BigQuiet
import Derived.Lib.QuietBelow
import Derived.Deep.Cut
import Derived.Deep.CutRange
namespace Go.Proofs.Ytjddgmdbgajjpaa.Fs
open Go.Sort Go.RowKit Go.Proofs.Ytjddgmdbgajjpaa.Str Go.Proofs.Ytjddgmdbgajjpaa.Base Go.Proofs.Ytjddgmdbgajjpaa.Node Go.Proofs.Ytjddgmdbgajjpaa.Long Go.Proofs.Ytjddgmdbgajjpaa.FsM
open Go.Proofs.Ytjddgmdbgajjpaa.Tree (oneB mayT fewT nodeA nodeB findN findV hasB riseB findN_lt findN_bound)
set_option linter.unusedVariables false
theorem rfind_n (ns : List Nd) (m : Nat) (hm : ns.length = m) (hl : m < 9223372036854775808) (p : List UInt8) (i : Int) (hi : findV ns p = i) (A : Option Addr) (c : Nat) (w : World) (ha : RdN w A c ns) :
    Calls Try.prog 36 #[.slice A m c, .string ⟨p.toArray⟩] w fun e w' => e = .returned (.int .i64 i) ∧ w' = w := by
  subst hm hi
  exact Tree.rfind_s ns p A c w ha hl
theorem rone_n (n : Nd) (v : Value) (hv : v = nv n) (hn : SmallN n) (b : Bool) (hb : oneB n = b) (w : World) :
    Calls Try.prog 35 #[v] w fun e w' => e = .returned (.bool b) ∧ Stp w w' := by
  subst hv hb
  exact Tree.rone_s n hn w
theorem rpar_n (p : List UInt8) (hp : p.length ≤ 9223372036854775807) (q : List UInt8) (hq : PathM.parV p = q) (b : Bool) (hb : PathM.parB p = b) (w : World) :
    Calls Try.prog 60 #[.string ⟨p.toArray⟩] w fun e w' => e = .returned (.tuple #[.string ⟨q.toArray⟩, .bool b]) ∧ Stp w w' := by
  subst hq hb
  exact Path.rparent_s p w hp
theorem kind_beq (n : Nd) (kd : UInt8) : ((n.kind.toNat : Int) == (kd.toNat : Int)) = decide (n.kind = kd) := by
  rw [Bool.eq_iff_iff, beq_iff_eq, decide_eq_true_eq]
  exact ⟨fun h => UInt8.toNat_inj.1 (by omega), fun h => by rw [h]⟩
set_option maxRecDepth 100000 in
set_option maxHeartbeats 2000000 in
theorem rhas_s (ns : List Nd) (m : Nat) (hm : ns.length = m) (hl : m < 9223372036854775808) (p : List UInt8) (kd : UInt8) (kk : Int) (hkk : kk = (kd.toNat : Int)) (b : Bool) (hb : hasB ns p kd = b) (A : Option Addr) (k : Nat) (w : World) (ha : RdN w A k ns) :
    Calls Try.prog 38 #[fv A m k, .string ⟨p.toArray⟩, .int .u8 kk] w fun e w' => e = .returned (.bool b) ∧ Stp w w' := by
  subst hkk hb
  have Ha := Lib.hid ha
  have Hm := Lib.hid hm
  clear ha hm
  have h0 := Lib.hid (Stp.alloc (Stp.refl w) (.cells (fcs A m k) 24))
  have HF := Lib.hid (Blk.new w 24 (fcs A m k))
  cases hf : findN p ns with
  | none =>
    have Hv := Lib.hid (show findV ns p = -1 by rw [findV, hf])
    rw [show hasB ns p kd = false by rw [hasB, hf]]
    clear hf
    go_enter Try.func38, Try.ntmps38
    go_upto_region 1 with fail
    change Code.wp _ _ _ _ (w.alloc (.cells (fcs A m k) 24))
    obtain ⟨gf, hgf⟩ : ∃ g, w.heap.size = g := ⟨_, rfl⟩
    rw [hgf] at HF ⊢
    clear hgf
    generalize w.alloc (.cells (fcs A m k) 24) = W0 at h0 HF ⊢
    replace Ha := Lib.hid (Ha.out.keep h0.out)
    have fc := fs_cell HF.out
    go_wp2_with (go_at_call 36; (with_reducible refine (rfind_n ns m Hm.out hl p _ Hv.out A k _ Ha.out).mono ?_); rintro e w' ⟨rfl, rfl⟩)
    go_ret
    exact ⟨rfl, h0.out⟩
  | some i =>
    obtain ⟨n, hn, _⟩ := findN_lt hf
    have hi : i < m := by rw [← Hm.out]; exact findN_bound hf
    have Hv := Lib.hid (show findV ns p = (i : Int) by rw [findV, hf])
    rw [show hasB ns p kd = decide (n.kind = kd) by rw [hasB, hf]; simp [hn]]
    have g := kind_beq n kd
    have Hn := Lib.hid hn
    clear hf hn
    go_enter Try.func38, Try.ntmps38
    go_upto_region 1 with fail
    change Code.wp _ _ _ _ (w.alloc (.cells (fcs A m k) 24))
    obtain ⟨gf, hgf⟩ : ∃ g, w.heap.size = g := ⟨_, rfl⟩
    rw [hgf] at HF ⊢
    clear hgf
    generalize w.alloc (.cells (fcs A m k) 24) = W0 at h0 HF ⊢
    replace Ha := Lib.hid (Ha.out.keep h0.out)
    have fc := fs_cell HF.out
    obtain ⟨b, o, rfl, -, q0, q1, q2, q3, q4, q5, q6, q7⟩ := Ha.out.cells Hn.out
    go_wp2_with (go_at_call 36; (with_reducible refine (rfind_n ns m Hm.out hl p _ Hv.out _ k _ Ha.out).mono ?_); rintro e w' ⟨rfl, rfl⟩)
    go_ret
    exact ⟨rfl, h0.out⟩
theorem k53 : (53 : Int) = ((53 : UInt8).toNat : Int) := rfl
theorem k48 : (48 : Int) = ((48 : UInt8).toNat : Int) := rfl
set_option maxRecDepth 100000 in
set_option maxHeartbeats 4000000 in
theorem rstands_s (ns : List Nd) (m : Nat) (hm : ns.length = m) (hl : m < 9223372036854775808) (n : Nd) (v : Value) (hv : v = nv n) (hn : SmallN n) (b : Bool) (hb : standsB ns n = b) (A : Option Addr) (k : Nat) (w : World) (ha : RdN w A k ns) :
    Calls Try.prog 37 #[fv A m k, v] w fun e w' => e = .returned (.bool b) ∧ Stp w w' := by
  subst hv hb
  obtain ⟨pb, p1⟩ : ∃ x, PathM.parB n.path = x := ⟨_, rfl⟩
  obtain ⟨pv, p0⟩ : ∃ x, PathM.parV n.path = x := ⟨_, rfl⟩
  obtain ⟨hd, p2⟩ : ∃ x, hasB ns pv 53 = x := ⟨_, rfl⟩
  obtain ⟨kd, p3⟩ : ∃ x, decide (n.kind = 49) = x := ⟨_, rfl⟩
  obtain ⟨hf, p4⟩ : ∃ x, hasB ns n.link 48 = x := ⟨_, rfl⟩
  have g49 : ((n.kind.toNat : Int) != 49) = !kd := by
    rw [bne, ← p3]; exact congrArg _ (kind_beq n 49)
  rw [show standsB ns n = ((!pb || hd) && (!kd || hf)) by rw [standsB, p0, p1, p2, p3, p4]]
  have P0 := Lib.hid p0
  have P1 := Lib.hid p1
  have P2 := Lib.hid p2
  have P4 := Lib.hid p4
  have Ha := Lib.hid ha
  have Hm := Lib.hid hm
  have Hp := Lib.hid hn.path
  clear ha hm hn p0 p1 p2 p3 p4
  have h0 := Lib.hid (Stp.alloc (Stp.refl w) (.cells (fcs A m k) 24))
  have HF := Lib.hid (Blk.new w 24 (fcs A m k))
  have HN := Lib.hid (by have h := Blk.new (w.alloc (.cells (fcs A m k) 24)) 26 (ncells n); simp only [World.size_alloc] at h; exact h)
  replace HF := Lib.hid (HF.out.alloc (.cells (ncells n) 26))
  replace h0 := Lib.hid (Stp.alloc h0.out (.cells (ncells n) 26))
  go_enter Try.func37, Try.ntmps37
  go_upto_region 1 with fail
  change Code.wp _ _ _ _ ((w.alloc (.cells (fcs A m k) 24)).alloc (.cells (ncells n) 26))
  obtain ⟨gf, hgf⟩ : ∃ g, w.heap.size = g := ⟨_, rfl⟩
  rw [hgf] at HF HN ⊢
  clear hgf
  generalize (w.alloc (.cells (fcs A m k) 24)).alloc (.cells (ncells n) 26) = W0 at h0 HF HN ⊢
  replace Ha := Lib.hid (Ha.out.keep h0.out)
  have fc := fs_cell HF.out
  obtain ⟨q0, q1, q2, q3, q4, q5, q6, q7⟩ := nd_cells HN.out
  go_upto_region 4 with (first
    | (go_at_call 60; (with_reducible refine (rpar_n n.path Hp.out pv P0.out pb P1.out _).mono ?_); rintro e wn ⟨rfl, hs⟩; replace h0 := Lib.hid (Stp.trans h0.out hs); replace HF := Lib.hid (HF.out.keep hs HF.out.lt); replace HN := Lib.hid (HN.out.keep hs HN.out.lt); replace Ha := Lib.hid (Ha.out.keep hs); clear hs fc q0 q1 q2 q3 q4 q5 q6 q7; have fc := fs_cell HF.out; obtain ⟨q0, q1, q2, q3, q4, q5, q6, q7⟩ := nd_cells HN.out)
    | (go_at_call 38; (with_reducible refine (rhas_s ns m Hm.out hl pv 53 _ k53 hd P2.out A k _ Ha.out).mono ?_); rintro e wn ⟨rfl, hs⟩; replace h0 := Lib.hid (Stp.trans h0.out hs); replace HF := Lib.hid (HF.out.keep hs HF.out.lt); replace HN := Lib.hid (HN.out.keep hs HN.out.lt); replace Ha := Lib.hid (Ha.out.keep hs); clear hs fc q0 q1 q2 q3 q4 q5 q6 q7; have fc := fs_cell HF.out; obtain ⟨q0, q1, q2, q3, q4, q5, q6, q7⟩ := nd_cells HN.out)
    | (go_at_call 38; (with_reducible refine (rhas_s ns m Hm.out hl n.link 48 _ k48 hf P4.out A k _ Ha.out).mono ?_); rintro e wn ⟨rfl, hs⟩; replace h0 := Lib.hid (Stp.trans h0.out hs); replace HF := Lib.hid (HF.out.keep hs HF.out.lt); replace HN := Lib.hid (HN.out.keep hs HN.out.lt); replace Ha := Lib.hid (Ha.out.keep hs); clear hs fc q0 q1 q2 q3 q4 q5 q6 q7; have fc := fs_cell HF.out; obtain ⟨q0, q1, q2, q3, q4, q5, q6, q7⟩ := nd_cells HN.out))
  cases pb <;> cases hd <;> cases kd <;> cases hf
  all_goals
    simp only [Bool.not_true, Bool.not_false] at g49
    go_wp2_with fail
    go_ret
    exact ⟨rfl, h0.out⟩
theorem may_no {ns : List Nd} {j : Nat} {n : Nd} (hj : ns[j]? = some n) (h : (oneB n && (standsB ns n && riseB ns j n)) = false) : mayF ns = false := by
  rw [Bool.eq_false_iff]
  intro hm
  unfold mayF at hm
  rw [Bool.and_eq_true, List.all_eq_true] at hm
  have h2 := hm.2 j (List.mem_range.2 (List.getElem?_eq_some_iff.1 hj).1)
  rw [okF, hj] at h2
  dsimp only at h2
  rw [h] at h2
  cases h2
theorem may_yes {ns : List Nd} (hl : ns.length ≤ 20) (h : ∀ (j : Nat) (n : Nd), j < ns.length → ns[j]? = some n → (oneB n && (standsB ns n && riseB ns j n)) = true) : mayF ns = true := by
  unfold mayF
  rw [Bool.and_eq_true, List.all_eq_true]
  refine ⟨decide_eq_true hl, fun j hj => ?_⟩
  have hj := List.mem_range.1 hj
  rw [okF, List.getElem?_eq_getElem hj]
  exact h j _ hj (List.getElem?_eq_getElem hj)
theorem yes_more {ns : List Nd} {k : Nat} {n : Nd} {P : Nat → Nd → Prop} (hk : ns[k]? = some n) (hn : P k n) (h : ∀ (j : Nat) (x : Nd), j < k → ns[j]? = some x → P j x) : ∀ (j : Nat) (x : Nd), j < k + 1 → ns[j]? = some x → P j x := by
  intro j x hj hx
  by_cases e : j = k
  · subst e
    rw [hk] at hx
    cases hx
    exact hn
  · exact h j x (by omega) hx
set_option maxRecDepth 100000 in
set_option maxHeartbeats 8000000 in
theorem rmay_s (ns : List Nd) (m : Nat) (hm : ns.length = m) (hl : m < 9223372036854775808) (hs : ∀ n ∈ ns, SmallN n) (R : Bool) (hR : mayF ns = R) (A : Option Addr) (k : Nat) (w : World) (ha : RdN w A k ns) :
    Calls Try.prog 21 #[fv A m k] w fun e w' => e = .returned (.bool R) ∧ Stp w w' := by
  have Ha := Lib.hid ha
  have Hm := Lib.hid hm
  have Hs := Lib.hid hs
  have HR := Lib.hid hR
  clear ha hm hs hR
  have h0 := Lib.hid (Stp.alloc (Stp.refl w) (.cells (fcs A m k) 24))
  have HF := Lib.hid (Blk.new w 24 (fcs A m k))
  by_cases h20 : m ≤ 20
  case neg =>
    have g : decide ((20 : Int) < (m : Int)) = true := decide_eq_true (by omega)
    have hno : mayF ns = false := by unfold mayF; rw [decide_eq_false (by rw [Hm.out]; exact h20)]; rfl
    rw [HR.out] at hno
    subst hno
    clear h20
    go_enter Try.func21, Try.ntmps21
    go_upto_region 1 with fail
    change Code.wp _ _ _ _ (w.alloc (.cells (fcs A m k) 24))
    obtain ⟨gf, hgf⟩ : ∃ g, w.heap.size = g := ⟨_, rfl⟩
    rw [hgf] at HF ⊢
    clear hgf
    generalize w.alloc (.cells (fcs A m k) 24) = W0 at h0 HF ⊢
    replace Ha := Lib.hid (Ha.out.keep h0.out)
    have fc := fs_cell HF.out
    go_wp2_with fail
    go_ret
    exact ⟨rfl, h0.out⟩
  go_enter Try.func21, Try.ntmps21
  go_upto_region 1 with fail
  change Code.wp _ _ _ _ (w.alloc (.cells (fcs A m k) 24))
  obtain ⟨gf, hgf⟩ : ∃ g, w.heap.size = g := ⟨_, rfl⟩
  rw [hgf] at HF ⊢
  clear hgf
  generalize w.alloc (.cells (fcs A m k) 24) = W0 at h0 HF ⊢
  replace Ha := Lib.hid (Ha.out.keep h0.out)
  have fc := fs_cell HF.out
  have g0 : decide ((20 : Int) < (m : Int)) = false := decide_eq_false (by omega)
  go_wp2_with fail
  go_loopw [3] (fun iv wr => ∃ (j : Nat), j ≤ m ∧ iv = .int .i64 (j : Int) ∧ Hid (Blk wr gf 24 (fcs A m k)) ∧ Hid (RdN wr A k ns) ∧ Hid (Stp w wr) ∧ Hid (∀ (i : Nat) (x : Nd), i < j → ns[i]? = some x → (oneB x && (standsB ns x && riseB ns i x)) = true)) (fun iv _ => m - (intOf iv).toNat)
  case atStart => exact ⟨0, by omega, rfl, HF, Ha, h0, Lib.hid (fun j x hj => by omega)⟩
  case round =>
    clear Ha HF h0 fc g0
    obtain ⟨j, hj, rfl, HF, Ha, h0, Hy⟩ := hrel
    have fc := fs_cell HF.out
    by_cases hlt : j < m
    · obtain ⟨n, hn⟩ : ∃ n, ns[j]? = some n := ⟨_, List.getElem?_eq_getElem (by rw [Hm.out]; exact hlt)⟩
      obtain ⟨b, o, rfl, -, q0, q1, q2, q3, q4, q5, q6, q7⟩ := Ha.out.cells hn
      obtain ⟨on, f1⟩ : ∃ x, oneB n = x := ⟨_, rfl⟩
      obtain ⟨os, f2⟩ : ∃ x, standsB ns n = x := ⟨_, rfl⟩
      have F1 := Lib.hid f1
      have F2 := Lib.hid f2
      have Hn := Lib.hid hn
      have Hsn := Lib.hid (Hs.out n (List.mem_of_getElem? hn))
      have g5 : decide ((j : Int) < (m : Int)) = true := decide_eq_true (by omega)
      clear f1 f2 hn
      go_upto_region 7 with (go_at_call 35; (with_reducible refine (rone_n n _ rfl Hsn.out on F1.out _).mono ?_); rintro e wn ⟨rfl, hs⟩; replace h0 := Lib.hid (Stp.trans h0.out hs); replace HF := Lib.hid (HF.out.keep hs HF.out.lt); replace Ha := Lib.hid (Ha.out.keep hs); clear hs fc q0 q1 q2 q3 q4 q5 q6 q7; have fc := fs_cell HF.out; obtain ⟨b2, o2, e2, -, q0, q1, q2, q3, q4, q5, q6, q7⟩ := Ha.out.cells Hn.out; cases e2)
      have vf := cell_regrown fc
      have v0 := cell_regrown q0
      have v1 := cell_regrown q1
      have v2 := cell_regrown q2
      have v3 := cell_regrown q3
      have v4 := cell_regrown q4
      have v5 := cell_regrown q5
      have v6 := cell_regrown q6
      have v7 := cell_regrown q7
      have cS : ∀ d os', Calls Try.prog 37 #[fv (some ⟨b, o, none⟩) m k, nv n] (grow (redrawn wn d) os') fun e w'' => e = .returned (.bool os) ∧ ∃ p : Regrown, w'' = grow (redrawn wn p.d) p.os := fun d os' => Calls.regrown_of (rstands_s ns m Hm.out hl n _ rfl Hsn.out os F2.out _ k _ (Ha.out.keep (below_regrown wn d os')))
      clear fc q0 q1 q2 q3 q4 q5 q6 q7
      refine wp_region_quiet_below (by kernel_rfl) (by kernel_rfl) ?_
      repeat (go_big_quiet_step (first | exact cS _ _))
      refine wpQuiet_nil ?_
      intro _ hw'
      obtain ⟨⟨dq, osq⟩, hw''⟩ := hw'
      subst hw''
      have X := Lib.hid (show Stp wn (grow (redrawn wn dq) osq) from below_regrown wn dq osq)
      clear vf v0 v1 v2 v3 v4 v5 v6 v7 cS
      generalize grow (redrawn wn dq) osq = Y at X ⊢
      replace h0 := Lib.hid (Stp.trans h0.out X.out)
      replace HF := Lib.hid (HF.out.keep X.out HF.out.lt)
      replace Ha := Lib.hid (Ha.out.keep X.out)
      have fc := fs_cell HF.out
      obtain ⟨b3, o3, e3, -, q0, q1, q2, q3, q4, q5, q6, q7⟩ := Ha.out.cells Hn.out
      cases e3
      clear X
      go_upto_region 8 with fail
      cases on
      · go_quiet (fail)
        go_wp2_with fail
        go_ret
        refine ⟨congrArg (fun b => Ending.returned (.bool b)) ?_, h0.out.drewN _⟩
        rw [← HR.out, may_no Hn.out (by rw [F1.out]; rfl)]
      cases os
      · go_quiet (fail)
        go_wp2_with fail
        go_ret
        refine ⟨congrArg (fun b => Ending.returned (.bool b)) ?_, h0.out.drewN _⟩
        rw [← HR.out, may_no Hn.out (by rw [F1.out, F2.out]; rfl)]
      by_cases hz : j = 0
      · subst hz
        simp only [Nat.zero_mul, Nat.add_zero] at q0 q1 q2 q3 q4 q5 q6 q7
        have HY2 := Lib.hid (yes_more (P := fun i x => (oneB x && (standsB ns x && riseB ns i x)) = true) Hn.out (by rw [F1.out, F2.out]; rfl) Hy.out)
        go_quiet (fail)
        go_wp2_with fail
        go_roundw
        case rel => exact ⟨0 + 1, by omega, by go_num, Lib.hid (HF.out.keep (Stp.drewN (Stp.refl _) _) HF.out.lt), Lib.hid (Ha.out.keep (Stp.drewN (Stp.refl _) _)), Lib.hid (h0.out.drewN _), HY2⟩
        case measure => simp [intOf]; omega
      · obtain ⟨i, rfl⟩ : ∃ i, j = i + 1 := ⟨j - 1, by omega⟩
        obtain ⟨x, hx⟩ : ∃ x, ns[i]? = some x := ⟨_, List.getElem?_eq_getElem (by rw [Hm.out]; omega)⟩
        obtain ⟨b8, o8, e8, -, r0, -⟩ := Ha.out.cells hx
        cases e8
        have hrs := Tree.rise_succ hx n
        obtain ⟨le, hle⟩ : ∃ y, (Op.bytesLess n.path x.path || n.path == x.path) = y := ⟨_, rfl⟩
        rw [hle] at hrs
        have Hrs := Lib.hid hrs
        clear hx hrs hz
        cases le
        · have HY2 := Lib.hid (yes_more (P := fun i x => (oneB x && (standsB ns x && riseB ns i x)) = true) Hn.out (by rw [F1.out, F2.out, Hrs.out]; rfl) Hy.out)
          go_quiet (fail)
          go_wp2_with fail
          go_roundw
          case rel => exact ⟨(i + 1) + 1, by omega, by go_num, Lib.hid (HF.out.keep (Stp.drewN (Stp.refl _) _) HF.out.lt), Lib.hid (Ha.out.keep (Stp.drewN (Stp.refl _) _)), Lib.hid (h0.out.drewN _), HY2⟩
          case measure => simp [intOf]; omega
        · go_quiet (fail)
          go_wp2_with fail
          go_ret
          refine ⟨congrArg (fun b => Ending.returned (.bool b)) ?_, h0.out.drewN _⟩
          rw [← HR.out, may_no Hn.out (by rw [F1.out, F2.out, Hrs.out]; rfl)]
    · obtain rfl : j = m := by omega
      have hy := may_yes (ns := ns) (by rw [Hm.out]; exact h20) (fun i x hi hx => Hy.out i x (by rw [← Hm.out]; exact hi) hx)
      rw [HR.out] at hy
      subst hy
      have g5 : decide ((j : Int) < (j : Int)) = false := decide_eq_false (by omega)
      go_wp2_with fail
      go_ret
      exact ⟨rfl, h0.out⟩
set_option maxRecDepth 100000 in
theorem rfsame_s (ns ms : List Nd) (m j : Nat) (hm : ns.length = m) (hj : ms.length = j) (hl : j < 9223372036854775808) (x : Bool) (hx : (ns == ms) = x) (A B : Option Addr) (k l : Nat) (w : World) (ha : RdN w A k ns) (hb : RdN w B l ms) :
    Calls Try.prog 20 #[fv A m k, fv B j l] w fun e w' => e = .returned (.bool x) ∧ Stp w w' := by
  subst hm hj hx
  have Ha := Lib.hid ha
  have Hb := Lib.hid hb
  have h0 := Lib.hid (Stp.alloc (Stp.refl w) (.cells (fcs A ns.length k) 24))
  have HF := Lib.hid (Blk.new w 24 (fcs A ns.length k))
  have HN := Lib.hid (by have h := Blk.new (w.alloc (.cells (fcs A ns.length k) 24)) 24 (fcs B ms.length l); simp only [World.size_alloc] at h; exact h)
  replace HF := Lib.hid (HF.out.alloc (.cells (fcs B ms.length l) 24))
  replace h0 := Lib.hid (Stp.alloc h0.out (.cells (fcs B ms.length l) 24))
  have fc := fs_cell HF.out
  have fd := fs_cell HN.out
  go_enter Try.func20, Try.ntmps20
  go_wp2_with (go_at_call 28; (with_reducible refine (Tree.rsame_s ns ms A B k l _ (Ha.out.keep h0.out) (Hb.out.keep h0.out) hl).mono ?_); rintro e wn ⟨rfl, hs⟩; replace h0 := Lib.hid (Stp.trans h0.out hs); clear hs fc fd)
  go_ret
  exact ⟨rfl, h0.out⟩
set_option maxRecDepth 100000 in
set_option maxHeartbeats 4000000 in
theorem rget_s (ns : List Nd) (m : Nat) (hm : ns.length = m) (hl : m < 9223372036854775808) (hs : ∀ n ∈ ns, SmallN n) (p : List UInt8) (x : Nd) (e0 : Int) (hx : getF ns p = (x, e0)) (A : Option Addr) (k : Nat) (w : World) (ha : RdN w A k ns) :
    Calls Try.prog 17 #[fv A m k, .string ⟨p.toArray⟩] w fun e w' => e = .returned (.tuple #[nv x, .int .i64 e0]) ∧ Stp w w' := by
  have Ha := Lib.hid ha
  have Hm := Lib.hid hm
  have Hs := Lib.hid hs
  clear ha hm hs
  have h0 := Lib.hid (Stp.alloc (Stp.refl w) (.cells (fcs A m k) 24))
  have HF := Lib.hid (Blk.new w 24 (fcs A m k))
  have HZ := Lib.hid (by have h := Blk.new (w.alloc (.cells (fcs A m k) 24)) 26 (ncells zeroN); simp only [World.size_alloc] at h; exact h)
  replace HF := Lib.hid (HF.out.alloc (.cells (ncells zeroN) 26))
  replace h0 := Lib.hid (Stp.alloc h0.out (.cells (ncells zeroN) 26))
  cases hM : mayF ns with
  | false =>
    rw [getF, if_pos hM] at hx
    obtain ⟨rfl, rfl⟩ := Prod.mk.inj hx
    have HM := Lib.hid hM
    clear hM hx
    go_enter Try.func17, Try.ntmps17
    go_upto_region 1 with fail
    change Code.wp _ _ _ _ ((w.alloc (.cells (fcs A m k) 24)).alloc (.cells (ncells zeroN) 26))
    have hgz : w.heap.size ≤ w.heap.size + 1 := by omega
    obtain ⟨gf, hgf⟩ : ∃ g, w.heap.size = g := ⟨_, rfl⟩
    rw [hgf] at HF HZ ⊢
    rw [show w.heap.size + 1 = gf + 1 by rw [hgf]] at hgz
    clear hgf
    generalize ((w.alloc (.cells (fcs A m k) 24)).alloc (.cells (ncells zeroN) 26)) = W0 at h0 HF HZ ⊢
    replace Ha := Lib.hid (Ha.out.keep h0.out)
    have fc := fs_cell HF.out
    go_upto_region 2 with (go_at_call 21; (with_reducible refine (rmay_s ns m Hm.out hl Hs.out _ HM.out A k _ Ha.out).mono ?_); rintro e wn ⟨rfl, hs⟩; replace h0 := Lib.hid (Stp.trans h0.out hs); replace HF := Lib.hid (HF.out.keep hs HF.out.lt); replace HZ := Lib.hid (HZ.out.keep hs HZ.out.lt); replace Ha := Lib.hid (Ha.out.keep hs); clear hs fc; have fc := fs_cell HF.out)
    obtain ⟨⟨z0, z1, z2, z3, z4, z5, z6, z7⟩, y0, y1, y2, y3, y4, y5, y6, y7⟩ := nzy HZ.out
    go_wp2_with fail
    have hf := filln_blk zeroN HZ.out
    have hst := filln_stp zeroN h0.out hgz
    change bodyPost _ _ _ _ _ (fillN wn (gf + 1) zeroN)
    generalize fillN wn (gf + 1) zeroN = Y at hf hst ⊢
    clear z0 z1 z2 z3 z4 z5 z6 z7 y0 y1 y2 y3 y4 y5 y6 y7
    obtain ⟨z0, z1, z2, z3, z4, z5, z6, z7⟩ := nd_cells hf
    refine bodyPost_ret (v := .tuple #[nv zeroN, .int .i64 1]) (by simp [results, Try.results17, go_sem, *]) rfl ⟨rfl, hst⟩
  | true =>
  rw [getF, if_neg (by rw [hM]; decide)] at hx
  have HM := Lib.hid hM
  clear hM
  cases hf : findN p ns with
  | none =>
    rw [hf] at hx
    obtain ⟨rfl, rfl⟩ := Prod.mk.inj hx
    have Hv := Lib.hid (show findV ns p = -1 by rw [findV, hf])
    clear hf hx
    go_enter Try.func17, Try.ntmps17
    go_upto_region 1 with fail
    change Code.wp _ _ _ _ ((w.alloc (.cells (fcs A m k) 24)).alloc (.cells (ncells zeroN) 26))
    have hgz : w.heap.size ≤ w.heap.size + 1 := by omega
    obtain ⟨gf, hgf⟩ : ∃ g, w.heap.size = g := ⟨_, rfl⟩
    rw [hgf] at HF HZ ⊢
    rw [show w.heap.size + 1 = gf + 1 by rw [hgf]] at hgz
    clear hgf
    generalize ((w.alloc (.cells (fcs A m k) 24)).alloc (.cells (ncells zeroN) 26)) = W0 at h0 HF HZ ⊢
    replace Ha := Lib.hid (Ha.out.keep h0.out)
    have fc := fs_cell HF.out
    go_upto_region 5 with (first
      | (go_at_call 21; (with_reducible refine (rmay_s ns m Hm.out hl Hs.out _ HM.out A k _ Ha.out).mono ?_); rintro e wn ⟨rfl, hs⟩; replace h0 := Lib.hid (Stp.trans h0.out hs); replace HF := Lib.hid (HF.out.keep hs HF.out.lt); replace HZ := Lib.hid (HZ.out.keep hs HZ.out.lt); replace Ha := Lib.hid (Ha.out.keep hs); clear hs fc; have fc := fs_cell HF.out)
      | (go_at_call 36; (with_reducible refine (rfind_n ns m Hm.out hl p _ Hv.out A k _ Ha.out).mono ?_); rintro e w9 ⟨rfl, rfl⟩))
    obtain ⟨⟨z0, z1, z2, z3, z4, z5, z6, z7⟩, y0, y1, y2, y3, y4, y5, y6, y7⟩ := nzy HZ.out
    go_wp2_with fail
    have hf := filln_blk zeroN HZ.out
    have hst := filln_stp zeroN h0.out hgz
    change bodyPost _ _ _ _ _ (fillN w9 (gf + 1) zeroN)
    generalize fillN w9 (gf + 1) zeroN = Y at hf hst ⊢
    clear z0 z1 z2 z3 z4 z5 z6 z7 y0 y1 y2 y3 y4 y5 y6 y7
    obtain ⟨z0, z1, z2, z3, z4, z5, z6, z7⟩ := nd_cells hf
    refine bodyPost_ret (v := .tuple #[nv zeroN, .int .i64 9]) (by simp [results, Try.results17, go_sem, *]) rfl ⟨rfl, hst⟩
  | some i =>
    obtain ⟨n, hn, -, hd⟩ := find_zero hf
    rw [hf] at hx
    dsimp only at hx
    rw [hd] at hx
    obtain ⟨rfl, rfl⟩ := Prod.mk.inj hx
    have hi : i < m := by rw [← Hm.out]; exact findN_bound hf
    have Hv := Lib.hid (show findV ns p = (i : Int) by rw [findV, hf])
    have Hn := Lib.hid hn
    clear hf hx hd hn
    go_enter Try.func17, Try.ntmps17
    go_upto_region 1 with fail
    change Code.wp _ _ _ _ ((w.alloc (.cells (fcs A m k) 24)).alloc (.cells (ncells zeroN) 26))
    have hgz : w.heap.size ≤ w.heap.size + 1 := by omega
    obtain ⟨gf, hgf⟩ : ∃ g, w.heap.size = g := ⟨_, rfl⟩
    rw [hgf] at HF HZ ⊢
    rw [show w.heap.size + 1 = gf + 1 by rw [hgf]] at hgz
    clear hgf
    generalize ((w.alloc (.cells (fcs A m k) 24)).alloc (.cells (ncells zeroN) 26)) = W0 at h0 HF HZ ⊢
    replace Ha := Lib.hid (Ha.out.keep h0.out)
    have fc := fs_cell HF.out
    go_upto_region 5 with (first
      | (go_at_call 21; (with_reducible refine (rmay_s ns m Hm.out hl Hs.out _ HM.out A k _ Ha.out).mono ?_); rintro e wn ⟨rfl, hs⟩; replace h0 := Lib.hid (Stp.trans h0.out hs); replace HF := Lib.hid (HF.out.keep hs HF.out.lt); replace HZ := Lib.hid (HZ.out.keep hs HZ.out.lt); replace Ha := Lib.hid (Ha.out.keep hs); clear hs fc; have fc := fs_cell HF.out)
      | (go_at_call 36; (with_reducible refine (rfind_n ns m Hm.out hl p _ Hv.out A k _ Ha.out).mono ?_); rintro e w9 ⟨rfl, rfl⟩))
    obtain ⟨b, o, rfl, -, q0, q1, q2, q3, q4, q5, q6, q7⟩ := Ha.out.cells Hn.out
    obtain ⟨⟨z0, z1, z2, z3, z4, z5, z6, z7⟩, y0, y1, y2, y3, y4, y5, y6, y7⟩ := nzy HZ.out
    go_wp2_with fail
    have hf := filln_blk n HZ.out
    have hst := filln_stp n h0.out hgz
    change bodyPost _ _ _ _ _ (fillN w9 (gf + 1) n)
    generalize fillN w9 (gf + 1) n = Y at hf hst ⊢
    clear z0 z1 z2 z3 z4 z5 z6 z7 y0 y1 y2 y3 y4 y5 y6 y7
    obtain ⟨z0, z1, z2, z3, z4, z5, z6, z7⟩ := nd_cells hf
    refine bodyPost_ret (v := .tuple #[nv n, .int .i64 0]) (by simp [results, Try.results17, go_sem, *]) rfl ⟨rfl, hst⟩
set_option maxRecDepth 100000 in
set_option maxHeartbeats 4000000 in
theorem rtext_s (ns : List Nd) (m : Nat) (hm : ns.length = m) (hl : m < 9223372036854775808) (hs : ∀ n ∈ ns, SmallN n) (p : List UInt8) (s : List UInt8) (e0 : Int) (hx : textF ns p = (s, e0)) (A : Option Addr) (k : Nat) (w : World) (ha : RdN w A k ns) :
    Calls Try.prog 19 #[fv A m k, .string ⟨p.toArray⟩] w fun e w' => e = .returned (.tuple #[.string ⟨s.toArray⟩, .int .i64 e0]) ∧ Stp w w' := by
  have Ha := Lib.hid ha
  have Hm := Lib.hid hm
  have Hs := Lib.hid hs
  clear ha hm hs
  have h0 := Lib.hid (Stp.alloc (Stp.refl w) (.cells (fcs A m k) 24))
  have HF := Lib.hid (Blk.new w 24 (fcs A m k))
  cases hM : mayF ns with
  | false =>
    rw [textF, if_pos hM] at hx
    obtain ⟨rfl, rfl⟩ := Prod.mk.inj hx
    have HM := Lib.hid hM
    clear hM hx
    go_enter Try.func19, Try.ntmps19
    go_upto_region 1 with fail
    change Code.wp _ _ _ _ (w.alloc (.cells (fcs A m k) 24))
    obtain ⟨gf, hgf⟩ : ∃ g, w.heap.size = g := ⟨_, rfl⟩
    rw [hgf] at HF ⊢
    clear hgf
    generalize w.alloc (.cells (fcs A m k) 24) = W0 at h0 HF ⊢
    replace Ha := Lib.hid (Ha.out.keep h0.out)
    have fc := fs_cell HF.out
    go_wp2_with (go_at_call 21; (with_reducible refine (rmay_s ns m Hm.out hl Hs.out _ HM.out A k _ Ha.out).mono ?_); rintro e wn ⟨rfl, hs⟩; replace h0 := Lib.hid (Stp.trans h0.out hs); replace HF := Lib.hid (HF.out.keep hs HF.out.lt); replace Ha := Lib.hid (Ha.out.keep hs); clear hs fc; have fc := fs_cell HF.out)
    go_ret2
    exact ⟨rfl, h0.out⟩
  | true =>
  rw [textF, if_neg (by rw [hM]; decide)] at hx
  have HM := Lib.hid hM
  clear hM
  cases hf : findN p ns with
  | none =>
    rw [fileF, hf] at hx
    obtain ⟨rfl, rfl⟩ := Prod.mk.inj hx
    have Hv := Lib.hid (show findV ns p = -1 by rw [findV, hf])
    clear hf hx
    go_enter Try.func19, Try.ntmps19
    go_upto_region 1 with fail
    change Code.wp _ _ _ _ (w.alloc (.cells (fcs A m k) 24))
    obtain ⟨gf, hgf⟩ : ∃ g, w.heap.size = g := ⟨_, rfl⟩
    rw [hgf] at HF ⊢
    clear hgf
    generalize w.alloc (.cells (fcs A m k) 24) = W0 at h0 HF ⊢
    replace Ha := Lib.hid (Ha.out.keep h0.out)
    have fc := fs_cell HF.out
    go_wp2_with (first
      | (go_at_call 21; (with_reducible refine (rmay_s ns m Hm.out hl Hs.out _ HM.out A k _ Ha.out).mono ?_); rintro e wn ⟨rfl, hs⟩; replace h0 := Lib.hid (Stp.trans h0.out hs); replace HF := Lib.hid (HF.out.keep hs HF.out.lt); replace Ha := Lib.hid (Ha.out.keep hs); clear hs fc; have fc := fs_cell HF.out)
      | (go_at_call 36; (with_reducible refine (rfind_n ns m Hm.out hl p _ Hv.out A k _ Ha.out).mono ?_); rintro e w9 ⟨rfl, rfl⟩))
    go_ret2
    exact ⟨rfl, h0.out⟩
  | some i =>
    obtain ⟨n, hn, -, hd⟩ := find_zero hf
    have hi : i < m := by rw [← Hm.out]; exact findN_bound hf
    have Hv := Lib.hid (show findV ns p = (i : Int) by rw [findV, hf])
    have Hn := Lib.hid hn
    rw [fileF, hf] at hx
    dsimp only at hx
    rw [hd] at hx
    by_cases h1 : n.kind = 49
    · rw [if_pos h1] at hx
      have g1 : ((n.kind.toNat : Int) == 49) = true := (kind_beq n 49).trans (decide_eq_true h1)
      cases hf2 : findN n.link ns with
      | none =>
        rw [hf2] at hx
        obtain ⟨rfl, rfl⟩ := Prod.mk.inj hx
        have Hv2 := Lib.hid (show findV ns n.link = -1 by rw [findV, hf2])
        clear hf hx hd hn hf2 h1
        go_enter Try.func19, Try.ntmps19
        go_upto_region 1 with fail
        change Code.wp _ _ _ _ (w.alloc (.cells (fcs A m k) 24))
        obtain ⟨gf, hgf⟩ : ∃ g, w.heap.size = g := ⟨_, rfl⟩
        rw [hgf] at HF ⊢
        clear hgf
        generalize w.alloc (.cells (fcs A m k) 24) = W0 at h0 HF ⊢
        replace Ha := Lib.hid (Ha.out.keep h0.out)
        have fc := fs_cell HF.out
        go_upto_region 5 with (first
          | (go_at_call 21; (with_reducible refine (rmay_s ns m Hm.out hl Hs.out _ HM.out A k _ Ha.out).mono ?_); rintro e wn ⟨rfl, hs⟩; replace h0 := Lib.hid (Stp.trans h0.out hs); replace HF := Lib.hid (HF.out.keep hs HF.out.lt); replace Ha := Lib.hid (Ha.out.keep hs); clear hs fc; have fc := fs_cell HF.out)
          | (go_at_call 36; (with_reducible refine (rfind_n ns m Hm.out hl p _ Hv.out A k _ Ha.out).mono ?_); rintro e w9 ⟨rfl, rfl⟩))
        obtain ⟨b, o, rfl, -, q0, q1, q2, q3, q4, q5, q6, q7⟩ := Ha.out.cells Hn.out
        go_upto_region 6 with fail
        go_quiet ((go_at_call 36; exact Calls.quiet_of_same (rfind_n ns m Hm.out hl n.link _ Hv2.out _ k _ (Ha.out.keep (Stp.drewN (Stp.refl _) _)))))
        go_wp2_with fail
        go_ret2
        exact ⟨rfl, h0.out.drewN _⟩
      | some i2 =>
        obtain ⟨y, hy, -, hd2⟩ := find_zero hf2
        have hi2 : i2 < m := by rw [← Hm.out]; exact findN_bound hf2
        have Hv2 := Lib.hid (show findV ns n.link = (i2 : Int) by rw [findV, hf2])
        have Hy := Lib.hid hy
        rw [hf2] at hx
        dsimp only at hx
        rw [hd2] at hx
        clear hf hd hn hf2 h1 hd2 hy
        have key : (((y.kind.toNat : Int) != 48) = true ∧ s = [] ∧ e0 = 9) ∨ (((y.kind.toNat : Int) != 48) = false ∧ s = y.data ∧ e0 = 0) := by
          by_cases h2 : y.kind = 48
          · rw [if_pos h2] at hx
            obtain ⟨rfl, rfl⟩ := Prod.mk.inj hx
            exact .inr ⟨by rw [bne, show ((y.kind.toNat : Int) == 48) = true from (kind_beq y 48).trans (decide_eq_true h2)]; rfl, rfl, rfl⟩
          · rw [if_neg h2] at hx
            obtain ⟨rfl, rfl⟩ := Prod.mk.inj hx
            exact .inl ⟨by rw [bne, show ((y.kind.toNat : Int) == 48) = false from (kind_beq y 48).trans (decide_eq_false h2)]; rfl, rfl, rfl⟩
        clear hx
        go_enter Try.func19, Try.ntmps19
        go_upto_region 1 with fail
        change Code.wp _ _ _ _ (w.alloc (.cells (fcs A m k) 24))
        obtain ⟨gf, hgf⟩ : ∃ g, w.heap.size = g := ⟨_, rfl⟩
        rw [hgf] at HF ⊢
        clear hgf
        generalize w.alloc (.cells (fcs A m k) 24) = W0 at h0 HF ⊢
        replace Ha := Lib.hid (Ha.out.keep h0.out)
        have fc := fs_cell HF.out
        go_upto_region 5 with (first
          | (go_at_call 21; (with_reducible refine (rmay_s ns m Hm.out hl Hs.out _ HM.out A k _ Ha.out).mono ?_); rintro e wn ⟨rfl, hs⟩; replace h0 := Lib.hid (Stp.trans h0.out hs); replace HF := Lib.hid (HF.out.keep hs HF.out.lt); replace Ha := Lib.hid (Ha.out.keep hs); clear hs fc; have fc := fs_cell HF.out)
          | (go_at_call 36; (with_reducible refine (rfind_n ns m Hm.out hl p _ Hv.out A k _ Ha.out).mono ?_); rintro e w9 ⟨rfl, rfl⟩))
        obtain ⟨b, o, rfl, -, q0, q1, q2, q3, q4, q5, q6, q7⟩ := Ha.out.cells Hn.out
        go_upto_region 6 with fail
        go_quiet ((go_at_call 36; exact Calls.quiet_of_same (rfind_n ns m Hm.out hl n.link _ Hv2.out _ k _ (Ha.out.keep (Stp.drewN (Stp.refl _) _)))))
        obtain ⟨b2, o2, e2, -, y0, y1, y2, y3, y4, y5, y6, y7⟩ := Ha.out.cells Hy.out
        cases e2
        rcases key with ⟨g2, rfl, rfl⟩ | ⟨g2, rfl, rfl⟩
        all_goals
          go_wp2_with fail
          go_ret2
          exact ⟨rfl, h0.out.drewN _⟩
    · rw [if_neg h1] at hx
      dsimp only at hx
      rw [hd] at hx
      have g1 : ((n.kind.toNat : Int) == 49) = false := (kind_beq n 49).trans (decide_eq_false h1)
      have key : (((n.kind.toNat : Int) != 48) = true ∧ s = [] ∧ e0 = 9) ∨ (((n.kind.toNat : Int) != 48) = false ∧ s = n.data ∧ e0 = 0) := by
        by_cases h2 : n.kind = 48
        · rw [if_pos h2] at hx
          obtain ⟨rfl, rfl⟩ := Prod.mk.inj hx
          exact .inr ⟨by rw [bne, show ((n.kind.toNat : Int) == 48) = true from (kind_beq n 48).trans (decide_eq_true h2)]; rfl, rfl, rfl⟩
        · rw [if_neg h2] at hx
          obtain ⟨rfl, rfl⟩ := Prod.mk.inj hx
          exact .inl ⟨by rw [bne, show ((n.kind.toNat : Int) == 48) = false from (kind_beq n 48).trans (decide_eq_false h2)]; rfl, rfl, rfl⟩
      clear hf hd hn hx h1
      go_enter Try.func19, Try.ntmps19
      go_upto_region 1 with fail
      change Code.wp _ _ _ _ (w.alloc (.cells (fcs A m k) 24))
      obtain ⟨gf, hgf⟩ : ∃ g, w.heap.size = g := ⟨_, rfl⟩
      rw [hgf] at HF ⊢
      clear hgf
      generalize w.alloc (.cells (fcs A m k) 24) = W0 at h0 HF ⊢
      replace Ha := Lib.hid (Ha.out.keep h0.out)
      have fc := fs_cell HF.out
      go_upto_region 5 with (first
        | (go_at_call 21; (with_reducible refine (rmay_s ns m Hm.out hl Hs.out _ HM.out A k _ Ha.out).mono ?_); rintro e wn ⟨rfl, hs⟩; replace h0 := Lib.hid (Stp.trans h0.out hs); replace HF := Lib.hid (HF.out.keep hs HF.out.lt); replace Ha := Lib.hid (Ha.out.keep hs); clear hs fc; have fc := fs_cell HF.out)
        | (go_at_call 36; (with_reducible refine (rfind_n ns m Hm.out hl p _ Hv.out A k _ Ha.out).mono ?_); rintro e w9 ⟨rfl, rfl⟩))
      obtain ⟨b, o, rfl, -, q0, q1, q2, q3, q4, q5, q6, q7⟩ := Ha.out.cells Hn.out
      rcases key with ⟨g2, rfl, rfl⟩ | ⟨g2, rfl, rfl⟩
      all_goals
        go_wp2_with fail
        go_ret2
        exact ⟨rfl, h0.out⟩
end Go.Proofs.Ytjddgmdbgajjpaa.Fs
