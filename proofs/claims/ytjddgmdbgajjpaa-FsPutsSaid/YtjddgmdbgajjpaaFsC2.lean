/-
  What the code's package fs keeps: what a node needs, whether paths rise, whether a file system may be: no statement is proved here.
-/
import Derived.Test.YtjddgmdbgajjpaaFsC1
namespace Go.Proofs.Ytjddgmdbgajjpaa.Fs
open Go.Sort Go.RowKit Go.Proofs.Ytjddgmdbgajjpaa.Str Go.Proofs.Ytjddgmdbgajjpaa.Base Go.Proofs.Ytjddgmdbgajjpaa.Node Go.Proofs.Ytjddgmdbgajjpaa.Long Go.Proofs.Ytjddgmdbgajjpaa.FsM
open Go.Proofs.Ytjddgmdbgajjpaa.Tree (oneB mayT fewT nodeA nodeB findN findV hasB riseB findN_lt findN_no findN_of findN_bound)
set_option linter.unusedVariables false

theorem ckind_beq (n : Nd) (kd : UInt8) : ((n.kind.toNat : Int) == (kd.toNat : Int)) = decide (n.kind = kd) := by
  rw [Bool.eq_iff_iff, beq_iff_eq, decide_eq_true_eq]
  exact ⟨fun h => UInt8.toNat_inj.1 (by omega), fun h => by rw [h]⟩
theorem c53 : (53 : Int) = ((53 : UInt8).toNat : Int) := rfl
theorem c48 : (48 : Int) = ((48 : UInt8).toNat : Int) := rfl
set_option maxRecDepth 100000 in
set_option maxHeartbeats 2000000 in
theorem has_s (ns : List Nd) (m : Nat) (hm : ns.length = m) (hl : m ≤ 1000) (hr : Rises ns) (p : List UInt8) (kd : UInt8) (kk : Int) (hkk : kk = (kd.toNat : Int)) (b : Bool) (hb : hasB ns p kd = b) (A : Option Addr) (k : Nat) (w : World) (ha : RdN w A k ns) :
    Calls Try.prog 55 #[.slice A m k, .string ⟨p.toArray⟩, .int .u8 kk] w fun e w' => e = .returned (.bool b) ∧ Stp w w' := by
  subst hkk hb
  obtain ⟨i, hi⟩ := cut_ex p hr
  have Ha := Lib.hid ha
  have Hm := Lib.hid hm
  have Hi := Lib.hid hi
  have Hr := Lib.hid hr
  clear ha hm
  cases hf : findN p ns with
  | none =>
    have Hv := Lib.hid (show (findN p ns).isSome = false by rw [hf]; rfl)
    rw [show hasB ns p kd = false by rw [hasB, hf]]
    clear hf hi hr
    go_enter Try.func55, Try.ntmps55
    go_wp2_with (go_at_call 32; (with_reducible refine (find_s ns m Hm.out hl Hr.out p i Hi.out _ Hv.out A k _ Ha.out).mono ?_); rintro e w' ⟨rfl, hs⟩; have h0 := Lib.hid hs; clear hs)
    go_ret
    exact ⟨rfl, h0.out⟩
  | some j =>
    obtain ⟨n, hn, _⟩ := findN_lt hf
    obtain rfl := cut_find hr hi hf
    have hj : j < m := by rw [← Hm.out]; exact findN_bound hf
    have Hv := Lib.hid (show (findN p ns).isSome = true by rw [hf]; rfl)
    rw [show hasB ns p kd = decide (n.kind = kd) by rw [hasB, hf]; simp [hn]]
    have g := ckind_beq n kd
    have Hn := Lib.hid hn
    clear hf hn hi hr
    go_enter Try.func55, Try.ntmps55
    go_upto_region 2 with (go_at_call 32; (with_reducible refine (find_s ns m Hm.out hl Hr.out p j Hi.out _ Hv.out A k _ Ha.out).mono ?_); rintro e w' ⟨rfl, hs⟩; replace Ha := Lib.hid (Ha.out.keep hs); have h0 := Lib.hid hs; clear hs)
    obtain ⟨b, o, rfl, -, q0, q1, q2, q3, q4, q5, q6, q7⟩ := Ha.out.cells Hn.out
    go_wp2
    go_ret
    exact ⟨rfl, h0.out⟩
set_option maxRecDepth 100000 in
set_option maxHeartbeats 4000000 in
theorem place_s (ns : List Nd) (m : Nat) (hm : ns.length = m) (hl : m ≤ 1000) (hr : Rises ns) (n : Nd) (v : Value) (hv : v = nv n) (hn : SmallN n) (b : Bool) (hb : standsB ns n = b) (A : Option Addr) (k : Nat) (w : World) (ha : RdN w A k ns) :
    Calls Try.prog 33 #[.slice A m k, v] w fun e w' => e = .returned (.bool b) ∧ Stp w w' := by
  subst hv hb
  obtain ⟨pb, p1⟩ : ∃ x, PathM.parB n.path = x := ⟨_, rfl⟩
  obtain ⟨pv, p0⟩ : ∃ x, PathM.parV n.path = x := ⟨_, rfl⟩
  obtain ⟨hd, p2⟩ : ∃ x, hasB ns pv 53 = x := ⟨_, rfl⟩
  obtain ⟨kd, p3⟩ : ∃ x, decide (n.kind = 49) = x := ⟨_, rfl⟩
  obtain ⟨hf, p4⟩ : ∃ x, hasB ns n.link 48 = x := ⟨_, rfl⟩
  have g49 : ((n.kind.toNat : Int) != 49) = !kd := by
    rw [bne, ← p3]; exact congrArg _ (ckind_beq n 49)
  rw [show standsB ns n = ((!pb || hd) && (!kd || hf)) by rw [standsB, p0, p1, p2, p3, p4]]
  have P0 := Lib.hid p0
  have P1 := Lib.hid p1
  have P2 := Lib.hid p2
  have P4 := Lib.hid p4
  have Ha := Lib.hid ha
  have Hm := Lib.hid hm
  have Hr := Lib.hid hr
  have Hp := Lib.hid hn.path
  clear ha hm hn p0 p1 p2 p3 p4 hr
  have h0 := Lib.hid (Stp.alloc (Stp.refl w) (.cells (ncells n) 26))
  have HN := Lib.hid (Blk.new w 26 (ncells n))
  go_enter Try.func33, Try.ntmps33
  go_upto_region 1 with fail
  change Code.wp _ _ _ _ (w.alloc (.cells (ncells n) 26))
  obtain ⟨gf, hgf⟩ : ∃ g, w.heap.size = g := ⟨_, rfl⟩
  rw [hgf] at HN ⊢
  clear hgf
  generalize w.alloc (.cells (ncells n) 26) = W0 at h0 HN ⊢
  replace Ha := Lib.hid (Ha.out.keep h0.out)
  obtain ⟨q0, q1, q2, q3, q4, q5, q6, q7⟩ := nd_cells HN.out
  cases pb <;> cases hd <;> cases kd <;> cases hf
  all_goals
    simp only [Bool.not_true, Bool.not_false] at g49
    go_wp2_with (first
      | (go_at_call 24; (with_reducible refine (parent_n n.path Hp.out pv P0.out _ P1.out _).mono ?_); rintro e wn ⟨rfl, hs⟩; replace h0 := Lib.hid (Stp.trans h0.out hs); replace HN := Lib.hid (HN.out.keep hs HN.out.lt); replace Ha := Lib.hid (Ha.out.keep hs); clear hs q0 q1 q2 q3 q4 q5 q6 q7; obtain ⟨q0, q1, q2, q3, q4, q5, q6, q7⟩ := nd_cells HN.out)
      | (go_at_call 55; (with_reducible refine (has_s ns m Hm.out hl Hr.out pv 53 _ c53 _ P2.out A k _ Ha.out).mono ?_); rintro e wn ⟨rfl, hs⟩; replace h0 := Lib.hid (Stp.trans h0.out hs); replace HN := Lib.hid (HN.out.keep hs HN.out.lt); replace Ha := Lib.hid (Ha.out.keep hs); clear hs q0 q1 q2 q3 q4 q5 q6 q7; obtain ⟨q0, q1, q2, q3, q4, q5, q6, q7⟩ := nd_cells HN.out)
      | (go_at_call 55; (with_reducible refine (has_s ns m Hm.out hl Hr.out n.link 48 _ c48 _ P4.out A k _ Ha.out).mono ?_); rintro e wn ⟨rfl, hs⟩; replace h0 := Lib.hid (Stp.trans h0.out hs); clear hs))
    go_ret
    exact ⟨rfl, h0.out⟩
/-- The nodes up to so many rise. -/
theorem rises_upto {ns : List Nd} (h : ∀ (i : Nat) (x : Nd), i < ns.length → ns[i]? = some x → riseB ns i x = true) : Rises ns := rises_iff.1 fun i n hi => h i n (List.getElem?_eq_some_iff.1 hi).1 hi
theorem rise_more {ns : List Nd} {k : Nat} {n : Nd} (hk : ns[k]? = some n) (hn : riseB ns k n = true) (h : ∀ (j : Nat) (x : Nd), j < k → ns[j]? = some x → riseB ns j x = true) : ∀ (j : Nat) (x : Nd), j < k + 1 → ns[j]? = some x → riseB ns j x = true := by
  intro j x hj hx
  by_cases e : j = k
  · subst e
    rw [hk] at hx
    cases hx
    exact hn
  · exact h j x (by omega) hx
set_option maxRecDepth 100000 in
set_option maxHeartbeats 4000000 in
theorem rise_s (ns : List Nd) (m : Nat) (hm : ns.length = m) (hl : m ≤ 1000) (b : Bool) (hb : b = true ↔ Rises ns) (A : Option Addr) (k : Nat) (w : World) (ha : RdN w A k ns) :
    Calls Try.prog 39 #[.slice A m k] w fun e w' => e = .returned (.bool b) ∧ Stp w w' := by
  have Ha := Lib.hid ha
  have Hm := Lib.hid hm
  have Hb := Lib.hid hb
  clear ha hm hb
  go_enter Try.func39, Try.ntmps39
  go_wp2_with fail
  go_loopw [3] (fun iv wr => ∃ (j : Nat), 1 ≤ j ∧ iv = .int .i64 (j : Int) ∧ Hid (Stp w wr) ∧ Hid (∀ (i : Nat) (x : Nd), i < j → ns[i]? = some x → riseB ns i x = true)) (fun iv _ => m - (intOf iv).toNat)
  case atStart =>
    refine ⟨1, by omega, rfl, Lib.hid (Stp.refl w), Lib.hid (fun j x hj _ => ?_)⟩
    obtain rfl : j = 0 := by omega
    rfl
  case round =>
    obtain ⟨j, hj, rfl, h0, Hy⟩ := hrel
    by_cases hlt : j < m
    · obtain ⟨i, rfl⟩ : ∃ i, j = i + 1 := ⟨j - 1, by omega⟩
      obtain ⟨n, hn⟩ : ∃ n, ns[i + 1]? = some n := ⟨_, List.getElem?_eq_getElem (by rw [Hm.out]; exact hlt)⟩
      obtain ⟨x, hx⟩ : ∃ x, ns[i]? = some x := ⟨_, List.getElem?_eq_getElem (by rw [Hm.out]; omega)⟩
      have ha := Ha.out.keep h0.out
      obtain ⟨b2, o, rfl, -, q0, -⟩ := ha.cells hn
      obtain ⟨b8, o8, e8, -, r0, -⟩ := ha.cells hx
      cases e8
      have hrs := Tree.rise_succ hx n
      obtain ⟨le, hle⟩ : ∃ y, (Op.bytesLess n.path x.path || n.path == x.path) = y := ⟨_, rfl⟩
      rw [hle] at hrs
      have Hrs := Lib.hid hrs
      have Hn := Lib.hid hn
      have g5 : decide (((i + 1 : Nat) : Int) < (m : Int)) = true := decide_eq_true (by omega)
      clear hx hrs hn ha hj
      cases le
      · have HY2 := Lib.hid (rise_more Hn.out Hrs.out Hy.out)
        go_upto_region 4 with fail
        go_quiet (fail)
        go_wp2_with fail
        go_roundw
        case rel => exact ⟨(i + 1) + 1, by omega, by go_num, Lib.hid (h0.out.drewN _), HY2⟩
        case measure => simp [intOf]; omega
      · go_upto_region 4 with fail
        go_quiet (fail)
        go_wp2_with fail
        go_ret
        refine ⟨congrArg (fun b => Ending.returned (.bool b)) ?_, h0.out.drewN _⟩
        cases hb : b
        · rfl
        · have h2 := rises_iff.2 (Hb.out.1 hb) _ n Hn.out
          rw [Hrs.out] at h2
          cases h2
    · have g5 : decide ((j : Int) < (m : Int)) = false := decide_eq_false (by omega)
      go_wp2_with fail
      go_ret
      refine ⟨congrArg (fun b => Ending.returned (.bool b)) ?_, h0.out⟩
      rw [Hb.out.2 (rises_upto fun i x hi hx => Hy.out i x (by rw [Hm.out] at hi; omega) hx)]
theorem cmay_no {ns : List Nd} {j : Nat} {n : Nd} (hj : ns[j]? = some n) (h : (oneB n && standsB ns n) = false) : mayF ns = false := by
  rw [Bool.eq_false_iff]
  intro hm
  have := (mayF_iff.1 hm).2.2 n (List.mem_of_getElem? hj)
  rw [this.1, this.2] at h
  cases h
theorem cmay_more {ns : List Nd} {k : Nat} {n : Nd} (hk : ns[k]? = some n) (hn : (oneB n && standsB ns n) = true) (h : ∀ (j : Nat) (x : Nd), j < k → ns[j]? = some x → (oneB x && standsB ns x) = true) : ∀ (j : Nat) (x : Nd), j < k + 1 → ns[j]? = some x → (oneB x && standsB ns x) = true := by
  intro j x hj hx
  by_cases e : j = k
  · subst e
    rw [hk] at hx
    cases hx
    exact hn
  · exact h j x (by omega) hx
theorem cmay_yes {ns : List Nd} (hl : ns.length ≤ 20) (hr : Rises ns) (h : ∀ (j : Nat) (x : Nd), j < ns.length → ns[j]? = some x → (oneB x && standsB ns x) = true) : mayF ns = true := by
  refine mayF_iff.2 ⟨hl, hr, fun n hn => ?_⟩
  obtain ⟨i, hi⟩ := List.mem_iff_getElem?.1 hn
  have := h i n (List.getElem?_eq_some_iff.1 hi).1 hi
  rw [Bool.and_eq_true] at this
  exact this
set_option maxRecDepth 100000 in
set_option maxHeartbeats 8000000 in
theorem may_s (ns : List Nd) (m : Nat) (hm : ns.length = m) (hl : m ≤ 1000) (hs : ∀ n ∈ ns, SmallN n) (R : Bool) (hR : mayF ns = R) (A : Option Addr) (k : Nat) (w : World) (ha : RdN w A k ns) :
    Calls Try.prog 22 #[fv A m k] w fun e w' => e = .returned (.bool R) ∧ Stp w w' := by
  have Ha := Lib.hid ha
  have Hm := Lib.hid hm
  have Hs := Lib.hid hs
  have HR := Lib.hid hR
  clear ha hm hs hR
  have h0 := Lib.hid (Stp.alloc (Stp.refl w) (.cells (fcs A m k) 24))
  have HF := Lib.hid (Blk.new w 24 (fcs A m k))
  obtain ⟨rb, hrb⟩ : ∃ b : Bool, b = true ↔ Rises ns := by
    by_cases h : Rises ns
    · exact ⟨true, ⟨fun _ => h, fun _ => rfl⟩⟩
    · exact ⟨false, ⟨fun h2 => absurd h2 (by decide), fun h2 => absurd h2 h⟩⟩
  have Hrb := Lib.hid hrb
  clear hrb
  by_cases h20 : m ≤ 20
  case neg =>
    have g : decide ((20 : Int) < (m : Int)) = true := decide_eq_true (by omega)
    have hno : mayF ns = false := by rw [Bool.eq_false_iff]; intro h; have := (mayF_iff.1 h).1; rw [Hm.out] at this; exact h20 this
    rw [HR.out] at hno
    subst hno
    clear h20
    go_enter Try.func22, Try.ntmps22
    go_upto_region 1 with fail
    change Code.wp _ _ _ _ (w.alloc (.cells (fcs A m k) 24))
    obtain ⟨gf, hgf⟩ : ∃ g, w.heap.size = g := ⟨_, rfl⟩
    rw [hgf] at HF ⊢
    clear hgf
    generalize w.alloc (.cells (fcs A m k) 24) = W0 at h0 HF ⊢
    have fc := fs_cell HF.out
    go_wp2_with fail
    go_ret
    exact ⟨rfl, h0.out⟩
  have g0 : decide ((20 : Int) < (m : Int)) = false := decide_eq_false (by omega)
  cases rb
  · have hno : mayF ns = false := by rw [Bool.eq_false_iff]; intro h; have := Hrb.out.2 (mayF_iff.1 h).2.1; cases this
    rw [HR.out] at hno
    subst hno
    go_enter Try.func22, Try.ntmps22
    go_upto_region 1 with fail
    change Code.wp _ _ _ _ (w.alloc (.cells (fcs A m k) 24))
    obtain ⟨gf, hgf⟩ : ∃ g, w.heap.size = g := ⟨_, rfl⟩
    rw [hgf] at HF ⊢
    clear hgf
    generalize w.alloc (.cells (fcs A m k) 24) = W0 at h0 HF ⊢
    replace Ha := Lib.hid (Ha.out.keep h0.out)
    have fc := fs_cell HF.out
    go_wp2_with (go_at_call 39; (with_reducible refine (rise_s ns m Hm.out hl false Hrb.out A k _ Ha.out).mono ?_); rintro e wn ⟨rfl, hs⟩; replace h0 := Lib.hid (Stp.trans h0.out hs); clear hs)
    go_ret
    exact ⟨rfl, h0.out⟩
  have Hri := Lib.hid (Hrb.out.1 rfl)
  go_enter Try.func22, Try.ntmps22
  go_upto_region 1 with fail
  change Code.wp _ _ _ _ (w.alloc (.cells (fcs A m k) 24))
  obtain ⟨gf, hgf⟩ : ∃ g, w.heap.size = g := ⟨_, rfl⟩
  rw [hgf] at HF ⊢
  clear hgf
  generalize w.alloc (.cells (fcs A m k) 24) = W0 at h0 HF ⊢
  replace Ha := Lib.hid (Ha.out.keep h0.out)
  have fc := fs_cell HF.out
  go_wp2_with (go_at_call 39; (with_reducible refine (rise_s ns m Hm.out hl true Hrb.out A k _ Ha.out).mono ?_); rintro e wn ⟨rfl, hs⟩; replace h0 := Lib.hid (Stp.trans h0.out hs); replace HF := Lib.hid (HF.out.keep hs HF.out.lt); replace Ha := Lib.hid (Ha.out.keep hs); clear hs fc; have fc := fs_cell HF.out)
  go_loopw [4, 18] (fun _ iv wr => ∃ (j : Nat), j ≤ m ∧ iv = .int .i64 (j : Int) ∧ Hid (Blk wr gf 24 (fcs A m k)) ∧ Hid (RdN wr A k ns) ∧ Hid (Stp w wr) ∧ Hid (∀ (i : Nat) (x : Nd), i < j → ns[i]? = some x → (oneB x && standsB ns x) = true)) (fun _ iv _ => m - (intOf iv).toNat)
  case atStart => exact ⟨0, by omega, rfl, HF, Ha, h0, Lib.hid (fun j x hj => by omega)⟩
  case round =>
    clear Ha HF h0 fc g0
    obtain ⟨j, hj, rfl, HF, Ha, h0, Hy⟩ := hrel
    by_cases hlt : j < m
    · obtain ⟨n, hn⟩ : ∃ n, ns[j]? = some n := ⟨_, List.getElem?_eq_getElem (by rw [Hm.out]; exact hlt)⟩
      obtain ⟨b, o, rfl, -, q0, q1, q2, q3, q4, q5, q6, q7⟩ := Ha.out.cells hn
      obtain ⟨on, f1⟩ : ∃ x, oneB n = x := ⟨_, rfl⟩
      obtain ⟨os, f2⟩ : ∃ x, standsB ns n = x := ⟨_, rfl⟩
      have F1 := Lib.hid f1
      have F2 := Lib.hid f2
      have Hn := Lib.hid hn
      have Hsn := Lib.hid (Hs.out n (List.mem_of_getElem? hn))
      have g5 : decide ((j : Int) < (m : Int)) = true := decide_eq_true (by omega)
      clear f1 f2 hn
      have Hal := Lib.hid (Stp.alloc (Stp.refl wr) (.cells (ncells n) 26))
      have Hb0 := Lib.hid (Blk.new wr 26 (ncells n))
      go_upto_region 6 with fail
      change Code.wp _ _ _ _ (wr.alloc (.cells (ncells n) 26))
      obtain ⟨gn, hgn⟩ : ∃ g, wr.heap.size = g := ⟨_, rfl⟩
      rw [hgn] at Hb0 ⊢
      clear hgn q0 q1 q2 q3 q4 q5 q6 q7
      generalize wr.alloc (.cells (ncells n) 26) = W1 at Hal Hb0 ⊢
      replace h0 := Lib.hid (Stp.trans h0.out Hal.out)
      replace HF := Lib.hid (HF.out.keep Hal.out HF.out.lt)
      replace Ha := Lib.hid (Ha.out.keep Hal.out)
      clear Hal
      have fc := fs_cell HF.out
      obtain ⟨q0, q1, q2, q3, q4, q5, q6, q7⟩ := nd_cells Hb0.out
      cases on
      · go_wp2_with (go_at_call 25; (with_reducible refine (tone_n n _ rfl Hsn.out _ F1.out _).mono ?_); rintro e w2 ⟨rfl, hs⟩; replace h0 := Lib.hid (Stp.trans h0.out hs); clear hs)
        go_ret
        refine ⟨congrArg (fun b => Ending.returned (.bool b)) ?_, h0.out⟩
        rw [← HR.out, cmay_no Hn.out (by rw [F1.out]; rfl)]
      cases os
      all_goals
        go_wp2_with (first
          | (go_at_call 25; (with_reducible refine (tone_n n _ rfl Hsn.out _ F1.out _).mono ?_); rintro e w2 ⟨rfl, hs⟩; replace h0 := Lib.hid (Stp.trans h0.out hs); replace HF := Lib.hid (HF.out.keep hs HF.out.lt); replace Hb0 := Lib.hid (Hb0.out.keep hs Hb0.out.lt); replace Ha := Lib.hid (Ha.out.keep hs); clear hs fc q0 q1 q2 q3 q4 q5 q6 q7; have fc := fs_cell HF.out; obtain ⟨q0, q1, q2, q3, q4, q5, q6, q7⟩ := nd_cells Hb0.out)
          | (go_at_call 33; (with_reducible refine (place_s ns m Hm.out hl Hri.out n _ rfl Hsn.out _ F2.out _ k _ Ha.out).mono ?_); rintro e w3 ⟨rfl, hs⟩; replace h0 := Lib.hid (Stp.trans h0.out hs); replace HF := Lib.hid (HF.out.keep hs HF.out.lt); replace Ha := Lib.hid (Ha.out.keep hs); clear hs fc q0 q1 q2 q3 q4 q5 q6 q7))
      · go_ret
        refine ⟨congrArg (fun b => Ending.returned (.bool b)) ?_, h0.out⟩
        rw [← HR.out, cmay_no Hn.out (by rw [F1.out, F2.out]; rfl)]
      · go_roundw
        case rel => exact ⟨j + 1, by omega, by go_num, HF, Ha, h0, Lib.hid (cmay_more Hn.out (by rw [F1.out, F2.out]; rfl) Hy.out)⟩
        case measure => simp [intOf]; omega
    · obtain rfl : j = m := by omega
      have hy := cmay_yes (by rw [Hm.out]; exact h20) Hri.out (fun i x hi hx => Hy.out i x (by rw [← Hm.out]; exact hi) hx)
      rw [HR.out] at hy
      subst hy
      have g5 : decide ((j : Int) < (j : Int)) = false := decide_eq_false (by omega)
      go_wp2_with fail
      go_ret
      exact ⟨rfl, h0.out⟩
set_option maxRecDepth 100000 in
theorem fsame_s (ns ms : List Nd) (m j : Nat) (hm : ns.length = m) (hj : ms.length = j) (hlm : m ≤ 1000) (hl : j ≤ 1000) (x : Bool) (hx : decide (ns = ms) = x) (A B : Option Addr) (k l : Nat) (w : World) (ha : RdN w A k ns) (hb : RdN w B l ms) :
    Calls Try.prog 23 #[fv A m k, fv B j l] w fun e w' => e = .returned (.bool x) ∧ Stp w w' := by
  have hx2 : (ns == ms) = x := by rw [← hx, Bool.eq_iff_iff, beq_iff_eq, decide_eq_true_eq]
  subst hm hj hx2
  have Ha := Lib.hid ha
  have Hb := Lib.hid hb
  have h0 := Lib.hid (Stp.alloc (Stp.refl w) (.cells (fcs A ns.length k) 24))
  have HF := Lib.hid (Blk.new w 24 (fcs A ns.length k))
  have HN := Lib.hid (by have h := Blk.new (w.alloc (.cells (fcs A ns.length k) 24)) 24 (fcs B ms.length l); simp only [World.size_alloc] at h; exact h)
  replace HF := Lib.hid (HF.out.alloc (.cells (fcs B ms.length l) 24))
  replace h0 := Lib.hid (Stp.alloc h0.out (.cells (fcs B ms.length l) 24))
  have fc := fs_cell HF.out
  have fd := fs_cell HN.out
  clear ha hb hx
  go_enter Try.func23, Try.ntmps23
  go_wp2_with (go_at_call 40; (with_reducible refine (Tree.tsame_s ns ms A B k l _ (Ha.out.keep h0.out) (Hb.out.keep h0.out) hlm hl).mono ?_); rintro e wn ⟨rfl, hs⟩; replace h0 := Lib.hid (Stp.trans h0.out hs); clear hs fc fd)
  go_ret
  exact ⟨rfl, h0.out⟩
end Go.Proofs.Ytjddgmdbgajjpaa.Fs
