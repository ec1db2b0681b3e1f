/-
  What the code's package strip keeps: the contracts of One, Strip and Left: no statement is proved here.
-/
import Derived.Test.YthjdejjejlhioaaGreatDoorStripI
import Derived.Test.YthjdejjejlhioaaGreatDoorVolA
import Derived.Test.YthjdejjejlhioaaGreatDoorParseC
import Derived.Test.YthjdejjejlhioaaGreatDoorParseMayC
import Derived.Test.YthjdejjejlhioaaGreatDoorContK
import Derived.Test.YthjdejjejlhioaaGreatDoorLabelA
import Derived.Test.YthjdejjejlhioaaGreatDoorFRows
import Derived.Deep.RegionWith
import Derived.Deep.RegionLaw
import Derived.BigQuiet
import Derived.Lib.QuietBelow
namespace Go.Proofs.YthjdejjejlhioaaGreatDoor.Strip
open Go.Sort Go.RowKit Go.Proofs.YthjdejjejlhioaaGreatDoor.Str Go.Proofs.YthjdejjejlhioaaGreatDoor.Base Go.Proofs.YthjdejjejlhioaaGreatDoor.Node Go.Proofs.YthjdejjejlhioaaGreatDoor.Head Go.Proofs.YthjdejjejlhioaaGreatDoor.Long Go.Proofs.YthjdejjejlhioaaGreatDoor.Entry Go.Proofs.YthjdejjejlhioaaGreatDoor.LabelM Go.Proofs.YthjdejjejlhioaaGreatDoor.ContM Go.Proofs.YthjdejjejlhioaaGreatDoor.Stream Go.Proofs.YthjdejjejlhioaaGreatDoor.VolM Go.Proofs.YthjdejjejlhioaaGreatDoor.Vol Go.Proofs.YthjdejjejlhioaaGreatDoor.StripM
open Go.Proofs.YthjdejjejlhioaaGreatDoor.Parse (St zeroS phS runS stepS)
open Go.Proofs.YthjdejjejlhioaaGreatDoor.Tape (FRows FrB From Abv)
set_option linter.unusedVariables false

/-! ### plain -/
theorem get_le (l : LL) (h : (getC l).2.2.2.2 = true) : 0 ≤ (getC l).2.2.2.1 ∧ (getC l).2.2.2.1 ≤ (l.length : Int) := by
  rcases get_yes l with e | ⟨n, off, -, -, a, -, e⟩
  · rw [e] at h
    cases h
  · rw [e]
    dsimp only
    omega
theorem one_ok {s : St} {name : List UInt8} {n : Int} {v : LL} (h : (oneV s name n v).2 = 0) : Parse.mayS s = true ∧ s.phase ≠ 5 ∧ 0 ≤ (oneV s name n v).1 ∧ (oneV s name n v).1 ≤ (v.length : Int) := by
  cases v with
  | nil =>
    exfalso
    unfold oneV at h
    split at h
    · cases h
    · split at h <;> cases h
  | cons b r =>
    rw [oneV_cons] at h ⊢
    by_cases h1 : Parse.mayS s = false
    · rw [if_pos h1] at h
      cases h
    rw [if_neg h1] at h ⊢
    by_cases h2 : s.phase = 5
    · rw [if_pos h2] at h
      cases h
    rw [if_neg h2] at h ⊢
    by_cases h3 : getL b ≠ (name, n, 0)
    · rw [if_pos h3] at h
      cases h
    rw [if_neg h3] at h ⊢
    refine ⟨by simpa using h1, h2, ?_⟩
    rw [List.length_cons]
    by_cases h4 : s.phase ≠ 3
    · rw [if_pos h4]
      dsimp only
      omega
    rw [if_neg h4] at h ⊢
    split at h
    · rename_i h5
      rw [if_pos h5]
      have := get_le r h5.1
      dsimp only
      omega
    · cases h
theorem step_512 {s : St} {b : List UInt8} (h : (stepS s b).2.2 = 0) : b.length = 512 := by
  unfold Parse.stepS at h
  split at h
  · cases h
  · rename_i hm
    rw [not_or, Bool.not_eq_false] at hm
    exact Decidable.byContradiction hm.2
theorem run_512 (l : LL) : ∀ s : St, ∀ b ∈ l.take (runS s l).2.2.1, b.length = 512 := by
  induction l with
  | nil => intro s b hb; simp at hb
  | cons x l ih =>
    intro s b hb
    by_cases h : (stepS s x).2.2 = 0
    · by_cases h5 : (stepS s x).1.phase = 5
      · rw [Parse.run_end l h h5] at hb
        simp only [List.take_succ_cons, List.take_zero, List.mem_singleton] at hb
        rw [hb]
        exact step_512 h
      · rw [Parse.run_on l h h5] at hb
        simp only [List.take_succ_cons, List.mem_cons] at hb
        rcases hb with rfl | hb
        · exact step_512 h
        · exact ih _ b hb
    · rw [Parse.run_bad l h] at hb
      simp at hb
/-- What one volume makes of a state, and of the blocks so far. -/
def takeV (name : List UInt8) (s : St) (out : LL) (n : Int) (v : LL) : St × LL × Int :=
  if (oneV s name n v).2 ≠ 0 then (s, out, (oneV s name n v).2)
  else ((runS s (v.drop (oneV s name n v).1.toNat)).1, out ++ (v.drop (oneV s name n v).1.toNat).take (runS s (v.drop (oneV s name n v).1.toNat)).2.2.1, (runS s (v.drop (oneV s name n v).1.toNat)).2.2.2)
theorem strip_cons (name : List UInt8) (v : LL) (vs : List LL) (i : Nat) (s : St) (out : LL) : stripG name (v :: vs) i s out =
    if (takeV name s out ((i : Int) + 1) v).2.2 ≠ 0 then ((takeV name s out ((i : Int) + 1) v).1, [], (takeV name s out ((i : Int) + 1) v).2.2)
    else if (takeV name s out ((i : Int) + 1) v).1.phase = 5 then ((takeV name s out ((i : Int) + 1) v).1, (takeV name s out ((i : Int) + 1) v).2.1, 0)
    else stripG name vs (i + 1) (takeV name s out ((i : Int) + 1) v).1 (takeV name s out ((i : Int) + 1) v).2.1 := by
  rw [stripG]
  unfold takeV
  by_cases h : (oneV s name ((i : Int) + 1) v).2 ≠ 0
  · rw [if_pos h, if_pos h, if_pos h]
  · rw [if_neg h, if_neg h]
theorem take_facts {name : List UInt8} {s : St} {out : LL} {n : Int} {v : LL} {s2 : St} {out2 : LL} {e : Int} (h : takeV name s out n v = (s2, out2, e)) (hm : Parse.mayS s = true) : Parse.mayS s2 = true ∧ out2.length ≤ out.length + v.length := by
  unfold takeV at h
  split at h
  · cases h
    exact ⟨hm, by omega⟩
  · cases h
    have f := Parse.run_facts (v.drop (oneV s name n v).1.toNat) s
    refine ⟨f.may hm, ?_⟩
    rw [List.length_append, List.length_take, List.length_drop]
    omega

/-! ### the label, and what goes on -/
set_option maxRecDepth 100000 in
theorem has_s (b : List UInt8) (z : Nat) (hz : b.length = z) (name : List UInt8) (n : Int) (r : Bool) (hr : decide (getL b = (name, n, 0)) = r) (A : Option Addr) (c : Nat) (w : World) (ha : RdA w A c (bs b)) (htab : Label.Tab w) :
    Calls Tryz.prog 33 #[.slice A z c, .string ⟨name.toArray⟩, .int .i64 n] w fun e w' => e = .returned (.bool r) ∧ Stp w w' := by
  obtain ⟨x, k, e0, hg⟩ : ∃ x k e0, getL b = (x, k, e0) := ⟨_, _, _, rfl⟩
  obtain ⟨q1, k1⟩ : ∃ q, (e0 == 0) = q := ⟨_, rfl⟩
  obtain ⟨q2, k2⟩ : ∃ q, (x == name) = q := ⟨_, rfl⟩
  obtain ⟨q3, k3⟩ : ∃ q, (k == n) = q := ⟨_, rfl⟩
  have E : r = (q1 && (q2 && q3)) := by
    rw [← hr, hg, ← k1, ← k2, ← k3, Bool.eq_iff_iff]
    simp only [decide_eq_true_eq, Prod.mk.injEq, Bool.and_eq_true, beq_iff_eq]
    constructor
    · rintro ⟨a, b, c⟩
      exact ⟨c, a, b⟩
    · rintro ⟨c, a, b⟩
      exact ⟨a, b, c⟩
  have HE := Lib.hid E
  have HG := Lib.hid hg
  have Ha := Lib.hid ha
  have HT := Lib.hid htab
  have Hz := Lib.hid hz
  have h0 := Stp.refl w
  clear E hg ha htab hz hr
  cases q1 <;> cases q2 <;> cases q3
  all_goals
    go_enter Tryz.func33, Tryz.ntmps33
    go_wp2_with (go_at_call 55; (with_reducible refine (Label.lget_s b z Hz.out x k e0 HG.out A c _ Ha.out HT.out).mono ?_); rintro e w1 ⟨rfl, hs⟩; replace h0 := Stp.trans h0 hs; clear hs)
    go_ret
    exact ⟨by rw [HE.out]; rfl, h0⟩
set_option maxRecDepth 100000 in
set_option maxHeartbeats 2000000 in
theorem goes_s (s : St) (hw1 : -9223372036854775808 ≤ s.size - s.left) (hw2 : s.size - s.left < 9223372036854775808) (l : LL) (z : Nat) (hz : l.length = z) (hz3 : z < 9223372036854775808) (hsm : ∀ b ∈ l, b.length < 9223372036854775808)
    (m : Nd) (off whole k : Int) (b : Bool) (hg : getC l = (m, off, whole, k, b)) (r : Bool) (hr : (b && (decide (m = s.node) && ((off == s.size - s.left) && (whole == s.size)))) = r) (A : Option Addr) (c : Nat) (w : World) (ha : RdL w A c l) :
    Calls Tryz.prog 34 #[Parse.sv s, .slice A z c] w fun e w' => e = .returned (.tuple #[.int .i64 k, .bool r]) ∧ Stp w w' := by
  obtain ⟨D, hD⟩ : ∃ D, s.size - s.left = D := ⟨_, rfl⟩
  have hsub : ∀ w : World, (binOp .sub 3 (.int .i64 s.size) (.int .i64 s.left)).run Tryz.prog w = .ok (.int .i64 D) w := by
    intro w
    simp [binOp, Op.intArith, go_sem]
    rw [hD, IntWalk.i64_in _ ⟨by omega, by omega⟩]
  have hwr : IntKind.i64.wrap (s.size - s.left) = D := by rw [hD, IntWalk.i64_in _ ⟨by omega, by omega⟩]
  obtain ⟨q1, k1⟩ : ∃ q, decide (m = s.node) = q := ⟨_, rfl⟩
  have heq : ∀ w : World, (Op.equalIn 10000 44 (nv m) (nv s.node)).run Tryz.prog w = .ok q1 w := fun w => by rw [Tree.eq_nodes, k1]
  obtain ⟨q2, k2⟩ : ∃ q, (off == D) = q := ⟨_, rfl⟩
  obtain ⟨q3, k3⟩ : ∃ q, (whole == s.size) = q := ⟨_, rfl⟩
  rw [hD, k1, k2, k3] at hr
  have HR := Lib.hid hr
  have H := Lib.hid (Stp.alloc (Stp.refl w) (.cells (Parse.scells s) 46))
  have Hb := Lib.hid (Blk.new w 46 (Parse.scells s))
  have Ha := Lib.hid (ha.keep H.out)
  have HG := Lib.hid hg
  have Hz := Lib.hid hz
  have Hz3 := Lib.hid hz3
  have Hsm := Lib.hid hsm
  have hng := Tree.noGuardN
  obtain ⟨q_0, q_1, q_2, q_3, q_4, q_5, q_6, q_7, q_8, q_9, q_10, q_11, q_12, q_13⟩ := Parse.st_cells Hb.out
  clear hr ha hg hz hz3 hsm hD k1 hw1 hw2
  cases b <;> cases q1 <;> cases q2 <;> cases q3
  all_goals
    go_enter Tryz.func34, Tryz.ntmps34
    go_upto_region 2 with (go_at_call 56; (with_reducible refine (Cont.cget_s l z Hz.out Hz3.out Hsm.out m off whole k _ HG.out A c _ Ha.out).mono ?_); rintro e w1 ⟨rfl, hs⟩; replace H := Lib.hid (Stp.trans H.out hs); replace Hb := Lib.hid (Hb.out.keep hs Hb.out.lt); have HN := Lib.hid (Blk.new w1 44 (ncells m)); clear hs q_0 q_1 q_2 q_3 q_4 q_5 q_6 q_7 q_8 q_9 q_10 q_11 q_12 q_13)
  all_goals
    have HA2 := Stp.alloc (Stp.refl w1) (.cells (ncells m) 44)
    replace H := Lib.hid (Stp.trans H.out HA2)
    replace Hb := Lib.hid (Hb.out.keep HA2 Hb.out.lt)
    change Code.wp _ _ _ _ (w1.alloc (.cells (ncells m) 44))
    obtain ⟨g1, hg1⟩ : ∃ x, w1.heap.size = x := ⟨_, rfl⟩
    rw [hg1] at HN ⊢
    clear HA2 hg1
    generalize w1.alloc (.cells (ncells m) 44) = W at H Hb HN ⊢
    obtain ⟨q_0, q_1, q_2, q_3, q_4, q_5, q_6, q_7, q_8, q_9, q_10, q_11, q_12, q_13⟩ := Parse.st_cells Hb.out
    obtain ⟨r0, r1, r2, r3, r4, r5, r6, r7⟩ := nd_cells HN.out
    go_quiet (fail)
    go_wp2
    go_ret2
    exact ⟨by rw [← HR.out]; rfl, Stp.drewN H.out _⟩

/-! ### slices of blocks -/
theorem cut_from (A : Option Addr) (N c k : Nat) (hk : k ≤ N) (hN : N ≤ c) : ∃ A', (∀ w : World, (Instr.slice 33 (.slice A N c) (some (.int .i64 (k : Int))) none none).run Tryz.prog w = .ok (.slice A' (N - k) (c - k)) w) ∧
    ∀ (w : World) (ls : LL), ls.length = N → RdL w A c ls → RdL w A' (c - k) (ls.drop k) := by
  have he : Tryz.prog.elem 33 = 57 := by kernel_rfl
  by_cases hc : c = k
  · refine ⟨A, fun w => ?_, fun w ls hl h => ?_⟩
    · rw [run_slice_l (P := Tryz.prog) w 33 _ _ _ (by rw [he]; exact Tryz.underlying33) .i64 k (by omega) (by omega), he, Entry.sl_size]
      simp only [Result.andThen_ok, sliced]
      rw [if_pos (by omega)]
      rfl
    · rw [List.drop_eq_nil_of_le (by omega)]
      exact Entry.rdL_none _ _ _
  · refine ⟨A.map (fun a => a.add k), fun w => ?_, fun w ls hl h => ?_⟩
    · rw [run_slice_l (P := Tryz.prog) w 33 _ _ _ (by rw [he]; exact Tryz.underlying33) .i64 k (by omega) (by omega), he, Entry.sl_size]
      simp only [Result.andThen_ok, sliced]
      rw [if_neg (by omega)]
      simp only [Int.toNat_natCast, Nat.mul_one]
    · by_cases hn : ls.length ≤ k
      · rw [List.drop_eq_nil_of_le hn]
        exact Entry.rdL_none _ _ _
      · obtain ⟨b, o, A1, c1, rfl, -, -⟩ := h.at_ (j := 0) (List.getElem?_eq_getElem (by omega))
        show RdL w (some ((⟨b, o, none⟩ : Addr).add k)) (c - k) (ls.drop k)
        rw [Addr.add_lit]
        exact Entry.rdL_drop k o c ls (by omega) h
theorem cut_mid (A : Option Addr) (N c i m : Nat) (hi : i + m ≤ N) (hN : N ≤ c) : ∃ A', (∀ w : World, (Instr.slice 33 (.slice A N c) (some (.int .i64 (i : Int))) (some (.int .i64 ((i : Int) + (m : Int)))) none).run Tryz.prog w = .ok (.slice A' m (c - i)) w) ∧
    ∀ (w : World) (ls : LL), ls.length = N → RdL w A c ls → RdL w A' (c - i) ((ls.drop i).take m) := by
  have he : Tryz.prog.elem 33 = 57 := by kernel_rfl
  have hm : ((i : Int) + (m : Int)).toNat - i = m := by omega
  by_cases hc : c = i
  · refine ⟨A, fun w => ?_, fun w ls hl h => ?_⟩
    · rw [run_slice_lh (P := Tryz.prog) w 33 _ _ _ (by rw [he]; exact Tryz.underlying33) .i64 .i64 _ _ (by omega) (by omega) (by omega), he, Entry.sl_size]
      simp only [Result.andThen_ok, sliced]
      rw [if_pos (by omega), Int.toNat_natCast, hm]
    · rw [List.drop_eq_nil_of_le (by omega), List.take_nil]
      exact Entry.rdL_none _ _ _
  · refine ⟨A.map (fun a => a.add i), fun w => ?_, fun w ls hl h => ?_⟩
    · rw [run_slice_lh (P := Tryz.prog) w 33 _ _ _ (by rw [he]; exact Tryz.underlying33) .i64 .i64 _ _ (by omega) (by omega) (by omega), he, Entry.sl_size]
      simp only [Result.andThen_ok, sliced]
      rw [if_neg (by omega)]
      simp only [Int.toNat_natCast, Nat.mul_one, hm]
    · by_cases hn : ls.length ≤ i
      · rw [List.drop_eq_nil_of_le hn, List.take_nil]
        exact Entry.rdL_none _ _ _
      · obtain ⟨b, o, A1, c1, rfl, -, -⟩ := h.at_ (j := 0) (List.getElem?_eq_getElem (by omega))
        show RdL w (some ((⟨b, o, none⟩ : Addr).add i)) (c - i) ((ls.drop i).take m)
        rw [Addr.add_lit]
        exact Entry.rdL_take (Entry.rdL_drop i o c ls (by omega) h) m

/-! ### One -/
set_option maxRecDepth 100000 in
set_option maxHeartbeats 4000000 in
theorem one_s (s : St) (v : Value) (hv : v = Parse.sv s) (hs : Parse.SmallS s) (name : List UInt8) (n : Int) (x : LL) (z : Nat) (hz : x.length = z) (hz2 : z ≤ 1000) (hb : ∀ b ∈ x, b.length < 9223372036854775808)
    (k e0 : Int) (ho : oneV s name n x = (k, e0)) (A : Option Addr) (c : Nat) (w : World) (ha : RdL w A c x) (htab : Label.Tab w) :
    Calls Tryz.prog 19 #[v, .string ⟨name.toArray⟩, .int .i64 n, .slice A z c] w fun e w' => e = .returned (.tuple #[.int .i64 k, .int .i64 e0]) ∧ Stp w w' := by
  subst hv
  have H := Lib.hid (Stp.alloc (Stp.refl w) (.cells (Parse.scells s) 46))
  have Hb := Lib.hid (Blk.new w 46 (Parse.scells s))
  have Ha := Lib.hid (ha.keep H.out)
  have HT := Lib.hid (Label.Tab.keep htab H.out)
  have Hs := Lib.hid hs
  have Hbl := Lib.hid hb
  have hzc := ha.length_le
  obtain ⟨q_0, q_1, q_2, q_3, q_4, q_5, q_6, q_7, q_8, q_9, q_10, q_11, q_12, q_13⟩ := Parse.st_cells Hb.out
  clear hs hb ha htab
  by_cases m1 : Parse.mayS s = true
  case neg =>
    have hk : k = 0 ∧ e0 = 1 := by
      unfold oneV at ho
      rw [if_pos (by simpa using m1)] at ho
      cases ho
      exact ⟨rfl, rfl⟩
    obtain ⟨rfl, rfl⟩ := hk
    have HM : Hid (Parse.mayS s = false) := Lib.hid (by simpa using m1)
    clear m1 ho hz
    go_enter Tryz.func19, Tryz.ntmps19
    go_wp2_with (go_at_call 18; (with_reducible refine (Parse.cmay_s s _ rfl Hs.out _).mono ?_); rintro e w1 ⟨rfl, hs⟩; rw [HM.out]; replace H := Lib.hid (Stp.trans H.out hs); clear hs)
    go_ret2
    exact ⟨rfl, H.out⟩
  by_cases m2 : s.phase = 5
  · have hk : k = 0 ∧ e0 = 17 := by
      unfold oneV at ho
      rw [if_neg (by simp [m1]), if_pos m2] at ho
      cases ho
      exact ⟨rfl, rfl⟩
    obtain ⟨rfl, rfl⟩ := hk
    have HM := Lib.hid m1
    have g1 : (s.phase == 5) = true := by simpa using m2
    clear m1 m2 ho hz
    go_enter Tryz.func19, Tryz.ntmps19
    go_wp2_with (go_at_call 18; (with_reducible refine (Parse.cmay_s s _ rfl Hs.out _).mono ?_); rintro e w1 ⟨rfl, hs⟩; rw [HM.out]; replace H := Lib.hid (Stp.trans H.out hs); replace Hb := Lib.hid (Hb.out.keep hs Hb.out.lt); clear hs q_0 q_1 q_2 q_3 q_4 q_5 q_6 q_7 q_8 q_9 q_10 q_11 q_12 q_13; obtain ⟨q_0, q_1, q_2, q_3, q_4, q_5, q_6, q_7, q_8, q_9, q_10, q_11, q_12, q_13⟩ := Parse.st_cells Hb.out)
    go_ret2
    exact ⟨rfl, H.out⟩
  have g1 : (s.phase == 5) = false := by simpa using m2
  cases x with
  | nil =>
    have hk : k = 0 ∧ e0 = 7 := by
      unfold oneV at ho
      rw [if_neg (by simp [m1]), if_neg m2] at ho
      cases ho
      exact ⟨rfl, rfl⟩
    obtain ⟨rfl, rfl⟩ := hk
    obtain rfl : z = 0 := by simpa using hz.symm
    have HM := Lib.hid m1
    clear m1 m2 ho hz
    go_enter Tryz.func19, Tryz.ntmps19
    go_wp2_with (go_at_call 18; (with_reducible refine (Parse.cmay_s s _ rfl Hs.out _).mono ?_); rintro e w1 ⟨rfl, hs⟩; rw [HM.out]; replace H := Lib.hid (Stp.trans H.out hs); replace Hb := Lib.hid (Hb.out.keep hs Hb.out.lt); clear hs q_0 q_1 q_2 q_3 q_4 q_5 q_6 q_7 q_8 q_9 q_10 q_11 q_12 q_13; obtain ⟨q_0, q_1, q_2, q_3, q_4, q_5, q_6, q_7, q_8, q_9, q_10, q_11, q_12, q_13⟩ := Parse.st_cells Hb.out)
    go_ret2
    exact ⟨rfl, H.out⟩
  | cons b r =>
    rw [oneV_cons, if_neg (by simp [m1]), if_neg m2] at ho
    obtain ⟨bb, oo, A1, c1, rfl, hc0, hr0⟩ := Ha.out.at_ (j := 0) rfl
    rw [Nat.add_zero] at hc0
    have hz1 : r.length + 1 = z := hz
    have hzp : 0 < z := by omega
    have hbz := (List.forall_mem_cons.1 Hbl.out).2
    obtain ⟨A2, h21, h22⟩ := cut_from (some ⟨bb, oo, none⟩) z c 1 (by omega) (by rw [← hz]; exact hzc)
    have hsl : ∀ w : World, (Instr.slice 33 (.slice (some ⟨bb, oo, none⟩) z c) (some (.int .i64 1)) none none).run Tryz.prog w = .ok (.slice A2 (z - 1) (c - 1)) w := fun w => h21 w
    obtain ⟨q, hq⟩ : ∃ q, decide (getL b = (name, n, 0)) = q := ⟨_, rfl⟩
    obtain ⟨zb, hzb⟩ : ∃ zb, b.length = zb := ⟨_, rfl⟩
    rw [hzb] at hc0
    have g2 : ((z : Int) == 0) = false := by
      rw [beq_eq_false_iff_ne]
      omega
    have HM := Lib.hid m1
    have HQ := Lib.hid hq
    have Hzb := Lib.hid hzb
    have HR := Lib.hid (h22 _ _ hz Ha.out)
    have Hr1 : Hid (r.length = z - 1) := Lib.hid (by omega)
    have Hbz := Lib.hid hbz
    have HA1 := Lib.hid hr0
    have Hz1 : Hid (z - 1 < 9223372036854775808) := Lib.hid (by omega)
    cases q
    · have hk : k = 0 ∧ e0 = 11 := by
        rw [if_pos (by simpa using hq)] at ho
        cases ho
        exact ⟨rfl, rfl⟩
      obtain ⟨rfl, rfl⟩ := hk
      clear m1 m2 ho hz h21 h22 hq hzb hbz hr0 hzc hz1
      go_enter Tryz.func19, Tryz.ntmps19
      go_wp2_with (first
        | (go_at_call 18; (with_reducible refine (Parse.cmay_s s _ rfl Hs.out _).mono ?_); rintro e w1 ⟨rfl, hs⟩; rw [HM.out]; replace H := Lib.hid (Stp.trans H.out hs); replace Hb := Lib.hid (Hb.out.keep hs Hb.out.lt); replace HT := Lib.hid (Label.Tab.keep HT.out hs); replace HA1 := Lib.hid (RdA.keep HA1.out hs); replace hc0 := (hs.cell (p := ⟨bb, oo, none⟩) (World.block_lt_of_cell? _ _ hc0)).trans hc0; clear hs q_0 q_1 q_2 q_3 q_4 q_5 q_6 q_7 q_8 q_9 q_10 q_11 q_12 q_13; obtain ⟨q_0, q_1, q_2, q_3, q_4, q_5, q_6, q_7, q_8, q_9, q_10, q_11, q_12, q_13⟩ := Parse.st_cells Hb.out)
        | (go_at_call 33; (with_reducible refine (has_s b zb Hzb.out name n false HQ.out A1 c1 _ HA1.out HT.out).mono ?_); rintro e w2 ⟨rfl, hs⟩; replace H := Lib.hid (Stp.trans H.out hs); clear hs hc0 q_0 q_1 q_2 q_3 q_4 q_5 q_6 q_7 q_8 q_9 q_10 q_11 q_12 q_13))
      go_ret2
      exact ⟨rfl, H.out⟩
    · rw [if_neg (by simpa using hq)] at ho
      by_cases m3 : s.phase = 3
      · rw [if_neg (by simpa using m3)] at ho
        have g3 : (s.phase != 3) = false := by simpa using m3
        obtain ⟨a1, ⟨a2, a3, a4, a5, a6, a7, a8, a9⟩, -, -⟩ := (Parse.data_iff m3).1 m1
        obtain ⟨m, off, whole, kk, ok, hg⟩ : ∃ m off whole kk ok, getC r = (m, off, whole, kk, ok) := ⟨_, _, _, _, _, rfl⟩
        obtain ⟨rr, hrr⟩ : ∃ rr, (ok && (decide (m = s.node) && ((off == s.size - s.left) && (whole == s.size)))) = rr := ⟨_, rfl⟩
        have HG := Lib.hid hg
        have HRR := Lib.hid hrr
        have hw1 : Hid (-9223372036854775808 ≤ s.size - s.left) := Lib.hid (by omega)
        have hw2 : Hid (s.size - s.left < 9223372036854775808) := Lib.hid (by omega)
        rw [hg] at ho
        dsimp only at ho
        have key : (rr = false ∧ k = 0 ∧ e0 = 12) ∨ (rr = true ∧ k = kk + 1 ∧ e0 = 0 ∧ 0 ≤ kk ∧ kk ≤ 1000) := by
          cases rr
          · rw [if_neg] at ho
            · cases ho
              exact .inl ⟨rfl, rfl, rfl⟩
            · rintro ⟨b1, b2, b3, b4⟩
              rw [b1, b2, b3, b4] at hrr
              simp at hrr
          · simp only [Bool.and_eq_true, decide_eq_true_eq, beq_iff_eq] at hrr
            have h := get_le r (by rw [hg]; exact hrr.1)
            rw [hg] at h
            dsimp only at h
            rw [if_pos hrr] at ho
            cases ho
            exact .inr ⟨rfl, rfl, rfl, by omega, by omega⟩
        rcases key with ⟨rfl, rfl, rfl⟩ | ⟨rfl, rfl, rfl, hk0, hk1⟩
        all_goals
          clear m1 m2 m3 ho hz h21 h22 hq hzb hbz hr0 hzc hz1 hg hrr a1 a2 a3 a4 a5 a6 a7 a8 a9
          go_enter Tryz.func19, Tryz.ntmps19
          go_upto_region 11 with (first
            | (go_at_call 18; (with_reducible refine (Parse.cmay_s s _ rfl Hs.out _).mono ?_); rintro e w1 ⟨rfl, hs⟩; rw [HM.out]; replace H := Lib.hid (Stp.trans H.out hs); replace Hb := Lib.hid (Hb.out.keep hs Hb.out.lt); replace HT := Lib.hid (Label.Tab.keep HT.out hs); replace HA1 := Lib.hid (RdA.keep HA1.out hs); replace HR := Lib.hid (HR.out.keep hs); replace hc0 := (hs.cell (p := ⟨bb, oo, none⟩) (World.block_lt_of_cell? _ _ hc0)).trans hc0; clear hs q_0 q_1 q_2 q_3 q_4 q_5 q_6 q_7 q_8 q_9 q_10 q_11 q_12 q_13; obtain ⟨q_0, q_1, q_2, q_3, q_4, q_5, q_6, q_7, q_8, q_9, q_10, q_11, q_12, q_13⟩ := Parse.st_cells Hb.out)
            | (go_at_call 33; (with_reducible refine (has_s b zb Hzb.out name n true HQ.out A1 c1 _ HA1.out HT.out).mono ?_); rintro e w2 ⟨rfl, hs⟩; replace H := Lib.hid (Stp.trans H.out hs); replace Hb := Lib.hid (Hb.out.keep hs Hb.out.lt); replace HR := Lib.hid (HR.out.keep hs); clear hs hc0 q_0 q_1 q_2 q_3 q_4 q_5 q_6 q_7 q_8 q_9 q_10 q_11 q_12 q_13; obtain ⟨q_0, q_1, q_2, q_3, q_4, q_5, q_6, q_7, q_8, q_9, q_10, q_11, q_12, q_13⟩ := Parse.st_cells Hb.out))
          have X := Lib.hid (show Stp w2 w2.drew from Stp.drewN (Stp.refl w2) 1)
          have C := Lib.hid (goes_s s hw1.out hw2.out r (z - 1) Hr1.out Hz1.out Hbz.out m off whole kk ok HG.out _ HRR.out A2 (c - 1) w2.drew (HR.out.keep X.out))
          go_region_with (go_at_call 34; (with_reducible refine C.out.mono ?_); rintro e w3 ⟨rfl, hs⟩; replace H := Lib.hid (Stp.trans H.out (Stp.trans X.out hs)); clear hs q_0 q_1 q_2 q_3 q_4 q_5 q_6 q_7 q_8 q_9 q_10 q_11 q_12 q_13)
          all_goals go_wp2
          all_goals go_ret2
          all_goals exact ⟨rfl, H.out⟩
      · have hk : k = 1 ∧ e0 = 0 := by
          rw [if_pos m3] at ho
          cases ho
          exact ⟨rfl, rfl⟩
        obtain ⟨rfl, rfl⟩ := hk
        have g3 : (s.phase != 3) = true := by simpa using m3
        clear m1 m2 m3 ho hz h21 h22 hq hzb hbz hr0 hzc hz1
        go_enter Tryz.func19, Tryz.ntmps19
        go_wp2_with (first
          | (go_at_call 18; (with_reducible refine (Parse.cmay_s s _ rfl Hs.out _).mono ?_); rintro e w1 ⟨rfl, hs⟩; rw [HM.out]; replace H := Lib.hid (Stp.trans H.out hs); replace Hb := Lib.hid (Hb.out.keep hs Hb.out.lt); replace HT := Lib.hid (Label.Tab.keep HT.out hs); replace HA1 := Lib.hid (RdA.keep HA1.out hs); replace hc0 := (hs.cell (p := ⟨bb, oo, none⟩) (World.block_lt_of_cell? _ _ hc0)).trans hc0; clear hs q_0 q_1 q_2 q_3 q_4 q_5 q_6 q_7 q_8 q_9 q_10 q_11 q_12 q_13; obtain ⟨q_0, q_1, q_2, q_3, q_4, q_5, q_6, q_7, q_8, q_9, q_10, q_11, q_12, q_13⟩ := Parse.st_cells Hb.out)
          | (go_at_call 33; (with_reducible refine (has_s b zb Hzb.out name n true HQ.out A1 c1 _ HA1.out HT.out).mono ?_); rintro e w2 ⟨rfl, hs⟩; replace H := Lib.hid (Stp.trans H.out hs); replace Hb := Lib.hid (Hb.out.keep hs Hb.out.lt); clear hs hc0 q_0 q_1 q_2 q_3 q_4 q_5 q_6 q_7 q_8 q_9 q_10 q_11 q_12 q_13; obtain ⟨q_0, q_1, q_2, q_3, q_4, q_5, q_6, q_7, q_8, q_9, q_10, q_11, q_12, q_13⟩ := Parse.st_cells Hb.out))
        go_ret2
        exact ⟨rfl, H.out⟩

/-! ### what run keeps -/
/-- The name, the answer's place, the blocks so far, and the state. -/
structure RS (w0 w : World) (name : List UInt8) (G : Nat) (s : St) (v : Value) (out : LL) : Prop where
  stp : Stp w0 w
  ge : w0.heap.size ≤ G
  nm : Blk w G 9 #[.string ⟨name.toArray⟩]
  r : Blk w (G + 1) 46 (Parse.scells zeroS)
  a : Blk w (G + 2) 33 #[v]
  s : Blk w (G + 3) 46 (Parse.scells s)
  rows : FRows w (From (G + 4)) v out
section
variable {w0 w w' : World} {name : List UInt8} {G : Nat} {s : St} {v : Value} {out : LL}
theorem RS.keep (h : RS w0 w name G s v out) (hs : Stp w w') : RS w0 w' name G s v out :=
  ⟨Stp.trans h.stp hs, h.ge, h.nm.keep hs h.nm.lt, h.r.keep hs h.r.lt, h.a.keep hs h.a.lt, h.s.keep hs h.s.lt, h.rows.keep hs⟩
theorem abv_fill {S : Nat → Prop} {g : Nat} (hg : ¬ S g) : ∀ (vs : List Value) (i : Nat) (w w1 : World), Abv S w w1 → Abv S w (fillC g vs i w1)
  | [], _, _, _, h => h
  | v :: vs, i, w, w1, h => abv_fill hg vs (i + 1) w _ (h.trans (Abv.put w1 hg i v))
theorem RS.fill (h : RS w0 w name G s v out) (s' : St) : RS w0 (Ends.fillS w (G + 3) s') name G s' v out :=
  ⟨Ends.fills_stp s' h.stp (by have := h.ge; omega), h.ge, Cont.fillc_far (by omega) (Parse.scells s').toList 0 w h.nm, Cont.fillc_far (by omega) (Parse.scells s').toList 0 w h.r,
    Cont.fillc_far (by omega) (Parse.scells s').toList 0 w h.a, Ends.fills_blk s' h.s, h.rows.abv (abv_fill (by show ¬ G + 4 ≤ G + 3; omega) (Parse.scells s').toList 0 w w (Abv.refl w))⟩
/-- The answer, laid. -/
theorem RS.answer (h : RS w0 w name G s v out) (s' : St) : Blk (Ends.fillS w (G + 1) s') (G + 1) 46 (Parse.scells s') ∧ Stp w0 (Ends.fillS w (G + 1) s') ∧ FRows (Ends.fillS w (G + 1) s') (From (G + 4)) v out :=
  ⟨Ends.fills_blk s' h.r, Ends.fills_stp s' h.stp (by have := h.ge; omega), h.rows.abv (abv_fill (by show ¬ G + 4 ≤ G + 1; omega) (Parse.scells s').toList 0 w w (Abv.refl w))⟩
theorem RS.answerd (h : RS w0 w name G s v out) (s' : St) : Blk (Ends.fillS w (G + 1) s').drew (G + 1) 46 (Parse.scells s') ∧ Stp w0 (Ends.fillS w (G + 1) s').drew ∧ FRows (Ends.fillS w (G + 1) s').drew (From (G + 4)) v out := by
  obtain ⟨h1, h2, h3⟩ := h.answer s'
  generalize Ends.fillS w (G + 1) s' = W at h1 h2 h3 ⊢
  have hd : Stp W W.drew := Stp.drewN (Stp.refl W) 1
  exact ⟨Blk.drew h1, Stp.trans h2 hd, h3.keep hd⟩
theorem RS.put {w6 : World} {v' : Value} {out' : LL} (h : RS w0 w name G s v out) (hR : FRows w6 (From (G + 4)) v' out') (hg : w.grownBy w6 v.ownBlock) : RS w0 (w6.setCell ⟨G + 2, 0, none⟩ v') name G s v' out' := by
  have hge := h.ge
  have n0 := h.rows.ne (g := G) (by show ¬ G + 4 ≤ G; omega)
  have n1 := h.rows.ne (g := G + 1) (by show ¬ G + 4 ≤ G + 1; omega)
  have n2 := h.rows.ne (g := G + 2) (by show ¬ G + 4 ≤ G + 2; omega)
  have n3 := h.rows.ne (g := G + 3) (by show ¬ G + 4 ≤ G + 3; omega)
  exact ⟨Below.setCell (h.rows.stp h.stp (fun b (hb : G + 4 ≤ b) => by omega) hg) (p := ⟨G + 2, 0, none⟩) (by show w0.heap.size ≤ G + 2; omega) v', hge,
    (h.nm.grown hg n0).far (by show G ≠ G + 2; omega) _, (h.r.grown hg n1).far (by show G + 1 ≠ G + 2; omega) _, (h.a.grown hg n2).put 0 v', (h.s.grown hg n3).far (by show G + 3 ≠ G + 2; omega) _,
    hR.abv (Abv.put w6 (by show ¬ G + 4 ≤ G + 2; omega) 0 v')⟩
theorem RS.box (h : RS w0 w name G s v out) : w.cell? ⟨G, 0, none⟩ = some (.string ⟨name.toArray⟩) ∧ w.cell? ⟨G + 2, 0, none⟩ = some v ∧ w.frozen? ⟨G + 2, 0, none⟩ = false :=
  ⟨by rw [h.nm.cell]; rfl, by rw [h.a.cell]; rfl, h.a.free 0⟩
end

/-! ### one volume -/
set_option maxRecDepth 100000 in
set_option maxHeartbeats 4000000 in
theorem take_no {w0 w : World} {name : List UInt8} {G : Nat} {s : St} {v : Value} {out : LL} (h : RS w0 w name G s v out) (htab : Label.Tab w0) (hs : Parse.SmallS s) (n : Int) (x : LL) (z : Nat) (hz : x.length = z) (hz2 : z ≤ 1000) (hb : ∀ b ∈ x, b.length < 9223372036854775808)
    (A : Option Addr) (c : Nat) (ha : RdL w0 A c x) (e1 : Int) (k : Int) (ho : oneV s name n x = (k, e1)) (he : e1 ≠ 0) :
    Calls Tryz.prog 49 #[.int .i64 n, .slice A z c, .pointer (some ⟨G + 3, 0, none⟩), .pointer (some ⟨G, 0, none⟩), .pointer (some ⟨G + 2, 0, none⟩)] w fun e w' => e = .returned (.int .i64 e1) ∧ RS w0 w' name G s v out := by
  have HS := Lib.hid h
  have Ha := Lib.hid (ha.keep h.stp)
  have HT := Lib.hid (Label.Tab.keep htab h.stp)
  have Hs := Lib.hid hs
  have Hz := Lib.hid hz
  have Hz2 := Lib.hid hz2
  have Hb := Lib.hid hb
  have HO := Lib.hid ho
  have g1 : (e1 != 0) = true := by simpa using he
  obtain ⟨b0, b1, b2⟩ := h.box
  obtain ⟨q_0, q_1, q_2, q_3, q_4, q_5, q_6, q_7, q_8, q_9, q_10, q_11, q_12, q_13⟩ := Parse.st_cells h.s
  clear h ha htab hs hz hz2 hb ho he
  go_enter Tryz.func49, Tryz.ntmps49
  go_wp2_with (go_at_call 19; (with_reducible refine (one_s s _ rfl Hs.out name n x z Hz.out Hz2.out Hb.out k e1 HO.out A c _ Ha.out HT.out).mono ?_); rintro e w1 ⟨rfl, hs⟩; replace HS := Lib.hid (HS.out.keep hs); clear hs b0 b1 b2 q_0 q_1 q_2 q_3 q_4 q_5 q_6 q_7 q_8 q_9 q_10 q_11 q_12 q_13)
  go_ret
  exact ⟨rfl, HS.out⟩
set_option maxRecDepth 100000 in
set_option maxHeartbeats 8000000 in
theorem take_yes {w0 w : World} {name : List UInt8} {G : Nat} {s : St} {v : Value} {out : LL} (h : RS w0 w name G s v out) (htab : Label.Tab w0) (hs : Parse.SmallS s) (n : Int) (x : LL) (z : Nat) (hz : x.length = z) (hz2 : z ≤ 1000) (hb : ∀ b ∈ x, b.length < 9223372036854775808)
    (A : Option Addr) (c : Nat) (ha : RdL w0 A c x) (hl : out.length ≤ 999000) (kk : Nat) (ho : oneV s name n x = ((kk : Int), 0)) (t : St) (y : List Parse.Evt) (m : Nat) (er : Int) (hr : runS s (x.drop kk) = (t, y, m, er)) :
    Calls Tryz.prog 49 #[.int .i64 n, .slice A z c, .pointer (some ⟨G + 3, 0, none⟩), .pointer (some ⟨G, 0, none⟩), .pointer (some ⟨G + 2, 0, none⟩)] w fun e w' => e = .returned (.int .i64 er) ∧ ∃ v', RS w0 w' name G t v' (out ++ (x.drop kk).take m) := by
  obtain ⟨-, -, -, hkz⟩ := one_ok (s := s) (name := name) (n := n) (v := x) (by rw [ho])
  rw [ho, hz] at hkz
  dsimp only at hkz
  have hkz2 : kk ≤ z := by omega
  have hzc := ha.length_le
  rw [hz] at hzc
  have hdl : (x.drop kk).length = z - kk := by rw [List.length_drop, hz]
  have hmz : m ≤ z - kk := by
    have := (Parse.run_facts (x.drop kk) s).n
    rw [hr, hdl] at this
    exact this
  have h512 : ∀ b ∈ (x.drop kk).take m, b.length = 512 := by
    have := run_512 (x.drop kk) s
    rw [hr] at this
    exact this
  obtain ⟨A2, h21, h22⟩ := cut_from A z c kk hkz2 hzc
  obtain ⟨A3, h31, h32⟩ := cut_mid A z c kk m (by omega) hzc
  obtain ⟨tk, htk⟩ : ∃ tk, (x.drop kk).take m = tk := ⟨_, rfl⟩
  have htl : tk.length = m := by rw [← htk, List.length_take, hdl]; omega
  obtain ⟨ny, hny⟩ : ∃ ny, y.length = ny := ⟨_, rfl⟩
  rw [htk] at h512 ⊢
  have HS := Lib.hid h
  have Ha := Lib.hid (ha.keep h.stp)
  have HT := Lib.hid (Label.Tab.keep htab h.stp)
  have Hs := Lib.hid hs
  have Hz := Lib.hid hz
  have Hz2 := Lib.hid hz2
  have Hb := Lib.hid hb
  have HO := Lib.hid ho
  have HR2 := Lib.hid (h22 _ x hz ha)
  have HR3 := Lib.hid (h32 _ x hz ha)
  rw [htk] at HR3
  have Hdl := Lib.hid hdl
  have Hdb : Hid (∀ b ∈ x.drop kk, b.length < 9223372036854775808) := Lib.hid fun b hb2 => hb b (List.mem_of_mem_drop hb2)
  have Hr := Lib.hid hr
  have Hny := Lib.hid hny
  have H512 := Lib.hid h512
  have Htl := Lib.hid htl
  have Hol := Lib.hid hl
  have hkm : kk + m ≤ 1000 := by omega
  have Hzk : Hid (z - kk ≤ 1000) := Lib.hid (by omega)
  obtain ⟨b0, b1, b2⟩ := h.box
  obtain ⟨q_0, q_1, q_2, q_3, q_4, q_5, q_6, q_7, q_8, q_9, q_10, q_11, q_12, q_13⟩ := Parse.st_cells h.s
  clear h ha htab hs hz hz2 hb ho hr hkz h22 h32 hdl h512 htl hl htk hmz hzc hny
  go_enter Tryz.func49, Tryz.ntmps49
  go_upto_region 5 with (go_at_call 19; (with_reducible refine (one_s s _ rfl Hs.out name n x z Hz.out Hz2.out Hb.out (kk : Int) 0 HO.out A c _ Ha.out HT.out).mono ?_); rintro e w1 ⟨rfl, hs⟩; replace HS := Lib.hid (HS.out.keep hs); clear hs b0 b1 b2 q_0 q_1 q_2 q_3 q_4 q_5 q_6 q_7 q_8 q_9 q_10 q_11 q_12 q_13)
  go_cut [9, 10] from 24 (fun se sk wx => se = .int .i64 er ∧ sk = .int .i64 (m : Int) ∧ Hid (RS w0 wx name G t v out))
  case first =>
    have X := Lib.hid (show Stp w1 w1.drew from Stp.drewN (Stp.refl w1) 1)
    have C := Lib.hid (Parse.run_i s _ rfl Hs.out (x.drop kk) (z - kk) Hdl.out Hzk.out Hdb.out t y ny m er Hr.out Hny.out A2 (c - kk) w1.drew (HR2.out.keep (Stp.trans HS.out.stp X.out)))
    obtain ⟨q_0, q_1, q_2, q_3, q_4, q_5, q_6, q_7, q_8, q_9, q_10, q_11, q_12, q_13⟩ := Parse.st_cells (Blk.drew HS.out.s)
    go_region_with (first
      | (go_at_call 21; (with_reducible refine C.out.mono ?_); rintro e wx ⟨Bx, dx, rfl, -, hs⟩; have HY := Lib.hid (HS.out.keep (Stp.trans X.out hs)); have HZ := Lib.hid (HY.out.fill t); clear hs q_0 q_1 q_2 q_3 q_4 q_5 q_6 q_7 q_8 q_9 q_10 q_11 q_12 q_13; obtain ⟨n_0, n_1, n_2, n_3, n_4, n_5, n_6, n_7, n_8, n_9, n_10, n_11, n_12, n_13⟩ := Parse.st_cells HY.out.s; obtain ⟨m_0, m_1, m_2, m_3, m_4, m_5, m_6, m_7, m_8, m_9, m_10, m_11, m_12, m_13⟩ := Ends.st_free HY.out.s))
    all_goals
      go_wp2_with fail
      go_simp
      go_meet
      with_reducible exact ⟨rfl, rfl, HZ⟩
  case rest =>
    obtain ⟨rfl, rfl, HS2⟩ := hcut
    go_wp2_with fail
    go_loopw [41] (fun iv wr => ∃ (j : Nat) (v3 : Value), j ≤ m ∧ iv = .int .i64 (j : Int) ∧ Hid (RS w0 wr name G t v3 (out ++ tk.take j))) (fun iv _ => m - (intOf iv).toNat)
    case atStart => exact ⟨0, v, by omega, rfl, Lib.hid (by rw [List.take_zero, List.append_nil]; exact HS2.out)⟩
    case round =>
      obtain ⟨j, v3, hj, rfl, HS3⟩ := hrel
      by_cases hlt : j < m
      · obtain ⟨b, hb1⟩ : ∃ b, tk[j]? = some b := ⟨_, List.getElem?_eq_getElem (by rw [Htl.out]; exact hlt)⟩
        obtain ⟨bb, oo, A1, c1, rfl, hcell, hrd⟩ := (HR3.out.keep HS3.out.stp).at_ hb1
        have hb5 := H512.out b (List.mem_of_getElem? hb1)
        rw [hb5] at hcell
        have HB5 := Lib.hid hb5
        have HRD := Lib.hid hrd
        have g5 : decide ((j : Int) < (m : Int)) = true := decide_eq_true (by omega)
        have Hnx : Hid (out ++ tk.take j ++ [b] = out ++ tk.take (j + 1)) := Lib.hid (by rw [List.append_assoc, List.take_add_one, hb1]; rfl)
        have Hll : Hid ((out ++ tk.take j).length ≤ 1000000) := Lib.hid (by have := Hol.out; rw [List.length_append, List.length_take]; omega)
        have Hsz : Hid (G + 4 ≤ wr.heap.size) := Lib.hid (by have := HS3.out.s.lt; omega)
        obtain ⟨ol, hol⟩ : ∃ ol, (out ++ tk.take (j + 1)).length = ol := ⟨_, rfl⟩
        have Hl2 := Lib.hid hol
        clear hb1 hrd hb5 hol
        go_upto_region 9 with fail
        clear hcell
        obtain ⟨W, hW⟩ : ∃ W, W = wr := ⟨_, rfl⟩
        subst hW
        obtain ⟨-, q1, q2⟩ := HS3.out.box
        have q1d : W.drew.cell? ⟨G + 2, 0, none⟩ = some v3 := q1
        go_region_law (first
          | (go_simp; go_at_call 50; refine (Tape.clone_s b 512 HB5.out _ _ _ (show RdA W.drew A1 c1 (bs b) from HRD.out) (by omega)).mono ?_; rintro e w5 ⟨A5, c5, rfl, hu, hs⟩; have hs5 : Stp W w5 := Stp.trans (show Stp W W.drew from Stp.drewN (Stp.refl _) 1) hs; have hs2 : Stp W (w5.alloc (.cells #[.slice A5 512 c5] 57)) := Stp.alloc hs5 (.cells #[.slice A5 512 c5] 57); have Hsz6 : Hid (G + 4 ≤ (w5.alloc (.cells #[.slice A5 512 c5] 57)).heap.size) := Lib.hid (Nat.le_trans Hsz.out hs2.size); have HU6 := Lib.hid ((hu.less (S' := From (G + 4)) (fun b _ (hb : W.drew.heap.size ≤ b) => Nat.le_trans Hsz.out hb)).abv (Abv.of_stp (Stp.alloc (Stp.refl w5) (.cells #[.slice A5 512 c5] 57)))); have HS6 := Lib.hid (HS3.out.keep hs2); obtain ⟨-, q3, q4⟩ := (HS3.out.keep hs5).box; obtain ⟨-, q5, q6⟩ := HS6.out.box; clear hu hs hs2 hs5)
          | (refine Tape.step_append_push (w := w5.alloc (.cells #[.slice A5 512 c5] 57)) (S := From (G + 4)) rfl _ _ rfl rfl HS6.out.rows rfl HU6.out (by rw [World.size_alloc]; exact Base.rd_lit w5 57 (.slice A5 512 c5)) Hll.out Hsz6.out ?_; intro v' w6 hR hgr hor; rw [Hnx.out] at hR; obtain ⟨A6, k6, e6, -⟩ := id hR.form; rw [Hl2.out] at e6; subst e6; have HS7 := Lib.hid (HS6.out.put hR hgr); obtain ⟨p1, p2⟩ : w6.cell? ⟨G + 2, 0, none⟩ = some v3 ∧ w6.frozen? ⟨G + 2, 0, none⟩ = false := (fun (hk : Blk w6 (G + 2) 33 #[v3]) => ⟨by rw [hk.cell]; rfl, hk.free 0⟩) (HS6.out.a.grown hgr (HS6.out.rows.ne (by show ¬ G + 4 ≤ G + 2; omega))); clear hR hgr hor))
        all_goals
          generalize w6.setCell ⟨G + 2, 0, none⟩ (.slice A6 ol k6) = W9 at HS7 ⊢
          go_wp2_with fail
          go_roundw
          case rel => exact ⟨j + 1, _, by omega, by go_num, HS7⟩
          case measure => simp [intOf]; omega
      · obtain rfl : j = m := by omega
        have g5 : decide ((j : Int) < (j : Int)) = false := decide_eq_false (by omega)
        have Hfin := Lib.hid (show tk.take j = tk from List.take_of_length_le (by rw [Htl.out]; exact Nat.le_refl _))
        go_wp2_with fail
        go_ret
        exact ⟨rfl, v3, by have h := HS3.out; rw [Hfin.out] at h; exact h⟩

theorem take_s {w0 w : World} {name : List UInt8} {G : Nat} {s : St} {v : Value} {out : LL} (h : RS w0 w name G s v out) (htab : Label.Tab w0) (hs : Parse.SmallS s) (n : Int) (x : LL) (z : Nat) (hz : x.length = z) (hz2 : z ≤ 1000) (hb : ∀ b ∈ x, b.length < 9223372036854775808)
    (A : Option Addr) (c : Nat) (ha : RdL w0 A c x) (hl : out.length ≤ 999000) (s2 : St) (out2 : LL) (e0 : Int) (ht : takeV name s out n x = (s2, out2, e0)) (N : Nat) (hN : out2.length = N) :
    Calls Tryz.prog 49 #[.int .i64 n, .slice A z c, .pointer (some ⟨G + 3, 0, none⟩), .pointer (some ⟨G, 0, none⟩), .pointer (some ⟨G + 2, 0, none⟩)] w fun e w' => e = .returned (.int .i64 e0) ∧ ∃ B d, RS w0 w' name G s2 (.slice B N d) out2 := by
  subst hN
  have key : ∀ (w' : World) (v' : Value), RS w0 w' name G s2 v' out2 → ∃ B d, RS w0 w' name G s2 (.slice B out2.length d) out2 := fun w' v' h => by
    obtain ⟨B, d, rfl, -⟩ := id h.rows.form
    exact ⟨B, d, h⟩
  obtain ⟨k, e1, ho⟩ : ∃ k e1, oneV s name n x = (k, e1) := ⟨_, _, rfl⟩
  unfold takeV at ht
  rw [ho] at ht
  dsimp only at ht
  by_cases he : e1 = 0
  · subst he
    obtain ⟨-, -, hk, -⟩ := one_ok (s := s) (name := name) (n := n) (v := x) (by rw [ho])
    rw [ho] at hk
    dsimp only at hk
    obtain ⟨kk, rfl⟩ : ∃ kk : Nat, k = (kk : Int) := ⟨k.toNat, by omega⟩
    rw [if_neg (by simp), Int.toNat_natCast] at ht
    obtain ⟨t, y, m, er, hr⟩ : ∃ t y m er, runS s (x.drop kk) = (t, y, m, er) := ⟨_, _, _, _, rfl⟩
    rw [hr] at ht
    cases ht
    refine (take_yes h htab hs n x z hz hz2 hb A c ha hl kk ho t y m er hr).mono ?_
    rintro e w' ⟨rfl, v', hv⟩
    exact ⟨rfl, key w' v' hv⟩
  · rw [if_pos he] at ht
    cases ht
    refine (take_no h htab hs n x z hz hz2 hb A c ha _ k ho he).mono ?_
    rintro e w' ⟨rfl, hv⟩
    exact ⟨rfl, key w' v hv⟩

/-! ### all volumes -/
theorem RS.start (w : World) (name : List UInt8) : RS w ((((w.alloc (.cells #[.string ⟨name.toArray⟩] 9)).alloc (.cells (Parse.scells zeroS) 46)).alloc (.cells #[.slice none 0 0] 33)).alloc (.cells (Parse.scells zeroS) 46)) name w.heap.size zeroS (.slice none 0 0) [] := by
  have s1 := World.size_alloc w (.cells #[.string ⟨name.toArray⟩] 9)
  have s2 := World.size_alloc (w.alloc (.cells #[.string ⟨name.toArray⟩] 9)) (.cells (Parse.scells zeroS) 46)
  have s3 := World.size_alloc ((w.alloc (.cells #[.string ⟨name.toArray⟩] 9)).alloc (.cells (Parse.scells zeroS) 46)) (.cells #[.slice none 0 0] 33)
  refine ⟨Stp.alloc (Stp.alloc (Stp.alloc (Stp.alloc (Stp.refl w) _) _) _) _, Nat.le_refl _, (((Blk.new w _ _).alloc _).alloc _).alloc _, ?_, ?_, ?_, FRows.nil _ _⟩
  · have h := Blk.new (w.alloc (.cells #[.string ⟨name.toArray⟩] 9)) 46 (Parse.scells zeroS)
    rw [s1] at h
    exact (h.alloc _).alloc _
  · have h := Blk.new ((w.alloc (.cells #[.string ⟨name.toArray⟩] 9)).alloc (.cells (Parse.scells zeroS) 46)) 33 #[.slice none 0 0]
    rw [s2, s1] at h
    exact h.alloc _
  · have h := Blk.new (((w.alloc (.cells #[.string ⟨name.toArray⟩] 9)).alloc (.cells (Parse.scells zeroS) 46)).alloc (.cells #[.slice none 0 0] 33)) 46 (Parse.scells zeroS)
    rw [s3, s2, s1] at h
    exact h
/-- What run tells, of what Strip answers. -/
def Tells (S : St) (X : LL) (E : Int) (Y : LL) (e1 : Int) : Prop := (e1 = E ∧ E ≠ 0 ∧ X = []) ∨ (e1 = 0 ∧ E = 0 ∧ S.phase = 5 ∧ Y = X) ∨ (e1 = 0 ∧ E = 7 ∧ S.phase ≠ 5 ∧ X = [])
set_option maxRecDepth 100000 in
set_option maxHeartbeats 8000000 in
theorem run_s (name : List UInt8) (vs more ws : List LL) (hw : vs ++ more = ws) (z : Nat) (hz : ws.length = z) (hz2 : z ≤ 1000) (hf : Fit vs) (hmore : more = [] ∨ (stripV name vs).2.2 ≠ 7) (S : St) (X : LL) (E : Int) (hE : stripV name vs = (S, X, E))
    (A : Option Addr) (c : Nat) (w : World) (ha : RdV w A c ws) (htab : Label.Tab w) :
    Calls Tryz.prog 27 #[.string ⟨name.toArray⟩, .slice A z c] w fun e w' => ∃ (B : Option Addr) (d : Nat) (Y : LL) (N : Nat) (e1 : Int), e = .returned (.tuple #[.slice B N d, Parse.sv S, .int .i64 e1]) ∧ N = Y.length ∧ RdL w' B d Y ∧ Stp w w' ∧ Tells S X E Y e1 := by
  have HS0 := Lib.hid (RS.start w name)
  have Ha := Lib.hid ha
  have HT := Lib.hid htab
  have Hw := Lib.hid hw
  have Hz := Lib.hid hz
  have Hz2 := Lib.hid hz2
  have Hf := Lib.hid hf
  rw [hE] at hmore
  have Hmore := Lib.hid hmore
  have HE := Lib.hid hE
  have Hlen : Hid (vs.length ≤ z) := Lib.hid (by rw [← hz, ← hw, List.length_append]; omega)
  obtain ⟨G, hG⟩ : ∃ G, w.heap.size = G := ⟨_, rfl⟩
  rw [hG] at HS0
  clear ha htab hw hz hf hmore hE
  go_enter Tryz.func27, Tryz.ntmps27
  go_wp2
  go_step3
  go_wp2
  go_step3
  go_wp2
  simp only [show G + 1 + 1 + 1 = G + 3 from rfl, show G + 1 + 1 = G + 2 from rfl]
  change Code.wp _ _ _ _ ((((w.alloc (.cells #[.string ⟨name.toArray⟩] 9)).alloc (.cells (Parse.scells zeroS) 46)).alloc (.cells #[.slice none 0 0] 33)).alloc (.cells (Parse.scells zeroS) 46))
  generalize (((w.alloc (.cells #[.string ⟨name.toArray⟩] 9)).alloc (.cells (Parse.scells zeroS) 46)).alloc (.cells #[.slice none 0 0] 33)).alloc (.cells (Parse.scells zeroS) 46) = W0 at HS0 ⊢
  go_loopw [16] (fun iv wr => ∃ (j : Nat) (s : St) (v : Value) (out : LL), j ≤ vs.length ∧ iv = .int .i64 (j : Int) ∧ Hid (RS w wr name G s v out) ∧ Hid (stripG name (vs.drop j) j s out = (S, X, E)) ∧ Hid (Parse.mayS s = true) ∧ Hid (s.phase ≠ 5) ∧ Hid (out.length ≤ 1000 * j)) (fun iv _ => z - (intOf iv).toNat)
  case atStart => exact ⟨0, zeroS, _, [], by omega, rfl, HS0, HE, Lib.hid Parse.zeroS_may, Lib.hid (by decide), Lib.hid (by simp)⟩
  case round =>
    obtain ⟨j, s, v, out, hj, rfl, HS, HG, Hm, Hp, Hol⟩ := hrel
    obtain ⟨A0, k0, hv0, -⟩ := id HS.out.rows.form
    obtain ⟨N0, hN0⟩ : ∃ N, out.length = N := ⟨_, rfl⟩
    rw [hN0] at hv0
    subst hv0
    have HN0 := Lib.hid hN0
    clear hN0
    by_cases hlt : j < vs.length
    · have hjz : j < z := by have := Hlen.out; omega
      have g5 : decide ((j : Int) < (z : Int)) = true := decide_eq_true (by omega)
      obtain ⟨x, hx⟩ : ∃ x, vs[j]? = some x := ⟨_, List.getElem?_eq_getElem hlt⟩
      have hwx : ws[j]? = some x := by rw [← Hw.out, List.getElem?_append_left hlt]; exact hx
      have hdr : vs.drop j = x :: vs.drop (j + 1) := by
        rw [List.drop_eq_getElem_cons hlt]
        rw [List.getElem?_eq_getElem hlt] at hx
        cases hx
        rfl
      obtain ⟨bb, oo, B, d, rfl, hcell, hrd⟩ := Ha.out.at_ hwx
      replace hcell := (HS.out.stp.cell (p := ⟨bb, oo + j, none⟩) (World.block_lt_of_cell? _ _ hcell)).trans hcell
      obtain ⟨zx, hzx⟩ : ∃ zx, x.length = zx := ⟨_, rfl⟩
      rw [hzx] at hcell
      obtain ⟨hx1, hx2⟩ := Hf.out x (List.mem_of_getElem? hx)
      obtain ⟨s2, out2, e, ht⟩ : ∃ s2 out2 e, takeV name s out ((j : Int) + 1) x = (s2, out2, e) := ⟨_, _, _, rfl⟩
      obtain ⟨tf1, tf2⟩ := take_facts ht Hm.out
      have hG := HG.out
      rw [hdr, strip_cons, ht] at hG
      dsimp only at hG
      obtain ⟨N2, hN2⟩ : ∃ N2, out2.length = N2 := ⟨_, rfl⟩
      have HRd := Lib.hid hrd
      have Hzx := Lib.hid hzx
      have Hx1 : Hid (zx ≤ 1000) := Lib.hid (by rw [← hzx]; exact hx1)
      have Hx2 := Lib.hid hx2
      have Ht := Lib.hid ht
      have HN2 := Lib.hid hN2
      have Hs := Lib.hid (Parse.may_small Hm.out)
      have Hm2 := Lib.hid tf1
      have Hl9 : Hid (out.length ≤ 999000) := Lib.hid (by have := Hol.out; omega)
      have Hol2 : Hid (out2.length ≤ 1000 * (j + 1)) := Lib.hid (by have := Hol.out; omega)
      have hz2' := hz2
      clear hx hwx hdr hrd hzx hx1 hx2 ht tf1 tf2 hN2
      by_cases he : e = 0
      · subst he
        rw [if_neg (by simp)] at hG
        by_cases h5 : s2.phase = 5
        · rw [if_pos h5] at hG
          simp only [Prod.mk.injEq] at hG
          obtain ⟨rfl, rfl, rfl⟩ := hG
          have g10 : (s2.phase == 5) = true := by rw [h5]; rfl
          have H5 := Lib.hid h5
          clear h5 hlt hj
          go_wp2_with (go_at_call 49; (with_reducible refine (take_s HS.out HT.out Hs.out _ x zx Hzx.out Hx1.out Hx2.out B d HRd.out Hl9.out s2 out2 0 Ht.out N2 HN2.out).mono ?_); rintro e w1 ⟨rfl, B1, d1, hs⟩; have HS1 := Lib.hid hs; clear hs hcell; obtain ⟨b0, b1, b2⟩ := HS1.out.box; obtain ⟨q_0, q_1, q_2, q_3, q_4, q_5, q_6, q_7, q_8, q_9, q_10, q_11, q_12, q_13⟩ := Parse.st_cells HS1.out.s; obtain ⟨r_0, r_1, r_2, r_3, r_4, r_5, r_6, r_7, r_8, r_9, r_10, r_11, r_12, r_13⟩ := Parse.st_cells HS1.out.r; obtain ⟨m_0, m_1, m_2, m_3, m_4, m_5, m_6, m_7, m_8, m_9, m_10, m_11, m_12, m_13⟩ := Ends.st_free HS1.out.r)
          have HS2 := Lib.hid (HS1.out.answerd s2)
          go_region
          all_goals go_wp2
          all_goals rw [Exit.noGoto_ret]
          all_goals change bodyPost _ _ _ _ _ (Ends.fillS w1 (G + 1) s2).drew
          all_goals generalize (Ends.fillS w1 (G + 1) s2).drew = W9 at HS2 ⊢
          all_goals clear b0 b1 b2 q_0 q_1 q_2 q_3 q_4 q_5 q_6 q_7 q_8 q_9 q_10 q_11 q_12 q_13 r_0 r_1 r_2 r_3 r_4 r_5 r_6 r_7 r_8 r_9 r_10 r_11 r_12 r_13 m_0 m_1 m_2 m_3 m_4 m_5 m_6 m_7 m_8 m_9 m_10 m_11 m_12 m_13
          all_goals obtain ⟨hB, hW, hV⟩ := HS2.out
          all_goals obtain ⟨r_0, r_1, r_2, r_3, r_4, r_5, r_6, r_7, r_8, r_9, r_10, r_11, r_12, r_13⟩ := Parse.st_cells hB
          all_goals refine bodyPost_ret (v := .tuple #[.slice B1 N2 d1, Parse.sv s2, .int .i64 0]) (by simp [results, Tryz.results27, go_sem, r_0, r_1, r_2, r_3, r_4, r_5, r_6, r_7, r_8, r_9, r_10, r_11, r_12, r_13]) rfl ⟨B1, d1, out2, N2, 0, rfl, HN2.out.symm, (FRows.rd_n hV).2, hW, .inr (.inl ⟨rfl, rfl, H5.out, rfl⟩)⟩
        · rw [if_neg h5] at hG
          have g10 : (s2.phase == 5) = false := beq_eq_false_iff_ne.2 h5
          have H5 := Lib.hid h5
          have HG2 := Lib.hid hG
          clear h5 hG
          go_wp2_with (go_at_call 49; (with_reducible refine (take_s HS.out HT.out Hs.out _ x zx Hzx.out Hx1.out Hx2.out B d HRd.out Hl9.out s2 out2 0 Ht.out N2 HN2.out).mono ?_); rintro e w1 ⟨rfl, B1, d1, hs⟩; have HS1 := Lib.hid hs; clear hs hcell; obtain ⟨q_0, q_1, q_2, q_3, q_4, q_5, q_6, q_7, q_8, q_9, q_10, q_11, q_12, q_13⟩ := Parse.st_cells HS1.out.s)
          go_roundw
          case rel => exact ⟨j + 1, s2, _, out2, by omega, by go_num, HS1, HG2, Hm2, H5, Hol2⟩
          case measure => simp [intOf]; omega
      · rw [if_pos he] at hG
        simp only [Prod.mk.injEq] at hG
        obtain ⟨rfl, rfl, rfl⟩ := hG
        have g8 : (e != 0) = true := by simpa using he
        have He := Lib.hid he
        clear he hlt hj
        go_wp2_with (go_at_call 49; (with_reducible refine (take_s HS.out HT.out Hs.out _ x zx Hzx.out Hx1.out Hx2.out B d HRd.out Hl9.out s2 out2 e Ht.out N2 HN2.out).mono ?_); rintro e' w1 ⟨rfl, B1, d1, hs⟩; have HS1 := Lib.hid hs; clear hs hcell; obtain ⟨b0, b1, b2⟩ := HS1.out.box; obtain ⟨q_0, q_1, q_2, q_3, q_4, q_5, q_6, q_7, q_8, q_9, q_10, q_11, q_12, q_13⟩ := Parse.st_cells HS1.out.s; obtain ⟨r_0, r_1, r_2, r_3, r_4, r_5, r_6, r_7, r_8, r_9, r_10, r_11, r_12, r_13⟩ := Parse.st_cells HS1.out.r; obtain ⟨m_0, m_1, m_2, m_3, m_4, m_5, m_6, m_7, m_8, m_9, m_10, m_11, m_12, m_13⟩ := Ends.st_free HS1.out.r)
        have HS2 := Lib.hid (HS1.out.answerd s2)
        go_region
        all_goals go_wp2
        all_goals rw [Exit.noGoto_ret]
        all_goals change bodyPost _ _ _ _ _ (Ends.fillS w1 (G + 1) s2).drew
        all_goals generalize (Ends.fillS w1 (G + 1) s2).drew = W9 at HS2 ⊢
        all_goals clear b0 b1 b2 q_0 q_1 q_2 q_3 q_4 q_5 q_6 q_7 q_8 q_9 q_10 q_11 q_12 q_13 r_0 r_1 r_2 r_3 r_4 r_5 r_6 r_7 r_8 r_9 r_10 r_11 r_12 r_13 m_0 m_1 m_2 m_3 m_4 m_5 m_6 m_7 m_8 m_9 m_10 m_11 m_12 m_13
        all_goals obtain ⟨hB, hW, hV⟩ := HS2.out
        all_goals obtain ⟨r_0, r_1, r_2, r_3, r_4, r_5, r_6, r_7, r_8, r_9, r_10, r_11, r_12, r_13⟩ := Parse.st_cells hB
        all_goals refine bodyPost_ret (v := .tuple #[.slice none 0 0, Parse.sv s2, .int .i64 e]) (by simp [results, Tryz.results27, go_sem, r_0, r_1, r_2, r_3, r_4, r_5, r_6, r_7, r_8, r_9, r_10, r_11, r_12, r_13]) rfl ⟨none, 0, [], 0, e, rfl, rfl, RdL.nil _, hW, .inl ⟨rfl, He.out, rfl⟩⟩
    · obtain rfl : j = vs.length := by omega
      have hG := HG.out
      rw [List.drop_length, stripG] at hG
      simp only [Prod.mk.injEq] at hG
      obtain ⟨rfl, rfl, rfl⟩ := hG
      have hmr : more = [] := by
        rcases Hmore.out with h | h
        · exact h
        · exact absurd rfl h
      have hzv : vs.length = z := by rw [← Hz.out, ← Hw.out, hmr, List.append_nil]
      have g5 : decide ((vs.length : Int) < (z : Int)) = false := decide_eq_false (by omega)
      clear hlt hj hmr
      rw [hzv] at g5 ⊢
      clear hzv
      obtain ⟨b0, b1, b2⟩ := HS.out.box
      obtain ⟨q_0, q_1, q_2, q_3, q_4, q_5, q_6, q_7, q_8, q_9, q_10, q_11, q_12, q_13⟩ := Parse.st_cells HS.out.s
      obtain ⟨r_0, r_1, r_2, r_3, r_4, r_5, r_6, r_7, r_8, r_9, r_10, r_11, r_12, r_13⟩ := Parse.st_cells HS.out.r
      obtain ⟨m_0, m_1, m_2, m_3, m_4, m_5, m_6, m_7, m_8, m_9, m_10, m_11, m_12, m_13⟩ := Ends.st_free HS.out.r
      go_wp2_with fail
      have HS2 := Lib.hid (HS.out.answerd s)
      go_region
      all_goals go_wp2
      all_goals rw [Exit.noGoto_ret]
      all_goals change bodyPost _ _ _ _ _ (Ends.fillS wr (G + 1) s).drew
      all_goals generalize (Ends.fillS wr (G + 1) s).drew = W9 at HS2 ⊢
      all_goals clear b0 b1 b2 q_0 q_1 q_2 q_3 q_4 q_5 q_6 q_7 q_8 q_9 q_10 q_11 q_12 q_13 r_0 r_1 r_2 r_3 r_4 r_5 r_6 r_7 r_8 r_9 r_10 r_11 r_12 r_13 m_0 m_1 m_2 m_3 m_4 m_5 m_6 m_7 m_8 m_9 m_10 m_11 m_12 m_13
      all_goals obtain ⟨hB, hW, hV⟩ := HS2.out
      all_goals obtain ⟨r_0, r_1, r_2, r_3, r_4, r_5, r_6, r_7, r_8, r_9, r_10, r_11, r_12, r_13⟩ := Parse.st_cells hB
      all_goals refine bodyPost_ret (v := .tuple #[.slice A0 N0 k0, Parse.sv s, .int .i64 0]) (by simp [results, Tryz.results27, go_sem, r_0, r_1, r_2, r_3, r_4, r_5, r_6, r_7, r_8, r_9, r_10, r_11, r_12, r_13]) rfl ⟨A0, k0, out, N0, 0, rfl, HN0.out.symm, (FRows.rd_n hV).2, hW, .inr (.inr ⟨rfl, rfl, Hp.out, rfl⟩)⟩

/-! ### Strip, Left -/
set_option maxRecDepth 100000 in
set_option maxHeartbeats 2000000 in
theorem strip_s (name : List UInt8) (vs more ws : List LL) (hw : vs ++ more = ws) (z : Nat) (hz : ws.length = z) (hz2 : z ≤ 1000) (hf : Fit vs) (hmore : more = [] ∨ (stripV name vs).2.2 ≠ 7) (S : St) (X : LL) (E : Int) (hE : stripV name vs = (S, X, E)) (x : Nat) (hx : X.length = x)
    (A : Option Addr) (c : Nat) (w : World) (ha : RdV w A c ws) (htab : Label.Tab w) :
    Calls Tryz.prog 13 #[.string ⟨name.toArray⟩, .slice A z c] w fun e w' => ∃ B d, e = .returned (.tuple #[.slice B x d, .int .i64 E]) ∧ RdL w' B d X ∧ Stp w w' := by
  have C := Lib.hid (run_s name vs more ws hw z hz hz2 hf hmore S X E hE A c w ha htab)
  have Hx := Lib.hid hx
  clear hw hz hf hmore hE ha htab hx
  go_enter Tryz.func13, Tryz.ntmps13
  go_upto_region 2 with (go_at_call 27; (with_reducible refine C.out.mono ?_); rintro e w1 ⟨B1, d1, Y, N, e1, rfl, hN, hr, hs, ht⟩; have HR := Lib.hid hr; have HN := Lib.hid hN; have HTl := Lib.hid ht; have H1 := Lib.hid hs; clear hr hs ht hN)
  have HB := Lib.hid (Blk.new w1 46 (Parse.scells S))
  have H2 := Lib.hid (Stp.alloc H1.out (.cells (Parse.scells S) 46))
  replace HR := Lib.hid (HR.out.keep (Stp.alloc (Stp.refl w1) (.cells (Parse.scells S) 46)))
  obtain ⟨g, hg⟩ : ∃ g, w1.heap.size = g := ⟨_, rfl⟩
  change Code.wp _ _ _ _ (w1.alloc (.cells (Parse.scells S) 46))
  rw [hg] at HB ⊢
  clear hg
  generalize w1.alloc (.cells (Parse.scells S) 46) = W at HB H2 HR ⊢
  obtain ⟨q_0, q_1, q_2, q_3, q_4, q_5, q_6, q_7, q_8, q_9, q_10, q_11, q_12, q_13⟩ := Parse.st_cells HB.out
  rcases HTl.out with ⟨rfl, he, rfl⟩ | ⟨rfl, rfl, h5, rfl⟩ | ⟨rfl, rfl, h5, rfl⟩
  · have g1 : (e1 != 0) = true := by simpa using he
    obtain rfl : x = 0 := Hx.out.symm
    clear he
    go_wp2
    go_ret2
    exact ⟨none, 0, rfl, RdL.nil _, H2.out⟩
  · have g2 : (S.phase != 5) = false := by rw [h5]; rfl
    obtain rfl : N = x := HN.out.trans Hx.out
    clear h5
    go_wp2
    go_ret2
    exact ⟨B1, d1, rfl, HR.out, H2.out⟩
  · have g2 : (S.phase != 5) = true := by simpa using h5
    obtain rfl : x = 0 := Hx.out.symm
    clear h5
    go_wp2
    go_ret2
    exact ⟨none, 0, rfl, RdL.nil _, H2.out⟩
set_option maxRecDepth 100000 in
set_option maxHeartbeats 2000000 in
theorem left_s (name : List UInt8) (vs more ws : List LL) (hw : vs ++ more = ws) (z : Nat) (hz : ws.length = z) (hz2 : z ≤ 1000) (hf : Fit vs) (hmore : more = [] ∨ (stripV name vs).2.2 ≠ 7) (S : St) (X : LL) (E : Int) (hE : stripV name vs = (S, X, E))
    (A : Option Addr) (c : Nat) (w : World) (ha : RdV w A c ws) (htab : Label.Tab w) :
    Calls Tryz.prog 17 #[.string ⟨name.toArray⟩, .slice A z c] w fun e w' => e = .returned (Parse.sv S) ∧ Stp w w' := by
  have hst := Stp.alloc (Stp.refl w) (.cells (Parse.scells zeroS) 46)
  have HB := Lib.hid (Blk.new w 46 (Parse.scells zeroS))
  have C := Lib.hid (run_s name vs more ws hw z hz hz2 hf hmore S X E hE A c _ (ha.keep hst) (Label.Tab.keep htab hst))
  have H0 := Lib.hid hst
  clear hw hz hf hmore hE ha htab hst
  go_enter Tryz.func17, Tryz.ntmps17
  go_upto_region 2 with (go_at_call 27; (refine C.out.mono ?_); rintro e w1 ⟨B1, d1, Y, N, e1, rfl, hN, hr, hs, ht⟩; have HR := Lib.hid hr; have HN := Lib.hid hN; have HTl := Lib.hid ht; have H1 := Lib.hid hs; clear hr hs ht hN; replace H0 := Lib.hid (Stp.trans H0.out H1.out); replace HB := Lib.hid (HB.out.keep H1.out HB.out.lt))
  have HB2 := Lib.hid (Blk.new w1 46 (Parse.scells S))
  have hal := Stp.alloc (Stp.refl w1) (.cells (Parse.scells S) 46)
  have HB1 := Lib.hid (HB.out.keep hal HB.out.lt)
  have H2 := Lib.hid (Stp.trans H0.out hal)
  have hne : w1.heap.size ≠ w.heap.size := fun e => by
    have := HB.out.lt
    omega
  obtain ⟨g, hg⟩ : ∃ g, w1.heap.size = g := ⟨_, rfl⟩
  change Code.wp _ _ _ _ (w1.alloc (.cells (Parse.scells S) 46))
  rw [hg] at HB2 hne ⊢
  clear hg hal
  generalize w1.alloc (.cells (Parse.scells S) 46) = W at HB1 HB2 H2 ⊢
  obtain ⟨q_0, q_1, q_2, q_3, q_4, q_5, q_6, q_7, q_8, q_9, q_10, q_11, q_12, q_13⟩ := Parse.st_cells HB2.out
  obtain ⟨r_0, r_1, r_2, r_3, r_4, r_5, r_6, r_7, r_8, r_9, r_10, r_11, r_12, r_13⟩ := Parse.st_cells HB1.out
  obtain ⟨m_0, m_1, m_2, m_3, m_4, m_5, m_6, m_7, m_8, m_9, m_10, m_11, m_12, m_13⟩ := Ends.st_free HB1.out
  have hF := Ends.fills_blk S HB1.out
  have hS := Ends.fills_stp S H2.out (Nat.le_refl _)
  go_wp2
  change bodyPost _ _ _ _ _ (Ends.fillS W w.heap.size S)
  generalize Ends.fillS W w.heap.size S = W9 at hF hS ⊢
  clear q_0 q_1 q_2 q_3 q_4 q_5 q_6 q_7 q_8 q_9 q_10 q_11 q_12 q_13 r_0 r_1 r_2 r_3 r_4 r_5 r_6 r_7 r_8 r_9 r_10 r_11 r_12 r_13 m_0 m_1 m_2 m_3 m_4 m_5 m_6 m_7 m_8 m_9 m_10 m_11 m_12 m_13
  obtain ⟨r_0, r_1, r_2, r_3, r_4, r_5, r_6, r_7, r_8, r_9, r_10, r_11, r_12, r_13⟩ := Parse.st_cells hF
  exact bodyPost_ret (v := Parse.sv S) (by simp [results, Tryz.results17, go_sem, r_0, r_1, r_2, r_3, r_4, r_5, r_6, r_7, r_8, r_9, r_10, r_11, r_12, r_13]) rfl ⟨rfl, hS⟩

/-- The contracts of the calls, of the code as it landed. -/
theorem stripI : StripI Label.Tab where
  keep := fun h hs => Label.Tab.keep h hs
  split := fun t m hm hl hn s A k v hv hs Q E hQ z hz T ct w ht ha htab => vsplit_s t m hm hl hn s A k v hv hs Q E hQ z hz T ct w ht ha htab
  begin := fun t m hm hl hn s A k v hv hs pos n _ _ _ _ V hV z hz b hb T ct w ht ha htab => begin_s t m hm hl hn s A k v hv hs pos n V hV z hz b hb T ct w ht ha htab
  one := fun s v hv hs name y hy hy2 n hn1 hn2 x z hz hz2 hb k e0 ho A c w ha htab => one_s s v hv hs name n x z hz hz2 hb k e0 ho A c w ha htab
  strip := fun name y hy hy2 vs more ws hw z hz hz2 hf hm S X E hE x hx A c w ha htab => strip_s name vs more ws hw z hz hz2 hf hm S X E hE x hx A c w ha htab
  left := fun name y hy hy2 vs more ws hw z hz hz2 hf hm S X E hE A c w ha htab => left_s name vs more ws hw z hz hz2 hf hm S X E hE A c w ha htab
end Go.Proofs.YthjdejjejlhioaaGreatDoor.Strip
