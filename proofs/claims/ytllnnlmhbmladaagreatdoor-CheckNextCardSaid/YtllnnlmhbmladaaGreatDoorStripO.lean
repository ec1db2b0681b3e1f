/-
  What the code's package strip keeps of one volume: the contract of One: no statement is proved here.
-/
import Derived.Test.YtllnnlmhbmladaaGreatDoorStripM
import Derived.Test.YtllnnlmhbmladaaGreatDoorParseI
import Derived.Test.YtllnnlmhbmladaaGreatDoorEntrySl
import Derived.Test.YtllnnlmhbmladaaGreatDoorParseMayC
import Derived.Test.YtllnnlmhbmladaaGreatDoorContK
import Derived.Test.YtllnnlmhbmladaaGreatDoorLabelA
import Derived.Deep.RegionWith
import Derived.Deep.RegionLaw
import Derived.BigQuiet
import Derived.Lib.QuietBelow
namespace Go.Proofs.YtllnnlmhbmladaaGreatDoor.Strip
open Go.Sort Go.RowKit Go.Proofs.YtllnnlmhbmladaaGreatDoor.Str Go.Proofs.YtllnnlmhbmladaaGreatDoor.Base Go.Proofs.YtllnnlmhbmladaaGreatDoor.Node Go.Proofs.YtllnnlmhbmladaaGreatDoor.Head Go.Proofs.YtllnnlmhbmladaaGreatDoor.Long Go.Proofs.YtllnnlmhbmladaaGreatDoor.Entry Go.Proofs.YtllnnlmhbmladaaGreatDoor.LabelM Go.Proofs.YtllnnlmhbmladaaGreatDoor.ContM Go.Proofs.YtllnnlmhbmladaaGreatDoor.Stream Go.Proofs.YtllnnlmhbmladaaGreatDoor.VolM Go.Proofs.YtllnnlmhbmladaaGreatDoor.StripM
open Go.Proofs.YtllnnlmhbmladaaGreatDoor.Parse (St zeroS phS runS stepS)
set_option linter.unusedVariables false

/-! ### plain -/
theorem get_le (l : LL) (h : (getC l).2.2.2.2 = true) : 0 ≤ (getC l).2.2.2.1 ∧ (getC l).2.2.2.1 ≤ (l.length : Int) := by
  rcases get_yes l with e | ⟨n, off, -, -, a, -, e⟩
  · rw [e] at h
    cases h
  · rw [e]
    dsimp only
    omega
/-! ### the label, and what goes on -/
set_option maxRecDepth 100000 in
theorem has_s (b : List UInt8) (z : Nat) (hz : b.length = z) (name : List UInt8) (n : Int) (r : Bool) (hr : decide (getL b = (name, n, 0)) = r) (A : Option Addr) (c : Nat) (w : World) (ha : RdA w A c (bs b)) (htab : Label.Tab w) :
    Calls Tryz.prog 32 #[.slice A z c, .string ⟨name.toArray⟩, .int .i64 n] w fun e w' => e = .returned (.bool r) ∧ Stp w w' := by
  obtain ⟨x, k, e0, hg⟩ : ∃ x k e0, getL b = (x, k, e0) := ⟨_, _, _, rfl⟩
  obtain ⟨q1, k1⟩ : ∃ q, (e0 == 0) = q := ⟨_, rfl⟩
  obtain ⟨q2, k2⟩ : ∃ q, (x == name) = q := ⟨_, rfl⟩
  obtain ⟨q3, k3⟩ : ∃ q, (k == n) = q := ⟨_, rfl⟩
  have E : r = (q1 && (q2 && q3)) := by
    rw [← hr, hg, ← k1, ← k2, ← k3, Bool.eq_iff_iff]
    simp only [decide_eq_true_eq, Prod.mk.injEq, Bool.and_eq_true, beq_iff_eq]
    constructor
    · rintro ⟨a, b, c⟩
      exact ⟨c, a, b⟩
    · rintro ⟨c, a, b⟩
      exact ⟨a, b, c⟩
  have HE := Lib.hid E
  have HG := Lib.hid hg
  have Ha := Lib.hid ha
  have HT := Lib.hid htab
  have Hz := Lib.hid hz
  have h0 := Stp.refl w
  clear E hg ha htab hz hr
  cases q1 <;> cases q2 <;> cases q3
  all_goals
    go_enter Tryz.func32, Tryz.ntmps32
    go_wp2_with (go_at_call 22; (with_reducible refine (Label.lget_s b z Hz.out x k e0 HG.out A c _ Ha.out HT.out).mono ?_); rintro e w1 ⟨rfl, hs⟩; replace h0 := Stp.trans h0 hs; clear hs)
    go_ret
    exact ⟨by rw [HE.out]; rfl, h0⟩
set_option maxRecDepth 100000 in
set_option maxHeartbeats 2000000 in
theorem goes_s (s : St) (hw1 : -9223372036854775808 ≤ s.size - s.left) (hw2 : s.size - s.left < 9223372036854775808) (l : LL) (z : Nat) (hz : l.length = z) (hz3 : z < 9223372036854775808) (hsm : ∀ b ∈ l, b.length < 9223372036854775808)
    (m : Nd) (off whole k : Int) (b : Bool) (hg : getC l = (m, off, whole, k, b)) (r : Bool) (hr : (b && (decide (m = s.node) && ((off == s.size - s.left) && (whole == s.size)))) = r) (A : Option Addr) (c : Nat) (w : World) (ha : RdL w A c l) :
    Calls Tryz.prog 33 #[Parse.sv s, .slice A z c] w fun e w' => e = .returned (.tuple #[.int .i64 k, .bool r]) ∧ Stp w w' := by
  obtain ⟨D, hD⟩ : ∃ D, s.size - s.left = D := ⟨_, rfl⟩
  have hsub : ∀ w : World, (binOp .sub 3 (.int .i64 s.size) (.int .i64 s.left)).run Tryz.prog w = .ok (.int .i64 D) w := by
    intro w
    simp [binOp, Op.intArith, go_sem]
    rw [hD, IntWalk.i64_in _ ⟨by omega, by omega⟩]
  have hwr : IntKind.i64.wrap (s.size - s.left) = D := by rw [hD, IntWalk.i64_in _ ⟨by omega, by omega⟩]
  obtain ⟨q1, k1⟩ : ∃ q, decide (m = s.node) = q := ⟨_, rfl⟩
  have heq : ∀ w : World, (Op.equalIn 10000 23 (nv m) (nv s.node)).run Tryz.prog w = .ok q1 w := fun w => by rw [Tree.eq_nodes, k1]
  obtain ⟨q2, k2⟩ : ∃ q, (off == D) = q := ⟨_, rfl⟩
  obtain ⟨q3, k3⟩ : ∃ q, (whole == s.size) = q := ⟨_, rfl⟩
  rw [hD, k1, k2, k3] at hr
  have HR := Lib.hid hr
  have H := Lib.hid (Stp.alloc (Stp.refl w) (.cells (Parse.scells s) 25))
  have Hb := Lib.hid (Blk.new w 25 (Parse.scells s))
  have Ha := Lib.hid (ha.keep H.out)
  have HG := Lib.hid hg
  have Hz := Lib.hid hz
  have Hz3 := Lib.hid hz3
  have Hsm := Lib.hid hsm
  have hng := Tree.noGuardN
  obtain ⟨q_0, q_1, q_2, q_3, q_4, q_5, q_6, q_7, q_8, q_9, q_10, q_11, q_12, q_13⟩ := Parse.st_cells Hb.out
  clear hr ha hg hz hz3 hsm hD k1 hw1 hw2
  cases b <;> cases q1 <;> cases q2 <;> cases q3
  all_goals
    go_enter Tryz.func33, Tryz.ntmps33
    go_upto_region 2 with (go_at_call 53; (with_reducible refine (Cont.cget_s l z Hz.out Hz3.out Hsm.out m off whole k _ HG.out A c _ Ha.out).mono ?_); rintro e w1 ⟨rfl, hs⟩; replace H := Lib.hid (Stp.trans H.out hs); replace Hb := Lib.hid (Hb.out.keep hs Hb.out.lt); have HN := Lib.hid (Blk.new w1 23 (ncells m)); clear hs q_0 q_1 q_2 q_3 q_4 q_5 q_6 q_7 q_8 q_9 q_10 q_11 q_12 q_13)
  all_goals
    have HA2 := Stp.alloc (Stp.refl w1) (.cells (ncells m) 23)
    replace H := Lib.hid (Stp.trans H.out HA2)
    replace Hb := Lib.hid (Hb.out.keep HA2 Hb.out.lt)
    change Code.wp _ _ _ _ (w1.alloc (.cells (ncells m) 23))
    obtain ⟨g1, hg1⟩ : ∃ x, w1.heap.size = x := ⟨_, rfl⟩
    rw [hg1] at HN ⊢
    clear HA2 hg1
    generalize w1.alloc (.cells (ncells m) 23) = W at H Hb HN ⊢
    obtain ⟨q_0, q_1, q_2, q_3, q_4, q_5, q_6, q_7, q_8, q_9, q_10, q_11, q_12, q_13⟩ := Parse.st_cells Hb.out
    obtain ⟨r0, r1, r2, r3, r4, r5, r6, r7⟩ := nd_cells HN.out
    go_quiet (fail)
    go_wp2
    go_ret2
    exact ⟨by rw [← HR.out]; rfl, Stp.drewN H.out _⟩

/-! ### slices of blocks -/
theorem cut_from (A : Option Addr) (N c k : Nat) (hk : k ≤ N) (hN : N ≤ c) : ∃ A', (∀ w : World, (Instr.slice 36 (.slice A N c) (some (.int .i64 (k : Int))) none none).run Tryz.prog w = .ok (.slice A' (N - k) (c - k)) w) ∧
    ∀ (w : World) (ls : LL), ls.length = N → RdL w A c ls → RdL w A' (c - k) (ls.drop k) := by
  have he : Tryz.prog.elem 36 = 46 := by kernel_rfl
  by_cases hc : c = k
  · refine ⟨A, fun w => ?_, fun w ls hl h => ?_⟩
    · rw [run_slice_l (P := Tryz.prog) w 36 _ _ _ (by rw [he]; exact Tryz.underlying36) .i64 k (by omega) (by omega), he, Entry.sl_size]
      simp only [Result.andThen_ok, sliced]
      rw [if_pos (by omega)]
      rfl
    · rw [List.drop_eq_nil_of_le (by omega)]
      exact Entry.rdL_none _ _ _
  · refine ⟨A.map (fun a => a.add k), fun w => ?_, fun w ls hl h => ?_⟩
    · rw [run_slice_l (P := Tryz.prog) w 36 _ _ _ (by rw [he]; exact Tryz.underlying36) .i64 k (by omega) (by omega), he, Entry.sl_size]
      simp only [Result.andThen_ok, sliced]
      rw [if_neg (by omega)]
      simp only [Int.toNat_natCast, Nat.mul_one]
    · by_cases hn : ls.length ≤ k
      · rw [List.drop_eq_nil_of_le hn]
        exact Entry.rdL_none _ _ _
      · obtain ⟨b, o, A1, c1, rfl, -, -⟩ := h.at_ (j := 0) (List.getElem?_eq_getElem (by omega))
        show RdL w (some ((⟨b, o, none⟩ : Addr).add k)) (c - k) (ls.drop k)
        rw [Addr.add_lit]
        exact Entry.rdL_drop k o c ls (by omega) h
/-! ### One -/
set_option maxRecDepth 100000 in
set_option maxHeartbeats 4000000 in
theorem one_s (s : St) (v : Value) (hv : v = Parse.sv s) (hs : Parse.SmallS s) (name : List UInt8) (n : Int) (x : LL) (z : Nat) (hz : x.length = z) (hz2 : z ≤ 1000) (hb : ∀ b ∈ x, b.length < 9223372036854775808)
    (k e0 : Int) (ho : oneV s name n x = (k, e0)) (A : Option Addr) (c : Nat) (w : World) (ha : RdL w A c x) (htab : Label.Tab w) :
    Calls Tryz.prog 21 #[v, .string ⟨name.toArray⟩, .int .i64 n, .slice A z c] w fun e w' => e = .returned (.tuple #[.int .i64 k, .int .i64 e0]) ∧ Stp w w' := by
  subst hv
  have H := Lib.hid (Stp.alloc (Stp.refl w) (.cells (Parse.scells s) 25))
  have Hb := Lib.hid (Blk.new w 25 (Parse.scells s))
  have Ha := Lib.hid (ha.keep H.out)
  have HT := Lib.hid (Label.Tab.keep htab H.out)
  have Hs := Lib.hid hs
  have Hbl := Lib.hid hb
  have hzc := ha.length_le
  obtain ⟨q_0, q_1, q_2, q_3, q_4, q_5, q_6, q_7, q_8, q_9, q_10, q_11, q_12, q_13⟩ := Parse.st_cells Hb.out
  clear hs hb ha htab
  by_cases m1 : Parse.mayS s = true
  case neg =>
    have hk : k = 0 ∧ e0 = 1 := by
      unfold oneV at ho
      rw [if_pos (by simpa using m1)] at ho
      cases ho
      exact ⟨rfl, rfl⟩
    obtain ⟨rfl, rfl⟩ := hk
    have HM : Hid (Parse.mayS s = false) := Lib.hid (by simpa using m1)
    clear m1 ho hz
    go_enter Tryz.func21, Tryz.ntmps21
    go_wp2_with (go_at_call 31; (with_reducible refine (Parse.cmay_s s _ rfl Hs.out _).mono ?_); rintro e w1 ⟨rfl, hs⟩; rw [HM.out]; replace H := Lib.hid (Stp.trans H.out hs); clear hs)
    go_ret2
    exact ⟨rfl, H.out⟩
  by_cases m2 : s.phase = 5
  · have hk : k = 0 ∧ e0 = 17 := by
      unfold oneV at ho
      rw [if_neg (by simp [m1]), if_pos m2] at ho
      cases ho
      exact ⟨rfl, rfl⟩
    obtain ⟨rfl, rfl⟩ := hk
    have HM := Lib.hid m1
    have g1 : (s.phase == 5) = true := by simpa using m2
    clear m1 m2 ho hz
    go_enter Tryz.func21, Tryz.ntmps21
    go_wp2_with (go_at_call 31; (with_reducible refine (Parse.cmay_s s _ rfl Hs.out _).mono ?_); rintro e w1 ⟨rfl, hs⟩; rw [HM.out]; replace H := Lib.hid (Stp.trans H.out hs); replace Hb := Lib.hid (Hb.out.keep hs Hb.out.lt); clear hs q_0 q_1 q_2 q_3 q_4 q_5 q_6 q_7 q_8 q_9 q_10 q_11 q_12 q_13; obtain ⟨q_0, q_1, q_2, q_3, q_4, q_5, q_6, q_7, q_8, q_9, q_10, q_11, q_12, q_13⟩ := Parse.st_cells Hb.out)
    go_ret2
    exact ⟨rfl, H.out⟩
  have g1 : (s.phase == 5) = false := by simpa using m2
  cases x with
  | nil =>
    have hk : k = 0 ∧ e0 = 7 := by
      unfold oneV at ho
      rw [if_neg (by simp [m1]), if_neg m2] at ho
      cases ho
      exact ⟨rfl, rfl⟩
    obtain ⟨rfl, rfl⟩ := hk
    obtain rfl : z = 0 := by simpa using hz.symm
    have HM := Lib.hid m1
    clear m1 m2 ho hz
    go_enter Tryz.func21, Tryz.ntmps21
    go_wp2_with (go_at_call 31; (with_reducible refine (Parse.cmay_s s _ rfl Hs.out _).mono ?_); rintro e w1 ⟨rfl, hs⟩; rw [HM.out]; replace H := Lib.hid (Stp.trans H.out hs); replace Hb := Lib.hid (Hb.out.keep hs Hb.out.lt); clear hs q_0 q_1 q_2 q_3 q_4 q_5 q_6 q_7 q_8 q_9 q_10 q_11 q_12 q_13; obtain ⟨q_0, q_1, q_2, q_3, q_4, q_5, q_6, q_7, q_8, q_9, q_10, q_11, q_12, q_13⟩ := Parse.st_cells Hb.out)
    go_ret2
    exact ⟨rfl, H.out⟩
  | cons b r =>
    rw [oneV_cons, if_neg (by simp [m1]), if_neg m2] at ho
    obtain ⟨bb, oo, A1, c1, rfl, hc0, hr0⟩ := Ha.out.at_ (j := 0) rfl
    rw [Nat.add_zero] at hc0
    have hz1 : r.length + 1 = z := hz
    have hzp : 0 < z := by omega
    have hbz := (List.forall_mem_cons.1 Hbl.out).2
    obtain ⟨A2, h21, h22⟩ := cut_from (some ⟨bb, oo, none⟩) z c 1 (by omega) (by rw [← hz]; exact hzc)
    have hsl : ∀ w : World, (Instr.slice 36 (.slice (some ⟨bb, oo, none⟩) z c) (some (.int .i64 1)) none none).run Tryz.prog w = .ok (.slice A2 (z - 1) (c - 1)) w := fun w => h21 w
    obtain ⟨q, hq⟩ : ∃ q, decide (getL b = (name, n, 0)) = q := ⟨_, rfl⟩
    obtain ⟨zb, hzb⟩ : ∃ zb, b.length = zb := ⟨_, rfl⟩
    rw [hzb] at hc0
    have g2 : ((z : Int) == 0) = false := by
      rw [beq_eq_false_iff_ne]
      omega
    have HM := Lib.hid m1
    have HQ := Lib.hid hq
    have Hzb := Lib.hid hzb
    have HR := Lib.hid (h22 _ _ hz Ha.out)
    have Hr1 : Hid (r.length = z - 1) := Lib.hid (by omega)
    have Hbz := Lib.hid hbz
    have HA1 := Lib.hid hr0
    have Hz1 : Hid (z - 1 < 9223372036854775808) := Lib.hid (by omega)
    cases q
    · have hk : k = 0 ∧ e0 = 11 := by
        rw [if_pos (by simpa using hq)] at ho
        cases ho
        exact ⟨rfl, rfl⟩
      obtain ⟨rfl, rfl⟩ := hk
      clear m1 m2 ho hz h21 h22 hq hzb hbz hr0 hzc hz1
      go_enter Tryz.func21, Tryz.ntmps21
      go_wp2_with (first
        | (go_at_call 31; (with_reducible refine (Parse.cmay_s s _ rfl Hs.out _).mono ?_); rintro e w1 ⟨rfl, hs⟩; rw [HM.out]; replace H := Lib.hid (Stp.trans H.out hs); replace Hb := Lib.hid (Hb.out.keep hs Hb.out.lt); replace HT := Lib.hid (Label.Tab.keep HT.out hs); replace HA1 := Lib.hid (RdA.keep HA1.out hs); replace hc0 := (hs.cell (p := ⟨bb, oo, none⟩) (World.block_lt_of_cell? _ _ hc0)).trans hc0; clear hs q_0 q_1 q_2 q_3 q_4 q_5 q_6 q_7 q_8 q_9 q_10 q_11 q_12 q_13; obtain ⟨q_0, q_1, q_2, q_3, q_4, q_5, q_6, q_7, q_8, q_9, q_10, q_11, q_12, q_13⟩ := Parse.st_cells Hb.out)
        | (go_at_call 32; (with_reducible refine (has_s b zb Hzb.out name n false HQ.out A1 c1 _ HA1.out HT.out).mono ?_); rintro e w2 ⟨rfl, hs⟩; replace H := Lib.hid (Stp.trans H.out hs); clear hs hc0 q_0 q_1 q_2 q_3 q_4 q_5 q_6 q_7 q_8 q_9 q_10 q_11 q_12 q_13))
      go_ret2
      exact ⟨rfl, H.out⟩
    · rw [if_neg (by simpa using hq)] at ho
      by_cases m3 : s.phase = 3
      · rw [if_neg (by simpa using m3)] at ho
        have g3 : (s.phase != 3) = false := by simpa using m3
        obtain ⟨a1, ⟨a2, a3, a4, a5, a6, a7, a8, a9⟩, -, -⟩ := (Parse.data_iff m3).1 m1
        obtain ⟨m, off, whole, kk, ok, hg⟩ : ∃ m off whole kk ok, getC r = (m, off, whole, kk, ok) := ⟨_, _, _, _, _, rfl⟩
        obtain ⟨rr, hrr⟩ : ∃ rr, (ok && (decide (m = s.node) && ((off == s.size - s.left) && (whole == s.size)))) = rr := ⟨_, rfl⟩
        have HG := Lib.hid hg
        have HRR := Lib.hid hrr
        have hw1 : Hid (-9223372036854775808 ≤ s.size - s.left) := Lib.hid (by omega)
        have hw2 : Hid (s.size - s.left < 9223372036854775808) := Lib.hid (by omega)
        rw [hg] at ho
        dsimp only at ho
        have key : (rr = false ∧ k = 0 ∧ e0 = 12) ∨ (rr = true ∧ k = kk + 1 ∧ e0 = 0 ∧ 0 ≤ kk ∧ kk ≤ 1000) := by
          cases rr
          · rw [if_neg] at ho
            · cases ho
              exact .inl ⟨rfl, rfl, rfl⟩
            · rintro ⟨b1, b2, b3, b4⟩
              rw [b1, b2, b3, b4] at hrr
              simp at hrr
          · simp only [Bool.and_eq_true, decide_eq_true_eq, beq_iff_eq] at hrr
            have h := get_le r (by rw [hg]; exact hrr.1)
            rw [hg] at h
            dsimp only at h
            rw [if_pos hrr] at ho
            cases ho
            exact .inr ⟨rfl, rfl, rfl, by omega, by omega⟩
        rcases key with ⟨rfl, rfl, rfl⟩ | ⟨rfl, rfl, rfl, hk0, hk1⟩
        all_goals
          clear m1 m2 m3 ho hz h21 h22 hq hzb hbz hr0 hzc hz1 hg hrr a1 a2 a3 a4 a5 a6 a7 a8 a9
          go_enter Tryz.func21, Tryz.ntmps21
          go_upto_region 11 with (first
            | (go_at_call 31; (with_reducible refine (Parse.cmay_s s _ rfl Hs.out _).mono ?_); rintro e w1 ⟨rfl, hs⟩; rw [HM.out]; replace H := Lib.hid (Stp.trans H.out hs); replace Hb := Lib.hid (Hb.out.keep hs Hb.out.lt); replace HT := Lib.hid (Label.Tab.keep HT.out hs); replace HA1 := Lib.hid (RdA.keep HA1.out hs); replace HR := Lib.hid (HR.out.keep hs); replace hc0 := (hs.cell (p := ⟨bb, oo, none⟩) (World.block_lt_of_cell? _ _ hc0)).trans hc0; clear hs q_0 q_1 q_2 q_3 q_4 q_5 q_6 q_7 q_8 q_9 q_10 q_11 q_12 q_13; obtain ⟨q_0, q_1, q_2, q_3, q_4, q_5, q_6, q_7, q_8, q_9, q_10, q_11, q_12, q_13⟩ := Parse.st_cells Hb.out)
            | (go_at_call 32; (with_reducible refine (has_s b zb Hzb.out name n true HQ.out A1 c1 _ HA1.out HT.out).mono ?_); rintro e w2 ⟨rfl, hs⟩; replace H := Lib.hid (Stp.trans H.out hs); replace Hb := Lib.hid (Hb.out.keep hs Hb.out.lt); replace HR := Lib.hid (HR.out.keep hs); clear hs hc0 q_0 q_1 q_2 q_3 q_4 q_5 q_6 q_7 q_8 q_9 q_10 q_11 q_12 q_13; obtain ⟨q_0, q_1, q_2, q_3, q_4, q_5, q_6, q_7, q_8, q_9, q_10, q_11, q_12, q_13⟩ := Parse.st_cells Hb.out))
          have X := Lib.hid (show Stp w2 w2.drew from Stp.drewN (Stp.refl w2) 1)
          have C := Lib.hid (goes_s s hw1.out hw2.out r (z - 1) Hr1.out Hz1.out Hbz.out m off whole kk ok HG.out _ HRR.out A2 (c - 1) w2.drew (HR.out.keep X.out))
          go_region_with (go_at_call 33; (with_reducible refine C.out.mono ?_); rintro e w3 ⟨rfl, hs⟩; replace H := Lib.hid (Stp.trans H.out (Stp.trans X.out hs)); clear hs q_0 q_1 q_2 q_3 q_4 q_5 q_6 q_7 q_8 q_9 q_10 q_11 q_12 q_13)
          all_goals go_wp2
          all_goals go_ret2
          all_goals exact ⟨rfl, H.out⟩
      · have hk : k = 1 ∧ e0 = 0 := by
          rw [if_pos m3] at ho
          cases ho
          exact ⟨rfl, rfl⟩
        obtain ⟨rfl, rfl⟩ := hk
        have g3 : (s.phase != 3) = true := by simpa using m3
        clear m1 m2 m3 ho hz h21 h22 hq hzb hbz hr0 hzc hz1
        go_enter Tryz.func21, Tryz.ntmps21
        go_wp2_with (first
          | (go_at_call 31; (with_reducible refine (Parse.cmay_s s _ rfl Hs.out _).mono ?_); rintro e w1 ⟨rfl, hs⟩; rw [HM.out]; replace H := Lib.hid (Stp.trans H.out hs); replace Hb := Lib.hid (Hb.out.keep hs Hb.out.lt); replace HT := Lib.hid (Label.Tab.keep HT.out hs); replace HA1 := Lib.hid (RdA.keep HA1.out hs); replace hc0 := (hs.cell (p := ⟨bb, oo, none⟩) (World.block_lt_of_cell? _ _ hc0)).trans hc0; clear hs q_0 q_1 q_2 q_3 q_4 q_5 q_6 q_7 q_8 q_9 q_10 q_11 q_12 q_13; obtain ⟨q_0, q_1, q_2, q_3, q_4, q_5, q_6, q_7, q_8, q_9, q_10, q_11, q_12, q_13⟩ := Parse.st_cells Hb.out)
          | (go_at_call 32; (with_reducible refine (has_s b zb Hzb.out name n true HQ.out A1 c1 _ HA1.out HT.out).mono ?_); rintro e w2 ⟨rfl, hs⟩; replace H := Lib.hid (Stp.trans H.out hs); replace Hb := Lib.hid (Hb.out.keep hs Hb.out.lt); clear hs hc0 q_0 q_1 q_2 q_3 q_4 q_5 q_6 q_7 q_8 q_9 q_10 q_11 q_12 q_13; obtain ⟨q_0, q_1, q_2, q_3, q_4, q_5, q_6, q_7, q_8, q_9, q_10, q_11, q_12, q_13⟩ := Parse.st_cells Hb.out))
        go_ret2
        exact ⟨rfl, H.out⟩
end Go.Proofs.YtllnnlmhbmladaaGreatDoor.Strip
