/-
  The walk of StreamParts: no statement is proved here.
-/
import Derived.Test.YtcgdeeinnfkgkaaStreamI
import Derived.Test.YtcgdeeinnfkgkaaEntryK2
import Derived.Test.YtcgdeeinnfkgkaaEntrySl
import Derived.Test.YtcgdeeinnfkgkaaHeadLib
import Derived.Deep.RegionHeld3
import Derived.Deep.QuietTactic
import Derived.BigQuiet
namespace Go.Proofs.Ytcgdeeinnfkgkaa.Stream
open Go.RowKit Go.Proofs.Ytcgdeeinnfkgkaa.Str Go.Proofs.Ytcgdeeinnfkgkaa.Base Go.Proofs.Ytcgdeeinnfkgkaa.Node Go.Proofs.Ytcgdeeinnfkgkaa.Head Go.Proofs.Ytcgdeeinnfkgkaa.Long Go.Proofs.Ytcgdeeinnfkgkaa.Entry
open Go.Proofs.Ytcgdeeinnfkgkaa.Tree (oneB mayT fewT)

theorem fewp {t : List Nd} (h : fewT t = true) : t.length ≤ 30 := (Tree.fewT_iff.1 h).1
theorem sts_len {t : List Nd} (h : mayT t = true) : (startsS t).length = t.length + 1 := by rw [startsS_yes h, List.length_map, List.length_range]
theorem sts_at {t : List Nd} (h : mayT t = true) {j : Nat} (hj : j ≤ t.length) : (startsS t)[j]? = some (startN t j) := by
  rw [startsS_yes h, List.getElem?_map, List.getElem?_range (by omega)]
  rfl
theorem same_p (ls : List L) (A B : Option Addr) (n m c d : Nat) (w : World) (ha : RdL w A c ls) (hb : RdL w B d ls) (hn : ls.length = n) (hm : ls.length = m) (hl : n ≤ 1000000) :
    Calls Try.prog 14 #[.slice A n c, .slice B m d] w fun e w' => e = .returned (.bool true) ∧ Stp w w' := by
  subst hn hm
  refine (Block.rsame_s ls ls A B c d w ha hb (by omega) (by omega)).mono ?_
  rintro e w' ⟨rfl, h⟩
  exact ⟨by simp, h⟩
theorem eput_n (n : Nd) (v : Value) (e : v = nv n) (hn : SmallN n) (w : World) :
    Calls Try.prog 13 #[v] w fun e w' => ∃ A cap, e = .returned (.tuple #[.slice A (putE n).length cap, .bool (oneB n)]) ∧ RdL w' A cap (putE n) ∧ Stp w w' := by
  subst e
  exact eput_s n hn w
theorem zero_n (l : L) (n : Nat) (hn : l.length = n) (A : Option Addr) (c : Nat) (w : World) (ha : RdA w A c (bs l)) (hl : n ≤ 1000000) :
    Calls Try.prog 15 #[.slice A n c] w fun e w' => e = .returned (.bool (BlockM.zeroV l)) ∧ Stp w w' := by
  subst hn
  exact Head.zero_s l A c w ha (by omega)
theorem sz (t : TypeId) (k : Nat) (h : (Try.prog.info? t).map (·.size) = some k) (w : World) : (sizeOf t).run Try.prog w = .ok k w := by
  cases hq : Try.prog.info? t with
  | none => simp [hq] at h
  | some i =>
    have : i.size = k := by simpa [hq] using h
    simp [sizeOf, typeInfo, hq, this]
theorem bslice_h (b o n c k : Nat) (hk : k ≤ c) (w : World) : (Instr.slice 25 (.slice (some ⟨b, o, none⟩) n c) none (some (.int .i64 (k : Int))) none).run Try.prog w = .ok (.slice (some ⟨b, o, none⟩) k c) w := by
  have he : Try.prog.elem 25 = 35 := by kernel_rfl
  rw [run_slice_h (P := Try.prog) w 25 _ _ _ (by rw [he]; exact Try.underlying25) .i64 k (by omega) (by omega), he, sz 35 1 (by kernel_rfl)]
  simp only [Result.andThen_ok, sliced]
  simp
  intro _
  rw [Addr.add_lit, Nat.add_zero]
theorem pslice_h (b o n c k : Nat) (hk : k ≤ c) (w : World) : (Instr.slice 22 (.slice (some ⟨b, o, none⟩) n c) none (some (.int .i64 (k : Int))) none).run Try.prog w = .ok (.slice (some ⟨b, o, none⟩) k c) w := by
  have he : Try.prog.elem 22 = 32 := by kernel_rfl
  rw [run_slice_h (P := Try.prog) w 22 _ _ _ (by rw [he]; exact Try.underlying22) .i64 k (by omega) (by omega), he, sz 32 8 (by kernel_rfl)]
  simp only [Result.andThen_ok, sliced]
  simp
  intro _
  rw [Addr.add_lit, Nat.add_zero]
theorem bslice_lh (b o n c : Nat) (i m : Nat) (hi : i + m ≤ c) (hm : 0 < m) (w : World) : (Instr.slice 25 (.slice (some ⟨b, o, none⟩) n c) (some (.int .i64 (i : Int))) (some (.int .i64 ((i : Int) + (m : Int)))) none).run Try.prog w = .ok (.slice (some ⟨b, o + i, none⟩) m (c - i)) w := by
  have he : Try.prog.elem 25 = 35 := by kernel_rfl
  rw [run_slice_lh (P := Try.prog) w 25 _ _ _ (by rw [he]; exact Try.underlying25) .i64 .i64 _ _ (by omega) (by omega) (by omega), he, sz 35 1 (by kernel_rfl)]
  simp only [Result.andThen_ok, sliced]
  rw [if_neg (by omega)]
  simp only [Option.map_some, Addr.add_lit, Int.toNat_natCast, Nat.mul_one]
  rw [show ((i : Int) + (m : Int)).toNat - i = m by omega]
theorem rdL_take {w : World} {A : Option Addr} {c : Nat} {ls : List L} (h : RdL w A c ls) (k : Nat) : RdL w A c (ls.take k) := by
  obtain ⟨us, h1, h2, h3⟩ := h
  refine ⟨us.take k, by rw [List.length_take, List.length_take, h1], h2.take k, fun j l hj => ?_⟩
  rw [List.getElem?_take] at hj
  split at hj
  · rename_i hlt
    obtain ⟨u, hu, hr⟩ := h3 j l hj
    exact ⟨u, by rw [List.getElem?_take, if_pos hlt]; exact hu, hr⟩
  · cases hj

set_option maxRecDepth 100000 in
set_option maxHeartbeats 8000000 in
theorem sparts_no (I : StreamI) (t : List Nd) (k : Int) (A : Option Addr) (c : Nat) (w : World) (ha : RdN w A c t) (hst : ∀ n ∈ t, SmallN n) (ht : t.length < 9223372036854775808)
    (m F a b : Bool) (hF : fewT t = F) (hm : mayT t = m) (ga : decide (k < 0) = a) (gb : decide ((t.length : Int) ≤ k) = b) (hno : (F && (m && (!a && !b))) = false) :
    Calls Try.prog 3 #[.slice A t.length c, .int .i64 k] w fun e w' => e = .returned (.bool true) ∧ Stp w w' := by
  have h0 := Stp.refl w
  have Ha := Lib.hid ha
  have Hs := Lib.hid hst
  have Ht := Lib.hid ht
  have HI := Lib.hid I
  have HF := Lib.hid hF
  have Hm := Lib.hid hm
  clear ha hst ht I hF hm
  rcases F <;> rcases m <;> rcases a <;> rcases b
  all_goals first
    | (exfalso; simp at hno; done)
    | (clear hno
       go_enter Try.func3, Try.ntmps3
       go_wp2_with (first
         | (go_at_call 8; (with_reducible refine (awake_s HI.out _).mono ?_); rintro e w1 ⟨rfl, hs⟩; replace Ha := Lib.hid (Ha.out.keep hs); replace h0 := Stp.trans h0 hs; clear hs)
         | (go_at_call 9; (with_reducible refine (Tree.fewt_s t A c _ Ha.out Ht.out).mono ?_); rintro e w2 ⟨rfl, hs⟩; rw [HF.out]; replace Ha := Lib.hid (Ha.out.keep hs); replace h0 := Stp.trans h0 hs; clear hs)
         | (go_at_call 10; (with_reducible refine (Tree.tmay_s t A c _ Ha.out (by have := fewp HF.out; omega) Hs.out).mono ?_); rintro e w7 ⟨rfl, hs⟩; rw [Hm.out]; replace Ha := Lib.hid (Ha.out.keep hs); replace h0 := Stp.trans h0 hs; clear hs))
       go_ret
       exact ⟨rfl, h0⟩)

set_option maxRecDepth 100000 in
set_option maxHeartbeats 16000000 in
theorem sparts_in (I : StreamI) (t : List Nd) (k : Int) (A : Option Addr) (c : Nat) (w : World) (ha : RdN w A c t) (hst : ∀ n ∈ t, SmallN n) (ht : t.length < 9223372036854775808)
    (hF : fewT t = true) (hm : mayT t = true) (kn : Nat) (hkn : k = (kn : Int)) (n : Nd) (hn : t[kn]? = some n) :
    Calls Try.prog 3 #[.slice A t.length c, .int .i64 k] w fun e w' => e = .returned (.bool true) ∧ Stp w w' := by
  have h0 := Stp.refl w
  have hkl := (List.getElem?_eq_some_iff.1 hn).1
  have h20 := may_len hm
  have hon := Tree.may_one hm hn
  have hmt := Tree.may_take hm kn
  have hpos := put_pos hon
  -- the lists
  obtain ⟨P, hP⟩ : ∃ P, putE n = P := ⟨_, rfl⟩
  obtain ⟨M, hM⟩ : ∃ M, P.length = M := ⟨_, rfl⟩
  obtain ⟨X, hX⟩ : ∃ X, blocksT (t.take kn) = X := ⟨_, rfl⟩
  obtain ⟨s0, hs0⟩ : ∃ s, X.length = s := ⟨_, rfl⟩
  obtain ⟨Al, hAl⟩ : ∃ x, allS t = x := ⟨_, rfl⟩
  obtain ⟨N, hN⟩ : ∃ x, Al.length = x := ⟨_, rfl⟩
  obtain ⟨Le, hLe⟩ : ∃ x, allS (t.take kn) = x := ⟨_, rfl⟩
  obtain ⟨q, hq⟩ : ∃ x, (startsS t).length = x := ⟨_, rfl⟩
  have hst0 : startN t kn = s0 := by rw [startN, hX, hs0]
  have hst1 : startN t (kn + 1) = s0 + M := by rw [start_step hn, hst0, hP, hM]
  have hNe : N = startN t t.length + 2 := by rw [← hN, ← hAl, all_length hm]
  have hle1 := start_mono t (show kn + 1 ≤ t.length by omega)
  have hLel : Le.length = s0 + 2 := by rw [← hLe, all_length hmt, start_over (Nat.le_refl _), hX, hs0]
  have hql : q = t.length + 1 := by rw [← hq, sts_len hm]
  have hN402 : N ≤ 402 := by
    have q1 := blocks_le t
    rw [hNe, start_end]
    omega
  rw [hst1] at hle1
  rw [hP, hM] at hpos
  -- the parts of the lists
  have hpart : (Al.drop s0).take M = P := by
    obtain ⟨B, e⟩ := all_part hm hn
    rw [hAl, hX, hP] at e
    rw [e, List.append_assoc, ← hs0, List.drop_left, ← hM, List.take_left]
  have hhead : Al.take s0 = X := by
    obtain ⟨B, e⟩ := all_part hm hn
    rw [hAl, hX, hP] at e
    rw [e, List.append_assoc, ← hs0, List.take_left]
  have hhead2 : Le.take s0 = X := by rw [← hLe, allS_yes hmt, hX, ← hs0, List.take_left]
  have hz : ∀ j, N ≤ j + 2 → j < N → Al[j]? = some (BlockM.noughts 512) := fun j h1 h2 => by
    rw [← hAl, allS_yes hm, List.getElem?_append_right (by rw [← start_end]; omega), ← start_end, endsV_is]
    obtain h | h : j - startN t t.length = 0 ∨ j - startN t t.length = 1 := by omega
    · rw [h]; rfl
    · rw [h]; rfl
  have hsat : ∀ j, j ≤ t.length → (startsS t)[j]? = some (startN t j) := fun j hj => sts_at hm hj
  obtain ⟨S, hS⟩ : ∃ S : Int, (s0 : Int) = S := ⟨_, rfl⟩
  obtain ⟨T, hT⟩ : ∃ T : Int, (s0 : Int) + (M : Int) = T := ⟨_, rfl⟩
  obtain ⟨E, hE⟩ : ∃ E : Int, (startN t t.length : Int) = E := ⟨_, rfl⟩
  obtain ⟨p, hp⟩ : ∃ p, Le.length = p := ⟨_, rfl⟩
  have hw3 : IntKind.i64.wrap ((t.length : Int) + 1) = (q : Int) := by
    rw [IntKind.wrap_i64]
    omega
  have hw4 : IntKind.i64.wrap ((N : Int) - 2) = E := by
    rw [IntKind.wrap_i64]
    omega
  have hw5 : IntKind.i64.wrap (S + 2) = (p : Int) := by
    rw [IntKind.wrap_i64]
    omega
  have hw6 : IntKind.i64.wrap (k + 1) = k + 1 := by
    rw [IntKind.wrap_i64]
    omega
  have hw7 : IntKind.i64.wrap ((N : Int) - 1) = (N : Int) - 1 := by
    rw [IntKind.wrap_i64]
    omega
  have hE2 : (N : Int) - 2 = E := by omega
  have gS0 : decide (S < 0) = false := decide_eq_false (by omega)
  have gTS : decide (T < S) = false := decide_eq_false (by omega)
  have gNT : decide ((N : Int) < T) = false := decide_eq_false (by omega)
  have gk0 : decide (k < 0) = false := decide_eq_false (by omega)
  have gkl : decide ((t.length : Int) ≤ k) = false := decide_eq_false (by omega)
  have bk0 : 0 ≤ k := by omega
  have bk1 : k < (q : Int) := by omega
  have bk2 : 0 ≤ k + 1 := by omega
  have bk3 : k + 1 < (q : Int) := by omega
  have bk4 : t.length < q := by omega
  have bk5 : k < (t.length : Int) := by omega
  have bE0 : 0 ≤ E := by omega
  have bE1 : E < (N : Int) := by omega
  have bN0 : (0 : Int) ≤ (N : Int) - 1 := by omega
  have bN1 : (N : Int) - 1 < (N : Int) := by omega
  have hkt : k.toNat = kn := by omega
  have hkt1 : (k + 1).toNat = kn + 1 := by omega
  have Ha := Lib.hid ha
  have Hs := Lib.hid hst
  have Hst := Lib.hid (show ∀ n ∈ t.take kn, SmallN n from fun n h => hst n (List.mem_of_mem_take h))
  have Ht := Lib.hid ht
  have HI := Lib.hid I
  have HF := Lib.hid hF
  have Hm := Lib.hid hm
  have Hmt := Lib.hid hmt
  have Hn := Lib.hid hn
  have Hon := Lib.hid hon
  have HP := Lib.hid hP
  have HM := Lib.hid hM
  have HAl := Lib.hid hAl
  have HN := Lib.hid hN
  have HLe := Lib.hid hLe
  have Hp := Lib.hid hp
  have Hq := Lib.hid hq
  have Hpart := Lib.hid hpart
  have Hhead := Lib.hid hhead
  have Hhead2 := Lib.hid hhead2
  have Hxl := Lib.hid hs0
  have Hz := Lib.hid hz
  have Hsat := Lib.hid hsat
  have Hk := Lib.hid (show t[k.toNat]? = some n by rw [hkt]; exact hn)
  have Hkt := Lib.hid hkt
  have Hkt1 := Lib.hid hkt1
  have Hc0 := Lib.hid (show ((startN t kn : Nat) : Int) = S by rw [hst0]; exact hS)
  have Hc1 := Lib.hid (show ((startN t (kn + 1) : Nat) : Int) = T by rw [hst1, ← hT]; rfl)
  have Hc2 := Lib.hid hE
  have HS := Lib.hid hS
  have HT := Lib.hid hT
  have Hle1 := Lib.hid hle1
  have HNe := Lib.hid hNe
  have Hpl := Lib.hid (hp.symm.trans hLel)
  have Hpos := Lib.hid hpos
  have Hkl := Lib.hid hkl
  have Htl := Lib.hid (show (t.take kn).length = kn by rw [List.length_take]; omega)
  obtain ⟨b, o, rfl, -, -⟩ := ha.cells hn
  have hca := ha.1
  have hns : ∀ w, (Instr.slice 22 (.slice (some ⟨b, o, none⟩) t.length c) none (some (.int .i64 k)) none).run Try.prog w = .ok (.slice (some ⟨b, o, none⟩) kn c) w := fun w => by rw [hkn]; exact pslice_h b o t.length c kn (by omega) w
  clear ha hst ht I hF hm hmt hn hon hP hM hX hAl hN hLe hq hst0 hst1 hNe hle1 hLel hql hpart hhead hhead2 hz hsat hS hT hE hp hkt hkt1 hpos hkl hca hs0 hkn
  go_enter Try.func3, Try.ntmps3
  go_wp2_with (first
    | (go_at_call 8; (with_reducible refine (awake_s HI.out _).mono ?_); rintro e w1 ⟨rfl, hs⟩; replace Ha := Lib.hid (Ha.out.keep hs); replace h0 := Stp.trans h0 hs; clear hs)
    | (go_at_call 9; (with_reducible refine (Tree.fewt_s t _ c _ Ha.out Ht.out).mono ?_); rintro e w2 ⟨rfl, hs⟩; rw [HF.out]; replace Ha := Lib.hid (Ha.out.keep hs); replace h0 := Stp.trans h0 hs; clear hs)
    | (go_at_call 10; (with_reducible refine (Tree.tmay_s t _ c _ Ha.out (by have := fewp HF.out; omega) Hs.out).mono ?_); rintro e w3 ⟨rfl, hs⟩; rw [Hm.out]; replace Ha := Lib.hid (Ha.out.keep hs); replace h0 := Stp.trans h0 hs; clear hs)
    | (go_at_call 11; (with_reducible refine (HI.out.all t _ rfl (by have := fewp HF.out; omega) Hs.out _ _ _ Ha.out).mono ?_); rintro e w4 ⟨B, d, rfl, hr, hs⟩; rw [HAl.out] at hr; rw [HAl.out, HN.out, Hm.out]; have Hr := Lib.hid hr; replace Ha := Lib.hid (Ha.out.keep hs); replace h0 := Stp.trans h0 hs; clear hr hs)
    | (go_at_call 12; (with_reducible refine (HI.out.starts t _ rfl (by have := fewp HF.out; omega) Hs.out _ _ _ Ha.out).mono ?_); rintro e w5 ⟨B5, d5, rfl, hr, hs⟩; rw [Hq.out]; have H5 := Lib.hid hr; replace Hr := Lib.hid (Hr.out.keep hs); replace Ha := Lib.hid (Ha.out.keep hs); replace h0 := Stp.trans h0 hs; clear hr hs; obtain ⟨b9, o9, e9, -, q0, q1, q2, q3, q4, q5, q6, q7⟩ := Ha.out.cells Hk.out; cases e9)
    | (go_at_call 13; go_loud ((with_reducible refine (eput_n n _ rfl (Hs.out n (List.mem_of_getElem? Hk.out)) _).mono ?_); rintro e w6 ⟨B6, d6, rfl, hr, hs⟩; rw [HP.out] at hr; rw [HP.out, HM.out, Hon.out]; have H6 := Lib.hid hr; replace H5 := Lib.hid (RdA.keep H5.out hs); replace Hr := Lib.hid (Hr.out.keep hs); replace Ha := Lib.hid (Ha.out.keep hs); replace h0 := Stp.trans h0 hs; clear hr hs q0 q1 q2 q3 q4 q5 q6 q7))
    | (go_at_call 11; go_loud ((with_reducible refine (HI.out.all (t.take kn) _ Htl.out (by have := fewp HF.out; have := Hkl.out; omega) Hst.out _ _ _ (Ha.out.take kn)).mono ?_); rintro e w7 ⟨B7, d7, rfl, hr, hs⟩; rw [HLe.out] at hr; rw [HLe.out, Hp.out, Hmt.out]; have H7 := Lib.hid hr; replace H6 := Lib.hid (H6.out.keep hs); replace H5 := Lib.hid (RdA.keep H5.out hs); replace Hr := Lib.hid (Hr.out.keep hs); replace Ha := Lib.hid (Ha.out.keep hs); replace h0 := Stp.trans h0 hs; clear hr hs; obtain ⟨b2, o2, rfl, c0⟩ := RdI.cell H5.out (j := k.toNat) (x := startN t kn) (by rw [Hkt.out]; exact Hsat.out kn (by have := Hkl.out; omega)); obtain ⟨b9, o9, e9, c1⟩ := RdI.cell H5.out (j := (k + 1).toNat) (x := startN t (kn + 1)) (by rw [Hkt1.out]; exact Hsat.out (kn + 1) Hkl.out); cases e9; obtain ⟨b9, o9, e9, c2⟩ := RdI.cell H5.out (j := t.length) (x := startN t t.length) (Hsat.out _ (Nat.le_refl _)); cases e9; rw [Hc0.out] at c0; rw [Hc1.out] at c1; rw [Hc2.out] at c2)))
  simp only [List.append_eq, List.cons_append, List.nil_append]
  go_quiet (fail)
  go_wp2_with fail
  have hdq : Stp w7 (w7.drewN nq) := Stp.drewN (Stp.refl w7) nq
  generalize w7.drewN nq = wz at hdq ⊢
  replace Hr := Lib.hid (Hr.out.keep hdq)
  replace H7 := Lib.hid (H7.out.keep hdq)
  replace H6 := Lib.hid (H6.out.keep hdq)
  replace c0 := cell_later hdq c0
  replace c1 := cell_later hdq c1
  replace h0 := Stp.trans h0 hdq
  clear c2 hdq H5 Ha
  have hcl := Hr.out.length_le
  have hc7 := H7.out.length_le
  rw [HN.out] at hcl
  rw [Hp.out] at hc7
  have hN2 : s0 + 2 ≤ N := by have := Hle1.out; have := HNe.out; omega
  obtain ⟨bl, ol, rfl⟩ : ∃ bl ol, B = some ⟨bl, ol, none⟩ := by
    obtain ⟨b, o, _, _, e, _⟩ := Hr.out.at_ (Hz.out (N - 1) (by omega) (by omega))
    exact ⟨b, o, e⟩
  obtain ⟨b7, o7, rfl⟩ : ∃ b7 o7, B7 = some ⟨b7, o7, none⟩ := by
    obtain ⟨b, o, _, _, e, _⟩ := H7.out.at_ (List.getElem?_eq_getElem (show 0 < Le.length by rw [Hp.out, Hpl.out]; omega))
    exact ⟨b, o, e⟩
  have hsl1 : ∀ w, (Instr.slice 25 (.slice (some ⟨bl, ol, none⟩) N d) (some (.int .i64 S)) (some (.int .i64 T)) none).run Try.prog w = .ok (.slice (some ⟨bl, ol + s0, none⟩) M (d - s0)) w := fun w => by
    rw [← HS.out, ← HT.out]
    exact bslice_lh bl ol N d s0 M (by have := Hle1.out; have := HNe.out; omega) Hpos.out w
  have hsl2 : ∀ w, (Instr.slice 25 (.slice (some ⟨b7, o7, none⟩) p d7) none (some (.int .i64 S)) none).run Try.prog w = .ok (.slice (some ⟨b7, o7, none⟩) s0 d7) w := fun w => by
    rw [← HS.out]
    exact bslice_h b7 o7 p d7 s0 (by have := Hpl.out; omega) w
  have hsl3 : ∀ w, (Instr.slice 25 (.slice (some ⟨bl, ol, none⟩) N d) none (some (.int .i64 S)) none).run Try.prog w = .ok (.slice (some ⟨bl, ol, none⟩) s0 d) w := fun w => by
    rw [← HS.out]
    exact bslice_h bl ol N d s0 (by omega) w
  have hown : RdL wz (some ⟨bl, ol + s0, none⟩) (d - s0) P := by
    have h1 := rdL_take (rdL_drop s0 ol d Al (by rw [HN.out]; omega) Hr.out) M
    rwa [Hpart.out] at h1
  have hh1 : RdL wz (some ⟨bl, ol, none⟩) d X := by
    have h1 := rdL_take Hr.out s0
    rwa [Hhead.out] at h1
  have hh2 : RdL wz (some ⟨b7, o7, none⟩) d7 X := by
    have h1 := rdL_take H7.out s0
    rwa [Hhead2.out] at h1
  have Hown := Lib.hid hown
  have Hh1 := Lib.hid hh1
  have Hh2 := Lib.hid hh2
  have hM20 : M ≤ 1000000 := by have := Hle1.out; have := HNe.out; omega
  have hs20 : s0 ≤ 1000000 := by omega
  have HM20 := Lib.hid hM20
  have Hs20 := Lib.hid hs20
  have Kc0 := Lib.hid (fun (W : World) (hW : Stp wz W) => cell_later hW c0)
  have Kc1 := Lib.hid (fun (W : World) (hW : Stp wz W) => cell_later hW c1)
  have H0 := Lib.hid h0
  clear hown hh1 hh2 hM20 hs20 hcl hc7 hN2 h0
  go_region_held3 (fun W : World => W.cell? ⟨b2, o2 + k.toNat, none⟩ = some (.int .i64 S) ∧ W.cell? ⟨b2, o2 + (k + 1).toNat, none⟩ = some (.int .i64 T))
    (first | exact ⟨Kc0.out _ (stp_drew (Stp.refl _)), Kc1.out _ (stp_drew (Stp.refl _))⟩ | exact ⟨Kc0.out _ H8.out, Kc1.out _ H8.out⟩)
    (first | (go_at_call 14; (with_reducible refine (same_p P _ _ _ _ _ _ _ (Hown.out.keep (stp_drew (Stp.refl _))) (H6.out.keep (stp_drew (Stp.refl _))) HM.out HM.out HM20.out).mono ?_); rintro e w8 ⟨rfl, hs⟩; have H8 := Lib.hid (Stp.trans (stp_drew (Stp.refl wz)) hs); clear hs))
  go_wp2_with fail
  go_region_held3 (fun W : World => W.cell? ⟨b2, o2 + k.toNat, none⟩ = some (.int .i64 S))
    (first | exact Kc0.out _ (stp_drew H8.out) | exact Kc0.out _ H9.out)
    (first | (go_at_call 14; (with_reducible refine (same_p X _ _ _ _ _ _ _ (Hh2.out.keep (stp_drew H8.out)) (Hh1.out.keep (stp_drew H8.out)) Hxl.out Hxl.out Hs20.out).mono ?_); rintro e w9 ⟨rfl, hs⟩; have H9 := Lib.hid (Stp.trans (stp_drew H8.out) hs); clear hs))
  have hzt : BlockM.zeroV (BlockM.noughts 512) = true := by simp [BlockM.zeroV, BlockM.noughts]
  obtain ⟨bz, oz, A1, k1, ez, z1, r1⟩ := (Hr.out.keep H9.out).at_ (Hz.out ((N : Int) - 1).toNat (by omega) (by omega))
  cases ez
  obtain ⟨bz, oz, A2, k2, ez, z2, r2⟩ := (Hr.out.keep H9.out).at_ (Hz.out E.toNat (by omega) (by omega))
  cases ez
  rw [BlockM.noughts_length] at z1 z2
  have hN1 : ((N : Int) - 1).toNat = N - 1 := by omega
  have z1b := z1
  rw [hN1] at z1b
  have R1 := Lib.hid r1
  have R2 := Lib.hid r2
  have Z2 := Lib.hid z2
  have Hzt := Lib.hid hzt
  clear r1 r2 hzt c0 c1
  go_wp2_with (first
    | (go_at_call 15; (with_reducible refine (zero_n (BlockM.noughts 512) 512 (BlockM.noughts_length 512) A1 k1 _ R1.out (by omega)).mono ?_); rintro e wa ⟨rfl, hs⟩; rw [Hzt.out]; have Ha1 := Lib.hid hs; clear hs z1 z1b z2; have z2 := cell_later Ha1.out Z2.out)
    | (go_at_call 15; (with_reducible refine (zero_n (BlockM.noughts 512) 512 (BlockM.noughts_length 512) A2 k2 _ (RdA.keep R2.out Ha1.out) (by omega)).mono ?_); rintro e wb ⟨rfl, hs⟩; rw [Hzt.out]; have Hb1 := Lib.hid hs; clear hs z2))
  go_ret
  exact ⟨rfl, Stp.trans H0.out (Stp.trans H9.out (Stp.trans Ha1.out Hb1.out))⟩
theorem sparts_s (I : StreamI) (t : List Nd) (k : Int) (A : Option Addr) (c : Nat) (w : World) (ha : RdN w A c t) (hst : ∀ n ∈ t, SmallN n) (ht : t.length < 9223372036854775808) :
    Calls Try.prog 3 #[.slice A t.length c, .int .i64 k] w fun e w' => e = .returned (.bool true) ∧ Below w.heap.size w w' := by
  cases hF : fewT t with
  | false => exact sparts_no I t k A c w ha hst ht _ _ _ _ hF rfl rfl rfl (by simp)
  | true =>
    cases hm : mayT t with
    | false => exact sparts_no I t k A c w ha hst ht _ _ _ _ hF hm rfl rfl (by simp)
    | true =>
      by_cases h : 0 ≤ k ∧ k < (t.length : Int)
      · obtain ⟨kn, hkn⟩ : ∃ kn : Nat, k = (kn : Int) := ⟨k.toNat, by omega⟩
        exact sparts_in I t k A c w ha hst ht hF hm kn hkn _ (List.getElem?_eq_getElem (by omega))
      · refine sparts_no I t k A c w ha hst ht _ _ _ _ hF hm rfl rfl ?_
        by_cases h0 : k < 0
        · simp [h0]
        · have h1 : (t.length : Int) ≤ k := by omega
          simp [h1]
end Go.Proofs.Ytcgdeeinnfkgkaa.Stream
