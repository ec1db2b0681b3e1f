/-
  The document's answers for tapes: their contracts; no statement is proved here.
-/
import Derived.Test.YtaknnkcfoafkdaaTapeK
import Derived.Test.YtaknnkcfoafkdaaTapeO
import Derived.Test.YtaknnkcfoafkdaaRecRef
import Derived.Test.YtaknnkcfoafkdaaBlockRef
import Derived.Test.YtaknnkcfoafkdaaTapeP
import Derived.BigQuiet
import Derived.Deep.RegionLaw
namespace Go.Proofs.Ytaknnkcfoafkdaa.Tape
open Go.RowKit Go.Proofs.Ytaknnkcfoafkdaa.Str Go.Proofs.Ytaknnkcfoafkdaa.Base Go.Proofs.Ytaknnkcfoafkdaa.BlockM Go.Proofs.Ytaknnkcfoafkdaa.RecM Go.Proofs.Ytaknnkcfoafkdaa.TapeM
set_option linter.unusedVariables false

theorem rrmay_n (r : L) (n : Nat) (hn : r.length = n) (A : Option Addr) (c : Nat) (w : World) (hl : n < 9223372036854775808) (b : Bool) (hb : mayR r = b) :
    Calls Try.prog 59 #[.slice A n c] w fun e w' => e = .returned (.bool b) ∧ Stp w w' := by
  subst hn hb
  exact Rec.rmay_r r A c w hl
set_option maxRecDepth 100000 in
set_option maxHeartbeats 2000000 in
theorem rtmay_s (c : Int) (ls : List L) (m : Bool) (n : Nat) (hf : FewT ⟨c, ls, m⟩) (hn : ls.length = n) (b : Bool) (hb : mayT ⟨c, ls, m⟩ = b) (A : Option Addr) (k : Nat) (w : World) (ha : RdL w A k ls) :
    Calls Try.prog 49 #[tc c A n k m] w fun e w' => e = .returned (.bool b) ∧ Stp w w' := by
  obtain ⟨f1, f2, f3, f4⟩ := hf
  dsimp only at f1 f2 f3 f4
  rw [hn] at f3
  have Ha := Lib.hid ha
  have F4 := Lib.hid f4
  have Hn := Lib.hid hn
  have H0 := Lib.hid (Stp.alloc (Stp.refl w) (.cells (tcs c A n k m) 41))
  have B0 := Lib.hid (Blk.new w 41 (tcs c A n k m))
  obtain ⟨⟨q0, q1, q2⟩, -, -, -⟩ := tt_all B0.out
  have hb2 : b = (decide (0 ≤ c) && decide (c ≤ 200) && decide ((n : Int) ≤ c) && blocksB ls) := by rw [← hb, mayT, hn]
  by_cases h1 : c < 0
  · have g1 : decide (c < 0) = true := decide_eq_true h1
    have e : b = false := by rw [hb2, decide_eq_false (by omega)]; rfl
    subst e
    clear ha f4 hn hb hb2 h1
    go_enter Try.func49, Try.ntmps49
    go_wp2_with fail
    go_ret
    exact ⟨rfl, H0.out⟩
  · by_cases h2 : 200 < c
    · have g1 : decide (c < 0) = false := decide_eq_false h1
      have g2 : decide (200 < c) = true := decide_eq_true h2
      have e : b = false := by rw [hb2, decide_eq_false (show ¬ c ≤ 200 by omega)]; simp
      subst e
      clear ha f4 hn hb hb2 h1 h2
      go_enter Try.func49, Try.ntmps49
      go_wp2_with fail
      go_ret
      exact ⟨rfl, H0.out⟩
    · by_cases h3 : c < (n : Int)
      · have g1 : decide (c < 0) = false := decide_eq_false h1
        have g2 : decide (200 < c) = false := decide_eq_false h2
        have g3 : decide (c < (n : Int)) = true := decide_eq_true h3
        have e : b = false := by rw [hb2, decide_eq_false (show ¬ (n : Int) ≤ c by omega)]; simp
        subst e
        clear ha f4 hn hb hb2 h1 h2 h3
        go_enter Try.func49, Try.ntmps49
        go_wp2_with fail
        go_ret
        exact ⟨rfl, H0.out⟩
      · have g1 : decide (c < 0) = false := decide_eq_false h1
        have g2 : decide (200 < c) = false := decide_eq_false h2
        have g3 : decide (c < (n : Int)) = false := decide_eq_false h3
        have e : b = blocksB ls := by rw [hb2, decide_eq_true (show 0 ≤ c by omega), decide_eq_true (show c ≤ 200 by omega), decide_eq_true (show (n : Int) ≤ c by omega)]; simp
        have Hr := Lib.hid e.symm
        clear ha f4 hn hb hb2 h1 h2 h3 e
        go_enter Try.func49, Try.ntmps49
        go_wp2_with fail
        clear q0 q1 q2
        go_loopw [3] (fun i wr => ∃ j : Nat, j ≤ n ∧ i = .int .i64 j ∧ Hid (Stp (w.alloc (.cells (tcs c A n k m) 41)) wr) ∧ Hid (∀ x ∈ ls.take j, mayR x = true)) (fun i _ => n - (intOf i).toNat)
        case atStart => exact ⟨0, by omega, rfl, Lib.hid (Stp.refl _), Lib.hid (by simp)⟩
        case round =>
          obtain ⟨j, hj, rfl, HS, Hk⟩ := hrel
          obtain ⟨⟨q0, q1, q2⟩, -, -, -⟩ := tt_all (B0.out.keep HS.out B0.out.lt)
          by_cases hlt : j < n
          · obtain ⟨l, hl1⟩ : ∃ l, ls[j]? = some l := ⟨_, List.getElem?_eq_getElem (by rw [Hn.out]; exact hlt)⟩
            obtain ⟨bb, oo, A1, c1, rfl, ca, ra⟩ := (Ha.out.keep (Stp.trans H0.out HS.out)).at_ hl1
            have hll := F4.out l (List.mem_of_getElem? hl1)
            obtain ⟨y, hy⟩ : ∃ y, l.length = y := ⟨_, rfl⟩
            rw [hy] at ca hll
            have Hy := Lib.hid hy
            have Hl1 := Lib.hid hl1
            clear hl1 hy ra
            cases h5 : mayR l
            · have H5 := Lib.hid h5
              clear h5
              go_wp2_with (go_at_call 59; refine (rrmay_n l y Hy.out _ _ _ (by omega) false H5.out).mono ?_; rintro e w' ⟨rfl, hs⟩; have H2 := Lib.hid hs; clear hs)
              go_ret
              refine ⟨?_, Stp.trans (Stp.trans H0.out HS.out) H2.out⟩
              have e : b = false := by
                rw [← Hr.out, Bool.eq_false_iff]
                intro h
                have := blocksB_iff.1 h l (List.mem_of_getElem? Hl1.out)
                rw [H5.out] at this
                cases this
              rw [e]
              rfl
            · have H5 := Lib.hid h5
              clear h5
              go_wp2_with (go_at_call 59; refine (rrmay_n l y Hy.out _ _ _ (by omega) true H5.out).mono ?_; rintro e w' ⟨rfl, hs⟩; have H2 := Lib.hid hs; clear hs)
              go_roundw
              case rel =>
                refine ⟨j + 1, by omega, by go_num, Lib.hid (Stp.trans HS.out H2.out), Lib.hid fun x hx => ?_⟩
                rw [List.take_add_one, Hl1.out] at hx
                rcases List.mem_append.1 hx with h | h
                · exact Hk.out x h
                · simp at h
                  rw [h, H5.out]
              case measure => simp [intOf]; omega
          · obtain rfl : j = n := by omega
            go_wp2_with fail
            go_ret
            refine ⟨?_, Stp.trans H0.out HS.out⟩
            have h := Hk.out
            rw [List.take_of_length_le (by rw [Hn.out]; exact Nat.le_refl _)] at h
            rw [← Hr.out, blocksB_iff.2 h]
            rfl
set_option maxRecDepth 100000 in
set_option maxHeartbeats 2000000 in
theorem rtsame_s (c : Int) (ls : List L) (m : Bool) (n : Nat) (hf : FewT ⟨c, ls, m⟩) (hn : ls.length = n) (c' : Int) (ls' : List L) (m' : Bool) (n' : Nat) (hf' : FewT ⟨c', ls', m'⟩) (hn' : ls'.length = n')
    (b : Bool) (hb : decide ((⟨c, ls, m⟩ : Tp) = ⟨c', ls', m'⟩) = b) (A B : Option Addr) (k d : Nat) (w : World) (ha : RdL w A k ls) (ha' : RdL w B d ls') :
    Calls Try.prog 48 #[tc c A n k m, tc c' B n' d m'] w fun e w' => e = .returned (.bool b) ∧ Stp w w' := by
  have h0 := Stp.alloc (Stp.alloc (Stp.refl w) (.cells (tcs c A n k m) 41)) (.cells (tcs c' B n' d m') 41)
  have b0 := (Blk.new w 41 (tcs c A n k m)).alloc (.cells (tcs c' B n' d m') 41)
  have b1 := Blk.new (w.alloc (.cells (tcs c A n k m) 41)) 41 (tcs c' B n' d m')
  rw [World.size_alloc] at b1
  have h1 := hf.few
  have h2 := hf'.few
  dsimp only at h1 h2
  obtain ⟨⟨q0, q1, q2⟩, -, -, -⟩ := tt_all b0
  obtain ⟨⟨r0, r1, r2⟩, -, -, -⟩ := tt_all b1
  have B0 := Lib.hid b0
  have B1 := Lib.hid b1
  have hb2 : b = ((ls == ls') && (c == c') && (m == m')) := by
    rw [← hb, Bool.eq_iff_iff]
    simp only [decide_eq_true_eq, Tp.mk.injEq, Bool.and_eq_true, beq_iff_eq, and_assoc]
    exact ⟨fun ⟨x, y, z⟩ => ⟨y, x, z⟩, fun ⟨y, x, z⟩ => ⟨x, y, z⟩⟩
  obtain ⟨x1, g1⟩ : ∃ x, (c == c') = x := ⟨_, rfl⟩
  obtain ⟨x2, g2⟩ : ∃ x, (m == m') = x := ⟨_, rfl⟩
  obtain ⟨x3, g3⟩ : ∃ x, (ls == ls') = x := ⟨_, rfl⟩
  rw [g1, g2, g3] at hb2
  subst hb2
  have hrs : ∀ X, Stp w X → Calls Try.prog 62 #[.slice A n k, .slice B n' d] X fun e w' => e = .returned (.bool x3) ∧ Stp X w' := by
    intro X hX
    have h := Block.rsame_s ls ls' A B k d X (ha.keep hX) (ha'.keep hX) (by omega) (by omega)
    rw [hn, hn', g3] at h
    exact h
  have HR := Lib.hid hrs
  have H0 := Lib.hid h0
  clear ha ha' hn hn' hf hf' b0 b1 hb h0 g3 h1 h2 hrs
  cases x1 <;> cases x2 <;> cases x3
  all_goals
    go_enter Try.func48, Try.ntmps48
    go_wp2_with (go_at_call 62; refine (HR.out _ H0.out).mono ?_; rintro e w9 ⟨rfl, hs⟩; have H1 := Lib.hid (Stp.trans H0.out hs); have B0' := Lib.hid (B0.out.keep hs B0.out.lt); have B1' := Lib.hid (B1.out.keep hs B1.out.lt); clear hs q0 q1 q2 r0 r1 r2; obtain ⟨⟨q0, q1, q2⟩, -, -, -⟩ := tt_all B0'.out; obtain ⟨⟨r0, r1, r2⟩, -, -, -⟩ := tt_all B1'.out)
    go_ret
    exact ⟨rfl, H1.out⟩
set_option maxRecDepth 100000 in
set_option maxHeartbeats 2000000 in
theorem rtclose_s (c : Int) (ls : List L) (m : Bool) (n : Nat) (hf : FewT ⟨c, ls, m⟩) (hn : ls.length = n)
    (c' : Int) (ls' : List L) (m' : Bool) (n' e0 : Nat) (hv : closeV ⟨c, ls, m⟩ = (⟨c', ls', m'⟩, e0)) (hn' : ls'.length = n') (ei : Int) (he : (e0 : Int) = ei) (A : Option Addr) (k : Nat) (w : World) (ha : RdL w A k ls) :
    Calls Try.prog 44 #[tc c A n k m] w fun e w' => ∃ A' k', e = .returned (.tuple #[tc c' A' n' k' m', .int .i64 ei]) ∧ RdL w' A' k' ls' ∧ Stp w w' := by
  have HF := Lib.hid hf
  have Hn := Lib.hid hn
  have Ha := Lib.hid ha
  obtain ⟨b0, b1, hst0, hsz0⟩ := two_blks w c A n k m
  obtain ⟨⟨q0, q1, q2⟩, -, -, -⟩ := tt_all b0
  have B0 := Lib.hid b0
  have B1 := Lib.hid b1
  have H0 := Lib.hid hst0
  clear hf b0 b1 hst0 hsz0
  cases hm : mayT ⟨c, ls, m⟩
  · have e1 : closeV ⟨c, ls, m⟩ = (⟨c, ls, m⟩, 1) := by rw [closeV, hm]; rfl
    rw [hv] at e1
    cases e1
    obtain rfl : n = n' := by rw [← Hn.out, ← hn']
    subst he
    have Hm := Lib.hid hm
    clear hm hv hn' hn ha
    go_enter Try.func44, Try.ntmps44
    go_wp2_with (go_at_call 49; refine (rtmay_s c ls m n HF.out Hn.out false Hm.out A k _ (Ha.out.keep H0.out)).mono ?_; rintro e w1 ⟨rfl, hs⟩; have H1 := Lib.hid (Stp.trans H0.out hs); have B0' := Lib.hid (B0.out.keep hs B0.out.lt); have B1' := Lib.hid (B1.out.keep hs B1.out.lt); clear hs q0 q1 q2; obtain ⟨⟨q0, q1, q2⟩, -, -, -⟩ := tt_all B0'.out; obtain ⟨⟨r0, r1, r2⟩, s0, s1, s2⟩ := tt_all B1'.out)
    have hf := fillt_blk c A n k m B1'.out
    have hst := fillt_stp c A n k m H1.out (g := w.heap.size + 1) (by omega)
    change bodyPost _ _ _ _ _ (fillT w1 (w.heap.size + 1) c A n k m)
    generalize fillT w1 (w.heap.size + 1) c A n k m = W at hf hst ⊢
    clear q0 q1 q2 r0 r1 r2 s0 s1 s2
    obtain ⟨⟨q0, q1, q2⟩, -, -, -⟩ := tt_all hf
    refine bodyPost_ret (v := .tuple #[tc c A n k m, .int .i64 1]) (by simp [results, Try.results44, go_sem, *]) rfl ⟨_, _, rfl, (Ha.out.keep hst), hst⟩
  · have Hm := Lib.hid hm
    cases m
    · have e1 : closeV ⟨c, ls, false⟩ = (⟨c, ls, true⟩, 0) := by rw [closeV, hm]; rfl
      rw [hv] at e1
      cases e1
      obtain rfl : n = n' := by rw [← Hn.out, ← hn']
      subst he
      clear hm hv hn' hn ha
      go_enter Try.func44, Try.ntmps44
      go_wp2_with (go_at_call 49; refine (rtmay_s c ls false n HF.out Hn.out true Hm.out A k _ (Ha.out.keep H0.out)).mono ?_; rintro e w1 ⟨rfl, hs⟩; have H1 := Lib.hid (Stp.trans H0.out hs); have B0' := Lib.hid (B0.out.keep hs B0.out.lt); have B1' := Lib.hid (B1.out.keep hs B1.out.lt); clear hs q0 q1 q2; obtain ⟨⟨q0, q1, q2⟩, -, -, -⟩ := tt_all B0'.out; obtain ⟨⟨r0, r1, r2⟩, s0, s1, s2⟩ := tt_all B1'.out)
      have hf := fillt_blk c A n k true B1'.out
      have hst := fillt_stp c A n k true H1.out (g := w.heap.size + 1) (by omega)
      change bodyPost _ _ _ _ _ (fillT w1 (w.heap.size + 1) c A n k true)
      generalize fillT w1 (w.heap.size + 1) c A n k true = W at hf hst ⊢
      clear q0 q1 q2 r0 r1 r2 s0 s1 s2
      obtain ⟨⟨q0, q1, q2⟩, -, -, -⟩ := tt_all hf
      refine bodyPost_ret (v := .tuple #[tc c A n k true, .int .i64 0]) (by simp [results, Try.results44, go_sem, *]) rfl ⟨_, _, rfl, (Ha.out.keep hst), hst⟩
    · have e1 : closeV ⟨c, ls, true⟩ = (⟨c, ls, true⟩, 8) := by rw [closeV, hm]; rfl
      rw [hv] at e1
      cases e1
      obtain rfl : n = n' := by rw [← Hn.out, ← hn']
      subst he
      clear hm hv hn' hn ha
      go_enter Try.func44, Try.ntmps44
      go_wp2_with (go_at_call 49; refine (rtmay_s c ls true n HF.out Hn.out true Hm.out A k _ (Ha.out.keep H0.out)).mono ?_; rintro e w1 ⟨rfl, hs⟩; have H1 := Lib.hid (Stp.trans H0.out hs); have B0' := Lib.hid (B0.out.keep hs B0.out.lt); have B1' := Lib.hid (B1.out.keep hs B1.out.lt); clear hs q0 q1 q2; obtain ⟨⟨q0, q1, q2⟩, -, -, -⟩ := tt_all B0'.out; obtain ⟨⟨r0, r1, r2⟩, s0, s1, s2⟩ := tt_all B1'.out)
      have hf := fillt_blk c A n k true B1'.out
      have hst := fillt_stp c A n k true H1.out (g := w.heap.size + 1) (by omega)
      change bodyPost _ _ _ _ _ (fillT w1 (w.heap.size + 1) c A n k true)
      generalize fillT w1 (w.heap.size + 1) c A n k true = W at hf hst ⊢
      clear q0 q1 q2 r0 r1 r2 s0 s1 s2
      obtain ⟨⟨q0, q1, q2⟩, -, -, -⟩ := tt_all hf
      refine bodyPost_ret (v := .tuple #[tc c A n k true, .int .i64 8]) (by simp [results, Try.results44, go_sem, *]) rfl ⟨_, _, rfl, (Ha.out.keep hst), hst⟩
set_option maxRecDepth 100000 in
set_option maxHeartbeats 2000000 in
theorem rtcut_s (c : Int) (ls : List L) (m : Bool) (n : Nat) (hf : FewT ⟨c, ls, m⟩) (hn : ls.length = n) (i : Int) (hi0 : -9223372036854775808 ≤ i) (hi1 : i < 9223372036854775808)
    (c' : Int) (ls' : List L) (m' : Bool) (n' e0 : Nat) (hv : cutT ⟨c, ls, m⟩ i = (⟨c', ls', m'⟩, e0)) (hn' : ls'.length = n') (ei : Int) (he : (e0 : Int) = ei) (A : Option Addr) (k : Nat) (w : World) (ha : RdL w A k ls) :
    Calls Try.prog 40 #[tc c A n k m, .int .i64 i] w fun e w' => ∃ A' k', e = .returned (.tuple #[tc c' A' n' k' m', .int .i64 ei]) ∧ RdL w' A' k' ls' ∧ Stp w w' ∧ ∀ g, g < w.heap.size → Clear g w A k ls → Clear g w' A' k' ls' := by
  have HF := Lib.hid hf
  have Hn := Lib.hid hn
  have Ha := Lib.hid ha
  obtain ⟨b0, b1, hst0, hsz0⟩ := two_blks w c A n k m
  obtain ⟨⟨q0, q1, q2⟩, -, -, -⟩ := tt_all b0
  have B0 := Lib.hid b0
  have B1 := Lib.hid b1
  have H0 := Lib.hid hst0
  clear hf b0 b1 hst0 hsz0
  cases hm : mayT ⟨c, ls, m⟩
  · have e1 : cutT ⟨c, ls, m⟩ i = (⟨c, ls, m⟩, 1) := by rw [cutT, hm]; rfl
    rw [hv] at e1
    cases e1
    obtain rfl : n = n' := by rw [← Hn.out, ← hn']
    subst he
    have Hm := Lib.hid hm
    clear hm hv hn' hn ha
    go_enter Try.func40, Try.ntmps40
    go_wp2_with (go_at_call 49; refine (rtmay_s c ls m n HF.out Hn.out false Hm.out A k _ (Ha.out.keep H0.out)).mono ?_; rintro e w1 ⟨rfl, hs⟩; have H1 := Lib.hid (Stp.trans H0.out hs); have B0' := Lib.hid (B0.out.keep hs B0.out.lt); have B1' := Lib.hid (B1.out.keep hs B1.out.lt); clear hs q0 q1 q2; obtain ⟨⟨q0, q1, q2⟩, -, -, -⟩ := tt_all B0'.out; obtain ⟨⟨r0, r1, r2⟩, s0, s1, s2⟩ := tt_all B1'.out)
    have hf := fillt_blk c A n k m B1'.out
    have hst := fillt_stp c A n k m H1.out (g := w.heap.size + 1) (by omega)
    change bodyPost _ _ _ _ _ (fillT w1 (w.heap.size + 1) c A n k m)
    generalize fillT w1 (w.heap.size + 1) c A n k m = W at hf hst ⊢
    clear q0 q1 q2 r0 r1 r2 s0 s1 s2
    obtain ⟨⟨q0, q1, q2⟩, -, -, -⟩ := tt_all hf
    refine bodyPost_ret (v := .tuple #[tc c A n k m, .int .i64 1]) (by simp [results, Try.results40, go_sem, *]) rfl ⟨_, _, rfl, (Ha.out.keep hst), hst, fun g _ hc => hc.keep hst⟩
  · have Hm := Lib.hid hm
    by_cases hin : i < 0 ∨ (n : Int) < i
    · have e1 : cutT ⟨c, ls, m⟩ i = (⟨c, ls, m⟩, 9) := cutT_no hm (by rw [hn]; exact hin)
      rw [hv] at e1
      cases e1
      obtain rfl : n = n' := by rw [← Hn.out, ← hn']
      subst he
      clear hm hv hn' hn ha
      rcases hin with hin | hin
      · have g1 : decide (i < 0) = true := decide_eq_true hin
        go_enter Try.func40, Try.ntmps40
        go_wp2_with (go_at_call 49; refine (rtmay_s c ls m n HF.out Hn.out true Hm.out A k _ (Ha.out.keep H0.out)).mono ?_; rintro e w1 ⟨rfl, hs⟩; have H1 := Lib.hid (Stp.trans H0.out hs); have B0' := Lib.hid (B0.out.keep hs B0.out.lt); have B1' := Lib.hid (B1.out.keep hs B1.out.lt); clear hs q0 q1 q2; obtain ⟨⟨q0, q1, q2⟩, -, -, -⟩ := tt_all B0'.out; obtain ⟨⟨r0, r1, r2⟩, s0, s1, s2⟩ := tt_all B1'.out)
        have hf := fillt_blk c A n k m B1'.out
        have hst := fillt_stp c A n k m H1.out (g := w.heap.size + 1) (by omega)
        change bodyPost _ _ _ _ _ (fillT w1 (w.heap.size + 1) c A n k m)
        generalize fillT w1 (w.heap.size + 1) c A n k m = W at hf hst ⊢
        clear q0 q1 q2 r0 r1 r2 s0 s1 s2
        obtain ⟨⟨q0, q1, q2⟩, -, -, -⟩ := tt_all hf
        refine bodyPost_ret (v := .tuple #[tc c A n k m, .int .i64 9]) (by simp [results, Try.results40, go_sem, *]) rfl ⟨_, _, rfl, (Ha.out.keep hst), hst, fun g _ hc => hc.keep hst⟩
      · have g1 : decide (i < 0) = false := decide_eq_false (by omega)
        have g2 : decide ((n : Int) < i) = true := decide_eq_true hin
        go_enter Try.func40, Try.ntmps40
        go_wp2_with (go_at_call 49; refine (rtmay_s c ls m n HF.out Hn.out true Hm.out A k _ (Ha.out.keep H0.out)).mono ?_; rintro e w1 ⟨rfl, hs⟩; have H1 := Lib.hid (Stp.trans H0.out hs); have B0' := Lib.hid (B0.out.keep hs B0.out.lt); have B1' := Lib.hid (B1.out.keep hs B1.out.lt); clear hs q0 q1 q2; obtain ⟨⟨q0, q1, q2⟩, -, -, -⟩ := tt_all B0'.out; obtain ⟨⟨r0, r1, r2⟩, s0, s1, s2⟩ := tt_all B1'.out)
        have hf := fillt_blk c A n k m B1'.out
        have hst := fillt_stp c A n k m H1.out (g := w.heap.size + 1) (by omega)
        change bodyPost _ _ _ _ _ (fillT w1 (w.heap.size + 1) c A n k m)
        generalize fillT w1 (w.heap.size + 1) c A n k m = W at hf hst ⊢
        clear q0 q1 q2 r0 r1 r2 s0 s1 s2
        obtain ⟨⟨q0, q1, q2⟩, -, -, -⟩ := tt_all hf
        refine bodyPost_ret (v := .tuple #[tc c A n k m, .int .i64 9]) (by simp [results, Try.results40, go_sem, *]) rfl ⟨_, _, rfl, (Ha.out.keep hst), hst, fun g _ hc => hc.keep hst⟩
    · obtain ⟨j, hj⟩ : ∃ j : Nat, i = (j : Int) := ⟨i.toNat, by omega⟩
      have hjn : j ≤ n := by omega
      have e1 : cutT ⟨c, ls, m⟩ i = (⟨c, ls.take j, false⟩, 0) := by
        rw [cutT_yes hm (by omega) (by dsimp only; omega), hj, Int.toNat_natCast]
      rw [hv] at e1
      cases e1
      have Hn2 : Hid ((ls.take j).length = j) := Lib.hid (by rw [List.length_take]; omega)
      obtain rfl : j = n' := by rw [← hn', Hn2.out]
      subst he
      have hnk := RdL.length_le Ha.out
      rw [hn] at hnk
      obtain ⟨A2, hsl, hrd⟩ := slice_to_any A n k j (by omega)
      have Ha2 := Lib.hid (hrd w ls Ha.out)
      have Hrd := Lib.hid hrd
      have g1 : decide (i < 0) = false := decide_eq_false (by omega)
      have g2 : decide ((n : Int) < i) = false := decide_eq_false (by omega)
      rw [← hj] at hsl
      have hi2 : 0 ≤ i := by omega
      clear hm hv hn' hn hin hrd hjn hnk hj ha
      go_enter Try.func40, Try.ntmps40
      go_wp2_with (go_at_call 49; refine (rtmay_s c ls m n HF.out Hn.out true Hm.out A k _ (Ha.out.keep H0.out)).mono ?_; rintro e w1 ⟨rfl, hs⟩; have H1 := Lib.hid (Stp.trans H0.out hs); have B0' := Lib.hid (B0.out.keep hs B0.out.lt); have B1' := Lib.hid (B1.out.keep hs B1.out.lt); clear hs q0 q1 q2; obtain ⟨⟨q0, q1, q2⟩, -, -, -⟩ := tt_all B0'.out; obtain ⟨⟨r0, r1, r2⟩, s0, s1, s2⟩ := tt_all B1'.out)
      go_region
      all_goals go_wp2
      have hf := fillt_blk c A2 j k false B1'.out
      have hst0 := fillt_stp c A2 j k false H1.out (g := w.heap.size + 1) (by omega)
      change bodyPost _ _ _ _ _ (fillT w1 (w.heap.size + 1) c A2 j k false).drew
      generalize fillT w1 (w.heap.size + 1) c A2 j k false = W at hf hst0 ⊢
      clear q0 q1 q2 r0 r1 r2 s0 s1 s2
      have hst : Stp w W.drew := Stp.drewN hst0 1
      obtain ⟨⟨q0, q1, q2⟩, -, -, -⟩ := tt_all (Blk.drew hf)
      refine bodyPost_ret (v := .tuple #[tc c A2 j k false, .int .i64 0]) (by simp [results, Try.results40, go_sem, *]) rfl ⟨_, _, rfl, (Ha2.out.keep hst), hst, fun g _ hc => Clear.keep (fun w2 h2 => Hrd.out w2 ls (hc w2 h2)) hst⟩
set_option maxRecDepth 100000 in
set_option maxHeartbeats 2000000 in
theorem rtread_s (c : Int) (ls : List L) (m : Bool) (n : Nat) (hf : FewT ⟨c, ls, m⟩) (hn : ls.length = n) (i : Int) (hi0 : -9223372036854775808 ≤ i) (hi1 : i < 9223372036854775808)
    (r : L) (l e0 : Nat) (hv : readV ⟨c, ls, m⟩ i = (r, e0)) (hl : r.length = l) (ei : Int) (he : (e0 : Int) = ei) (A : Option Addr) (k : Nat) (w : World) (ha : RdL w A k ls) :
    Calls Try.prog 47 #[tc c A n k m, .int .i64 i] w fun e w' => ∃ B d, e = .returned (.tuple #[.slice B l d, .int .i64 ei]) ∧ RdA w' B d (bs r) ∧ Stp w w' := by
  have HF := Lib.hid hf
  have Hn := Lib.hid hn
  have Ha := Lib.hid ha
  have H0 := Lib.hid (Stp.alloc (Stp.refl w) (.cells (tcs c A n k m) 41))
  have B0 := Lib.hid (Blk.new w 41 (tcs c A n k m))
  obtain ⟨⟨q0, q1, q2⟩, -, -, -⟩ := tt_all B0.out
  clear hf ha
  have key : (mayT ⟨c, ls, m⟩ = false ∧ r = [] ∧ e0 = 1) ∨ (mayT ⟨c, ls, m⟩ = true ∧ i < 0 ∧ r = [] ∧ e0 = 9) ∨ (mayT ⟨c, ls, m⟩ = true ∧ 0 ≤ i ∧ (n : Int) ≤ i ∧ r = [] ∧ e0 = 8) ∨ (mayT ⟨c, ls, m⟩ = true ∧ 0 ≤ i ∧ i < (n : Int) ∧ ls[i.toNat]? = some r ∧ e0 = 0) := by
    cases hm : mayT ⟨c, ls, m⟩
    · rw [readV, hm, if_pos rfl] at hv
      cases hv
      exact .inl ⟨rfl, rfl, rfl⟩
    · by_cases h1 : i < 0
      · rw [readV_no hm h1] at hv
        cases hv
        exact .inr (.inl ⟨rfl, h1, rfl, rfl⟩)
      · by_cases h2 : (n : Int) ≤ i
        · rw [readV_end hm (by omega) (by dsimp only; rw [hn]; exact h2)] at hv
          cases hv
          exact .inr (.inr (.inl ⟨rfl, by omega, h2, rfl, rfl⟩))
        · rw [readV_yes hm (by omega) (by dsimp only; rw [hn]; omega)] at hv
          cases hv
          refine .inr (.inr (.inr ⟨rfl, by omega, by omega, ?_, rfl⟩))
          dsimp only
          rw [List.getD_eq_getElem?_getD, List.getElem?_eq_getElem (by omega)]
          rfl
  clear hv hn
  rcases key with ⟨hm, rfl, rfl⟩ | ⟨hm, h1, rfl, rfl⟩ | ⟨hm, h1, h2, rfl, rfl⟩ | ⟨hm, h1, h2, h3, rfl⟩
  · have Hm := Lib.hid hm
    subst hl he
    clear hm
    go_enter Try.func47, Try.ntmps47
    go_wp2_with (go_at_call 49; refine (rtmay_s c ls m n HF.out Hn.out false Hm.out A k _ (Ha.out.keep H0.out)).mono ?_; rintro e w1 ⟨rfl, hs⟩; have H1 := Lib.hid (Stp.trans H0.out hs); have B0' := Lib.hid (B0.out.keep hs B0.out.lt); clear q0 q1 q2; obtain ⟨⟨q0, q1, q2⟩, -, -, -⟩ := tt_all B0'.out; clear hs)
    go_ret2
    exact ⟨_, _, rfl, RdA.nil _, H1.out⟩
  · have Hm := Lib.hid hm
    subst hl he
    have g1 : decide (i < 0) = true := decide_eq_true h1
    clear hm h1
    go_enter Try.func47, Try.ntmps47
    go_wp2_with (go_at_call 49; refine (rtmay_s c ls m n HF.out Hn.out true Hm.out A k _ (Ha.out.keep H0.out)).mono ?_; rintro e w1 ⟨rfl, hs⟩; have H1 := Lib.hid (Stp.trans H0.out hs); have B0' := Lib.hid (B0.out.keep hs B0.out.lt); clear q0 q1 q2; obtain ⟨⟨q0, q1, q2⟩, -, -, -⟩ := tt_all B0'.out; clear hs)
    go_ret2
    exact ⟨_, _, rfl, RdA.nil _, H1.out⟩
  · have Hm := Lib.hid hm
    subst hl he
    have g1 : decide (i < 0) = false := decide_eq_false (by omega)
    have g2 : decide ((n : Int) ≤ i) = true := decide_eq_true h2
    clear hm h1 h2
    go_enter Try.func47, Try.ntmps47
    go_wp2_with (go_at_call 49; refine (rtmay_s c ls m n HF.out Hn.out true Hm.out A k _ (Ha.out.keep H0.out)).mono ?_; rintro e w1 ⟨rfl, hs⟩; have H1 := Lib.hid (Stp.trans H0.out hs); have B0' := Lib.hid (B0.out.keep hs B0.out.lt); clear q0 q1 q2; obtain ⟨⟨q0, q1, q2⟩, -, -, -⟩ := tt_all B0'.out; clear hs)
    go_ret2
    exact ⟨_, _, rfl, RdA.nil _, H1.out⟩
  · have Hm := Lib.hid hm
    subst he
    have g1 : decide (i < 0) = false := decide_eq_false (by omega)
    have g2 : decide ((n : Int) ≤ i) = false := decide_eq_false (by omega)
    have H3 := Lib.hid h3
    have Hl := Lib.hid hl
    obtain ⟨b, o, A1, c1, rfl, -, -⟩ := Ha.out.at_ h3
    clear hm h3 hl
    go_enter Try.func47, Try.ntmps47
    go_wp2_with (go_at_call 49; refine (rtmay_s c ls m n HF.out Hn.out true Hm.out _ k _ (Ha.out.keep H0.out)).mono ?_; rintro e w1 ⟨rfl, hs⟩; have H1 := Lib.hid (Stp.trans H0.out hs); have B0' := Lib.hid (B0.out.keep hs B0.out.lt); clear q0 q1 q2; obtain ⟨⟨q0, q1, q2⟩, -, -, -⟩ := tt_all B0'.out; obtain ⟨b2, o2, A2, c2, e2, ca, ra⟩ := (Ha.out.keep H1.out).at_ H3.out; cases e2; rw [Hl.out] at ca; have Ra := Lib.hid ra; clear ra hs)
    go_ret2
    exact ⟨_, _, rfl, Ra.out, H1.out⟩
theorem rows_past {w w' : World} {lo g : Nat} {v : Value} {ls : List L} {c : Int} {A : Option Addr} {n k : Nat} {m : Bool} (h : Base.Rows w lo 25 v ls) (hb : Blk w g 41 (tcs c A n k m)) (hg : g < lo) (hw : w.grownBy w' (some g)) : Base.Rows w' lo 25 v ls := by
  obtain ⟨us, h1, h2, h3, h4⟩ := h
  have hne : v.ownBlock ≠ some g := fun e => by have := (h1.lt g e).1; omega
  refine ⟨us, h1.grown hw (.inr hne), h2.grown h1 hw (.inr hne), h3, fun j l hj => ?_⟩
  obtain ⟨u, hu, B, d, rfl, hc, hr⟩ := h4 j l hj
  refine ⟨_, hu, B, d, rfl, hc, fun hn => ?_⟩
  obtain ⟨b, o, rfl, hB, hcell⟩ := hr hn
  have hbg : b ≠ g := by
    rintro rfl
    have hlen : 0 < (bs l).length := List.length_pos_iff.2 hn
    obtain ⟨x, hx⟩ : ∃ x, (bs l)[0]? = some x := ⟨_, List.getElem?_eq_getElem hlen⟩
    have h5 := hcell 0 x hx
    have hm := List.mem_of_getElem? hx
    simp only [bs, List.mem_map] at hm
    obtain ⟨y, -, rfl⟩ := hm
    rw [Nat.add_zero, hb.cell] at h5
    rcases o with _ | _ | _ | o
    · simp at h5
    · simp at h5
    · simp at h5
    · simp at h5
  refine ⟨b, o, rfl, Nat.lt_of_lt_of_le hB hw.size, fun j x hj => ?_⟩
  rw [← hcell j x hj]
  simp only [World.cell?, hw.block b hB (by simpa using hbg)]
theorem rd_rows {w : World} {lo n k : Nat} {A : Option Addr} {ls : List L} (h : Base.Rows w lo 25 (.slice A n k) ls) (hn : ls.length = n) : RdL w A k ls := by
  obtain ⟨A', k', e, hr⟩ := rows_n h hn
  cases e
  exact hr
theorem step_app_bytes {w : World} {ops : Array Oper} {o : Oper} {a : Act} {K : Act → World → Prop} {Q : Exit → Act → World → Prop} {E : Prop} (hgd : o.guard = none) (s x : Operand)
    (ho : o.op = .call { callee := .builtin .append, args := #[s, x], argTypes := #[25, 25] })
    (hs : a.eval s = .slice none 0 0) {A : Option Addr} {n c : Nat} {r : L} (hx : a.eval x = .slice A n c) (hr : RdA w A c (bs r)) (hn : r.length = n) (hl : n ≤ 100000)
    (hK : ∀ v' w', FrB w' (From w.heap.size) v' r → w.grownBy w' none → K (a.put o.dst v') w') :
    if Region.wanted o (yielded ops a.tmps) = true then Oper.wp Try.prog o a w K Q else E := by
  subst hn
  obtain ⟨i, hi', hz, hsz, hby⟩ := info_parts byte_info3
  have hr2 : Rd w w.heap.size (.slice A r.length c) (bs r) := by
    have := hr
    unfold RdA at this
    rwa [bs_length] at this
  obtain ⟨v', w', hrun, h2, h3, h4⟩ := run_append_rd (P := Try.prog) w w.heap.size 25 o.type 5 i _ 1 Try.underlying25 hi' hz hsz hby rfl _ _ (Base.Own.nil w w.heap.size 5) w.heap.size (.slice A r.length c) (bs r) hr2 (bs_one r) (by simp only [List.length_nil, bs_length]; unfold maxLen; omega) (by simp only [List.length_nil, bs_length]; omega) (Nat.le_refl _)
  rw [if_pos (by simp [Region.wanted, hgd])]
  unfold Oper.wp execOp
  simp only [ho, resolve, invoke, builtin, Sem.run_bind, Sem.run_pure, Result.andThen_ok, List.map_toArray, List.map_cons, List.map_nil, hs, hx, hrun]
  rw [List.nil_append] at h2
  exact hK v' w' (FrB.of_own h2) (by simpa [Value.ownBlock] using h3)
theorem lit_rows {w : World} {u : Value} {r : L} {S : Nat → Prop} (hu : FrB w S u r) : ∃ B d, u = .slice B r.length d ∧ RdL (w.alloc (.cells #[u] 25)) (some ⟨w.heap.size, 0, none⟩) 1 [r] := by
  obtain ⟨B, d, rfl, hr⟩ := hu.form
  exact ⟨B, d, rfl, rdL_lit (Blk.new w _ _) (hr.keep (Stp.alloc (Stp.refl w) _)) rfl⟩
set_option maxRecDepth 100000 in
set_option maxHeartbeats 2000000 in
theorem rtwrite_s (c : Int) (ls : List L) (m : Bool) (n : Nat) (hf : FewT ⟨c, ls, m⟩) (hn : ls.length = n) (r : L) (l : Nat) (hl : r.length = l) (hl2 : l ≤ 100000)
    (c' : Int) (ls' : List L) (m' : Bool) (n' e0 : Nat) (hv : writeV ⟨c, ls, m⟩ r = (⟨c', ls', m'⟩, e0)) (hn' : ls'.length = n') (ei : Int) (he : (e0 : Int) = ei) (A : Option Addr) (k : Nat) (w : World) (ha : RdL w A k ls) (B : Option Addr) (d : Nat) (hr : RdA w B d (bs r)) :
    Calls Try.prog 41 #[tc c A n k m, .slice B l d] w fun e w' => ∃ A' k', e = .returned (.tuple #[tc c' A' n' k' m', .int .i64 ei]) ∧ RdL w' A' k' ls' ∧ Stp w w' := by
  have HF := Lib.hid hf
  have Hn := Lib.hid hn
  have Ha := Lib.hid ha
  obtain ⟨b0, b1, hst0, hsz0⟩ := two_blks w c A n k m
  obtain ⟨⟨q0, q1, q2⟩, -, -, -⟩ := tt_all b0
  have B0 := Lib.hid b0
  have B1 := Lib.hid b1
  have H0 := Lib.hid hst0
  clear hf b0 b1 hst0 hsz0
  have Hr := Lib.hid hr
  have Hl := Lib.hid hl
  obtain ⟨bm, hm⟩ : ∃ x, mayT ⟨c, ls, m⟩ = x := ⟨_, rfl⟩
  obtain ⟨br, hmr⟩ : ∃ x, mayR r = x := ⟨_, rfl⟩
  have Hm := Lib.hid hm
  have Hmr := Lib.hid hmr
  by_cases h1 : (bm && br) = false
  · rw [writeV, hm, hmr, if_pos h1] at hv
    cases hv
    obtain rfl : n = n' := by rw [← Hn.out, ← hn']
    subst he
    clear hn' hn ha hr
    clear hm hmr hl
    cases bm <;> cases br
    case true.true => cases h1
    all_goals
      go_enter Try.func41, Try.ntmps41
      go_wp2_with (first
        | (go_at_call 49; refine (rtmay_s c ls m n HF.out Hn.out _ Hm.out A k _ (Ha.out.keep H0.out)).mono ?_; rintro e w1 ⟨rfl, hs⟩; have H1 := Lib.hid (Stp.trans H0.out hs); have B0' := Lib.hid (B0.out.keep hs B0.out.lt); have B1' := Lib.hid (B1.out.keep hs B1.out.lt); clear hs q0 q1 q2; obtain ⟨⟨q0, q1, q2⟩, -, -, -⟩ := tt_all B0'.out; obtain ⟨⟨r0, r1, r2⟩, s0, s1, s2⟩ := tt_all B1'.out)
        | (go_at_call 59; refine (rrmay_n r l Hl.out _ _ _ (by omega) _ Hmr.out).mono ?_; rintro e w2 ⟨rfl, hs⟩; replace H1 := Lib.hid (Stp.trans H1.out hs); replace B0' := Lib.hid (B0'.out.keep hs B0'.out.lt); replace B1' := Lib.hid (B1'.out.keep hs B1'.out.lt); clear hs q0 q1 q2 r0 r1 r2 s0 s1 s2; obtain ⟨⟨q0, q1, q2⟩, -, -, -⟩ := tt_all B0'.out; obtain ⟨⟨r0, r1, r2⟩, s0, s1, s2⟩ := tt_all B1'.out))
      have hf := fillt_blk c A n k m B1'.out
      have hst := fillt_stp c A n k m H1.out (g := w.heap.size + 1) (by omega)
      change bodyPost _ _ _ _ _ (fillT w2 (w.heap.size + 1) c A n k m)
      generalize fillT w2 (w.heap.size + 1) c A n k m = W at hf hst ⊢
      clear q0 q1 q2 r0 r1 r2 s0 s1 s2
      obtain ⟨⟨q0, q1, q2⟩, -, -, -⟩ := tt_all hf
      refine bodyPost_ret (v := .tuple #[tc c A n k m, .int .i64 1]) (by simp [results, Try.results41, go_sem, *]) rfl ⟨_, _, rfl, (Ha.out.keep hst), hst⟩
  · obtain ⟨rfl, rfl⟩ : bm = true ∧ br = true := by simpa using h1
    by_cases h2 : m = true ∨ c ≤ (n : Int)
    · rw [writeV, hm, hmr, if_neg h1, if_pos (by dsimp only; rw [hn]; exact h2)] at hv
      cases hv
      obtain rfl : n = n' := by rw [← Hn.out, ← hn']
      subst he
      clear hn' hn ha hr hm hmr h1 hl
      cases m
      · have g1 : decide (c ≤ (n : Int)) = true := decide_eq_true (by simpa using h2)
        go_enter Try.func41, Try.ntmps41
        go_wp2_with (first
          | (go_at_call 49; refine (rtmay_s c ls false n HF.out Hn.out true Hm.out A k _ (Ha.out.keep H0.out)).mono ?_; rintro e w1 ⟨rfl, hs⟩; have H1 := Lib.hid (Stp.trans H0.out hs); have B0' := Lib.hid (B0.out.keep hs B0.out.lt); have B1' := Lib.hid (B1.out.keep hs B1.out.lt); clear hs q0 q1 q2; obtain ⟨⟨q0, q1, q2⟩, -, -, -⟩ := tt_all B0'.out; obtain ⟨⟨r0, r1, r2⟩, s0, s1, s2⟩ := tt_all B1'.out)
          | (go_at_call 59; refine (rrmay_n r l Hl.out _ _ _ (by omega) true Hmr.out).mono ?_; rintro e w2 ⟨rfl, hs⟩; replace H1 := Lib.hid (Stp.trans H1.out hs); replace B0' := Lib.hid (B0'.out.keep hs B0'.out.lt); replace B1' := Lib.hid (B1'.out.keep hs B1'.out.lt); clear hs q0 q1 q2 r0 r1 r2 s0 s1 s2; obtain ⟨⟨q0, q1, q2⟩, -, -, -⟩ := tt_all B0'.out; obtain ⟨⟨r0, r1, r2⟩, s0, s1, s2⟩ := tt_all B1'.out))
        have hf := fillt_blk c A n k false B1'.out
        have hst := fillt_stp c A n k false H1.out (g := w.heap.size + 1) (by omega)
        change bodyPost _ _ _ _ _ (fillT w2 (w.heap.size + 1) c A n k false)
        generalize fillT w2 (w.heap.size + 1) c A n k false = W at hf hst ⊢
        clear q0 q1 q2 r0 r1 r2 s0 s1 s2
        obtain ⟨⟨q0, q1, q2⟩, -, -, -⟩ := tt_all hf
        refine bodyPost_ret (v := .tuple #[tc c A n k false, .int .i64 8]) (by simp [results, Try.results41, go_sem, *]) rfl ⟨_, _, rfl, (Ha.out.keep hst), hst⟩
      · clear h2
        go_enter Try.func41, Try.ntmps41
        go_wp2_with (first
          | (go_at_call 49; refine (rtmay_s c ls true n HF.out Hn.out true Hm.out A k _ (Ha.out.keep H0.out)).mono ?_; rintro e w1 ⟨rfl, hs⟩; have H1 := Lib.hid (Stp.trans H0.out hs); have B0' := Lib.hid (B0.out.keep hs B0.out.lt); have B1' := Lib.hid (B1.out.keep hs B1.out.lt); clear hs q0 q1 q2; obtain ⟨⟨q0, q1, q2⟩, -, -, -⟩ := tt_all B0'.out; obtain ⟨⟨r0, r1, r2⟩, s0, s1, s2⟩ := tt_all B1'.out)
          | (go_at_call 59; refine (rrmay_n r l Hl.out _ _ _ (by omega) true Hmr.out).mono ?_; rintro e w2 ⟨rfl, hs⟩; replace H1 := Lib.hid (Stp.trans H1.out hs); replace B0' := Lib.hid (B0'.out.keep hs B0'.out.lt); replace B1' := Lib.hid (B1'.out.keep hs B1'.out.lt); clear hs q0 q1 q2 r0 r1 r2 s0 s1 s2; obtain ⟨⟨q0, q1, q2⟩, -, -, -⟩ := tt_all B0'.out; obtain ⟨⟨r0, r1, r2⟩, s0, s1, s2⟩ := tt_all B1'.out))
        have hf := fillt_blk c A n k true B1'.out
        have hst := fillt_stp c A n k true H1.out (g := w.heap.size + 1) (by omega)
        change bodyPost _ _ _ _ _ (fillT w2 (w.heap.size + 1) c A n k true)
        generalize fillT w2 (w.heap.size + 1) c A n k true = W at hf hst ⊢
        clear q0 q1 q2 r0 r1 r2 s0 s1 s2
        obtain ⟨⟨q0, q1, q2⟩, -, -, -⟩ := tt_all hf
        refine bodyPost_ret (v := .tuple #[tc c A n k true, .int .i64 8]) (by simp [results, Try.results41, go_sem, *]) rfl ⟨_, _, rfl, (Ha.out.keep hst), hst⟩
    · have hm0 : m = false := by
        cases m
        · rfl
        · exact absurd (.inl rfl) h2
      subst hm0
      have hcn : ¬ c ≤ (n : Int) := fun h => h2 (.inr h)
      have hv2 := writeV_yes hm hmr rfl (by dsimp only; rw [hn]; omega)
      rw [hv] at hv2
      cases hv2
      have g1 : decide (c ≤ (n : Int)) = false := decide_eq_false hcn
      have Hn1 : Hid ((ls ++ [r]).length = n') := Lib.hid hn'
      have hnn : n' = n + 1 := by rw [← hn', List.length_append, hn]; rfl
      have hf3 := HF.out.few
      dsimp only at hf3
      have Hq1 : Hid (([] : List L).length + ls.length ≤ 1000000000) := Lib.hid (by simp only [List.length_nil]; omega)
      have Hq2 : Hid (ls.length + [r].length ≤ 1000000000) := Lib.hid (by simp only [List.length_singleton]; omega)
      subst he
      clear hn' hn ha hr hm hmr h1 h2 hl hcn hnn hf3
      go_enter Try.func41, Try.ntmps41
      go_wp2_with (first
        | (go_at_call 49; refine (rtmay_s c ls false n HF.out Hn.out true Hm.out A k _ (Ha.out.keep H0.out)).mono ?_; rintro e w1 ⟨rfl, hs⟩; have H1 := Lib.hid (Stp.trans H0.out hs); have B0' := Lib.hid (B0.out.keep hs B0.out.lt); have B1' := Lib.hid (B1.out.keep hs B1.out.lt); clear hs q0 q1 q2; obtain ⟨⟨q0, q1, q2⟩, -, -, -⟩ := tt_all B0'.out; obtain ⟨⟨r0, r1, r2⟩, s0, s1, s2⟩ := tt_all B1'.out)
        | (go_at_call 59; refine (rrmay_n r l Hl.out _ _ _ (by omega) true Hmr.out).mono ?_; rintro e w2 ⟨rfl, hs⟩; replace H1 := Lib.hid (Stp.trans H1.out hs); replace B0' := Lib.hid (B0'.out.keep hs B0'.out.lt); replace B1' := Lib.hid (B1'.out.keep hs B1'.out.lt); clear hs q0 q1 q2 r0 r1 r2 s0 s1 s2; obtain ⟨⟨q0, q1, q2⟩, -, -, -⟩ := tt_all B0'.out; obtain ⟨⟨r0, r1, r2⟩, s0, s1, s2⟩ := tt_all B1'.out)
        | (at_builtin; refine Base.wpList_append_rows (P := Try.prog) rfl (.const (.slice none 0 0)) (.tmp 32) 39 rfl 25 Try.underlying39 (by kernel_rfl) _ rfl (Base.Rows.nil w2 w2.heap.size 25) rfl (Ha.out.keep H1.out) Hn.out Hq1.out (Nat.le_refl _) ?_; intro v3 w3 hR hg; have hs := (Base.Rows.nil w2 w2.heap.size 25).stp (Stp.refl w2) (Nat.le_refl _) hg; have HR : Hid (Base.Rows w3 w2.heap.size 25 v3 ls) := Lib.hid hR; have H23 := Lib.hid hs; have B0'' := Lib.hid (B0'.out.keep hs B0'.out.lt); have B1'' := Lib.hid (B1'.out.keep hs B1'.out.lt); clear hR hg hs q0 q1 q2 r0 r1 r2 s0 s1 s2; obtain ⟨⟨q0, q1, q2⟩, -, -, -⟩ := tt_all (Blk.drew B0''.out)))
      have K := Lib.hid (show Stp w2 w3.drew from Stp.trans H23.out (Stp.drewN (Stp.refl w3) 1))
      have HRd := Lib.hid (HR.out.keep (show Stp w3 w3.drew from Stp.drewN (Stp.refl w3) 1))
      have Hrd := Lib.hid (Hr.out.keep (Stp.trans H1.out K.out))
      go_region_law (first
        | (refine step_app_bytes (w := w3.drew) rfl _ _ rfl rfl rfl Hrd.out Hl.out hl2 ?_; intro v4 w4 hu hg; have hs4 := fresh_stp hg; have K4 := Lib.hid (Stp.trans K.out hs4); have HU := Lib.hid hu; have HR4 := Lib.hid (HRd.out.keep hs4); obtain ⟨Bu, du, hue, hrl⟩ := lit_rows hu; subst hue; have HL := Lib.hid hrl; clear q0 q1 q2; obtain ⟨⟨q0, q1, q2⟩, -, -, -⟩ := tt_all (B0'.out.keep K4.out B0'.out.lt); obtain ⟨⟨r0, r1, r2⟩, -, -, -⟩ := tt_all ((B0'.out.keep K4.out B0'.out.lt).alloc (.cells #[.slice Bu r.length du] 25)); clear hu hg hs4 hrl)
        | (refine step_app_rows (w := w4.alloc (.cells #[.slice Bu r.length du] 25)) (lo := w2.heap.size) rfl _ _ rfl rfl (HR4.out.keep (Stp.alloc (Stp.refl w4) _)) rfl HL.out rfl Hq2.out (Stp.alloc K4.out (.cells #[.slice Bu r.length du] 25)).size ?_; intro v5 w5 hR hg; have hs5 := (HR4.out.keep (Stp.alloc (Stp.refl w4) (.cells #[.slice Bu r.length du] 25))).stp (Stp.alloc K4.out (.cells #[.slice Bu r.length du] 25)) (Nat.le_refl _) hg; have K5 := Lib.hid hs5; obtain ⟨A5, k5, hv5, hr5⟩ := rows_n hR Hn1.out; subst hv5; have HR5 := Lib.hid hR; clear hR hg hs5 hr5 q0 q1 q2 r0 r1 r2; obtain ⟨⟨q0, q1, q2⟩, -, -, -⟩ := tt_all (B0'.out.keep K5.out B0'.out.lt); obtain ⟨⟨r0, r1, r2⟩, s0, s1, s2⟩ := tt_all (B1'.out.keep K5.out B1'.out.lt)))
      all_goals go_wp2_with fail
      all_goals
        have hf := fillt_blk c A5 n' k5 false (B1'.out.keep K5.out B1'.out.lt)
        have hgl : w.heap.size + 1 < w2.heap.size := B1'.out.lt
        have hrd5 := (rd_rows (rows_past HR5.out (B1'.out.keep K5.out B1'.out.lt) hgl (fillt_grown w5 (w.heap.size + 1) c A5 n' k5 false)) Hn1.out)
        have hst := fillt_stp c A5 n' k5 false (Stp.trans H1.out K5.out) (g := w.heap.size + 1) (by omega)
        change bodyPost _ _ _ _ _ (fillT w5 (w.heap.size + 1) c A5 n' k5 false)
        generalize fillT w5 (w.heap.size + 1) c A5 n' k5 false = W at hf hst hrd5 ⊢
        clear q0 q1 q2 r0 r1 r2 s0 s1 s2
        obtain ⟨⟨q0, q1, q2⟩, -, -, -⟩ := tt_all hf
        refine bodyPost_ret (v := .tuple #[tc c A5 n' k5 false, .int .i64 0]) (by simp [results, Try.results41, go_sem, *]) rfl ⟨_, _, rfl, hrd5, hst⟩
end Go.Proofs.Ytaknnkcfoafkdaa.Tape
