/-
  Package tape's other exported calls: their contracts, and all of them together; no statement is proved here.
-/
import Derived.Test.YtaknnkcfoafkdaaTapeN
import Derived.Test.YtaknnkcfoafkdaaBlockK
import Derived.Test.YtaknnkcfoafkdaaEntrySl
namespace Go.Proofs.Ytaknnkcfoafkdaa.Tape
open Go.RowKit Go.Proofs.Ytaknnkcfoafkdaa.Str Go.Proofs.Ytaknnkcfoafkdaa.Base Go.Proofs.Ytaknnkcfoafkdaa.BlockM Go.Proofs.Ytaknnkcfoafkdaa.RecM Go.Proofs.Ytaknnkcfoafkdaa.TapeM

theorem rdL_some {w : World} {A : Option Addr} {c : Nat} {ls : List L} (h : RdL w A c ls) : ls = [] ∨ ∃ b o, A = some ⟨b, o, none⟩ := by
  cases ls with
  | nil => exact .inl rfl
  | cons a l =>
    obtain ⟨b, o, A1, c1, e, -⟩ := h.at_ (j := 0) (l := a) rfl
    exact .inr ⟨b, o, e⟩
theorem slice_to_any (A : Option Addr) (N c k : Nat) (hk : k ≤ c) : ∃ A', (∀ w : World, (Instr.slice 39 (.slice A N c) none (some (.int .i64 (k : Int))) none).run Try.prog w = .ok (.slice A' k c) w) ∧
    ∀ (w : World) (ls : List L), RdL w A c ls → RdL w A' c (ls.take k) := by
  have he : Try.prog.elem 39 = 25 := by kernel_rfl
  have hrun : ∀ w : World, (Instr.slice 39 (.slice A N c) none (some (.int .i64 (k : Int))) none).run Try.prog w = .ok (.slice (if c = 0 then A else A.map (·.add (0 * 1))) k c) w := fun w => by
    rw [run_slice_h (P := Try.prog) w 39 _ _ _ (by rw [he]; exact Try.underlying39) .i64 k (by omega) (by omega), he, Entry.sl_size]
    simp only [Result.andThen_ok, sliced, Int.toNat_natCast, Nat.sub_zero]
  refine ⟨_, hrun, fun w ls h => ?_⟩
  rcases rdL_some h with rfl | ⟨b, o, rfl⟩
  · rw [List.take_nil]
    exact Entry.rdL_none _ _ _
  · have e : (if c = 0 then (some (⟨b, o, none⟩ : Addr)) else (some (⟨b, o, none⟩ : Addr)).map (·.add (0 * 1))) = some ⟨b, o, none⟩ := by
      split
      · rfl
      · simp only [Option.map_some, Addr.add_lit, Nat.zero_mul, Nat.add_zero]
    rw [e]
    exact Entry.rdL_take h k
theorem slice_from_any (A : Option Addr) (N c k : Nat) (hk : k ≤ N) (hN : N ≤ c) : ∃ A', (∀ w : World, (Instr.slice 39 (.slice A N c) (some (.int .i64 (k : Int))) none none).run Try.prog w = .ok (.slice A' (N - k) (c - k)) w) ∧
    ∀ (w : World) (ls : List L), ls.length = N → RdL w A c ls → RdL w A' (c - k) (ls.drop k) := by
  have he : Try.prog.elem 39 = 25 := by kernel_rfl
  by_cases hA : ∃ b o, A = some ⟨b, o, none⟩
  · obtain ⟨b, o, rfl⟩ := hA
    exact Entry.slice_from b o N c k hk hN
  · have hrun : ∀ w : World, (Instr.slice 39 (.slice A N c) (some (.int .i64 (k : Int))) none none).run Try.prog w = .ok (.slice (if c = k then A else A.map (·.add (k * 1))) (N - k) (c - k)) w := fun w => by
      rw [run_slice_l (P := Try.prog) w 39 _ _ _ (by rw [he]; exact Try.underlying39) .i64 k (by omega) (by omega), he, Entry.sl_size]
      simp only [Result.andThen_ok, sliced, Int.toNat_natCast]
    refine ⟨_, hrun, fun w ls hl h => ?_⟩
    rcases rdL_some h with rfl | h2
    · rw [List.drop_nil]
      exact Entry.rdL_none _ _ _
    · exact absurd h2 hA
theorem own_end {w w0 w1 : World} {A1 : Option Addr} {n k1 : Nat} {ls : List L} (h0 : Stp w w0) (hsz : w.heap.size + 2 ≤ w0.heap.size) (hs : Stp w0 w1) (hR : FRows w1 (From w0.heap.size) (.slice A1 n k1) ls) (hb : Blk w1 (w.heap.size + 1) 41 (tcs 0 none 0 0 false)) (c : Int) (m : Bool) :
    Blk (fillT w1 (w.heap.size + 1) c A1 n k1 m) (w.heap.size + 1) 41 (tcs c A1 n k1 m) ∧ RdL (fillT w1 (w.heap.size + 1) c A1 n k1 m) A1 k1 ls ∧ Stp w (fillT w1 (w.heap.size + 1) c A1 n k1 m) ∧ ∀ g, g < w.heap.size → Clear g (fillT w1 (w.heap.size + 1) c A1 n k1 m) A1 k1 ls := by
  have hR2 := hR.abv (fillt_abv (Abv.refl w1) (g := w.heap.size + 1) (fun (h : w0.heap.size ≤ w.heap.size + 1) => by omega) c A1 n k1 m)
  obtain ⟨x1, x2⟩ := ends (w := w) hR2 (fun b (h : w0.heap.size ≤ b) => by omega)
  exact ⟨fillt_blk c A1 n k1 m hb, x1, fillt_stp c A1 n k1 m (Stp.trans h0 hs) (by omega), x2⟩

set_option maxRecDepth 100000 in
set_option maxHeartbeats 2000000 in
theorem close_s (c : Int) (ls : List L) (m : Bool) (n : Nat) (hf : FewT ⟨c, ls, m⟩) (hn : ls.length = n)
    (c' : Int) (ls' : List L) (m' : Bool) (n' e0 : Nat) (hv : closeV ⟨c, ls, m⟩ = (⟨c', ls', m'⟩, e0)) (hn' : ls'.length = n') (ei : Int) (he : (e0 : Int) = ei) (A : Option Addr) (k : Nat) (w : World) (ha : RdL w A k ls) :
    Calls Try.prog 60 #[tc c A n k m] w fun e w' => ∃ A' k', e = .returned (.tuple #[tc c' A' n' k' m', .int .i64 ei]) ∧ RdL w' A' k' ls' ∧ Stp w w' ∧ ∀ g, g < w.heap.size → Clear g w' A' k' ls' := by
  have HF := Lib.hid hf
  have Hn := Lib.hid hn
  have Ha := Lib.hid ha
  obtain ⟨b0, b1, hst0, hsz0⟩ := two_blks w c A n k m
  obtain ⟨⟨q0, q1, q2⟩, p0, p1, p2⟩ := tt_all b0
  have B0 := Lib.hid b0
  have B1 := Lib.hid b1
  have H0 := Lib.hid hst0
  have S0 := Lib.hid hsz0
  have HF2 : Hid (FewT ⟨c, ls, true⟩) := Lib.hid ⟨hf.low, hf.high, hf.few, hf.each⟩
  clear hf hn ha b0 b1 hst0 hsz0
  cases hm : mayT ⟨c, ls, m⟩
  · have e1 : closeV ⟨c, ls, m⟩ = (⟨c, ls, m⟩, 1) := by rw [closeV, hm]; rfl
    rw [hv] at e1
    cases e1
    obtain rfl : n = n' := by rw [← Hn.out, ← hn']
    subst he
    have Hm := Lib.hid hm
    clear hm hv hn'
    go_enter Try.func60, Try.ntmps60
    go_wp2
    refine wp_scope_ahead 0 rfl ?_
    go_wp2_with (go_at_call 52; refine (tmay_s c ls m n HF.out Hn.out false Hm.out A k _ (Ha.out.keep H0.out)).mono ?_; rintro e w1 ⟨rfl, hs⟩; have H1 := Lib.hid hs; have B0' := Lib.hid (B0.out.keep hs B0.out.lt); have B1' := Lib.hid (B1.out.keep hs B1.out.lt); clear hs q0 q1 q2 p0 p1 p2; obtain ⟨⟨q0, q1, q2⟩, p0, p1, p2⟩ := tt_all B0'.out)
    go_step3
    refine ⟨rfl, ?_⟩
    go_wp2_with (go_at_call 66; refine (own_s c ls m n HF.out Hn.out _ k _ (Ha.out.keep (Stp.trans H0.out H1.out))).mono ?_; rintro e w9 ⟨A9, k9, rfl, hR, hs⟩; have X := Lib.hid (own_end (Stp.trans H0.out H1.out) (Nat.le_trans (Nat.le_of_eq S0.out.symm) H1.out.size) hs hR (B1'.out.keep hs B1'.out.lt) c m); obtain ⟨⟨r0, r1, r2⟩, s0, s1, s2⟩ := tt_all (B1'.out.keep hs B1'.out.lt); clear hR hs q0 q1 q2 p0 p1 p2)
    rw [jump_ret]
    change bodyPost _ _ _ _ _ (fillT w9 (w.heap.size + 1) c A9 n k9 m)
    have hX := X.out
    clear X
    generalize fillT w9 (w.heap.size + 1) c A9 n k9 m = W at hX ⊢
    obtain ⟨x0, x1, x2, x3⟩ := hX
    clear r0 r1 r2 s0 s1 s2
    obtain ⟨⟨q0, q1, q2⟩, -, -, -⟩ := tt_all x0
    refine bodyPost_ret (v := .tuple #[tc c A9 n k9 m, .int .i64 1]) (by simp [results, Try.results60, go_sem, *]) rfl ⟨A9, k9, rfl, x1, x2, x3⟩
  · have Hm := Lib.hid hm
    cases m
    · have e1 : closeV ⟨c, ls, false⟩ = (⟨c, ls, true⟩, 0) := by rw [closeV, hm]; rfl
      rw [hv] at e1
      cases e1
      obtain rfl : n = n' := by rw [← Hn.out, ← hn']
      subst he
      clear hm hv hn'
      go_enter Try.func60, Try.ntmps60
      go_wp2
      refine wp_scope_ahead 0 rfl ?_
      go_wp2_with (go_at_call 52; refine (tmay_s c ls false n HF.out Hn.out true Hm.out A k _ (Ha.out.keep H0.out)).mono ?_; rintro e w1 ⟨rfl, hs⟩; have H1 := Lib.hid hs; have B0' := Lib.hid (B0.out.keep hs B0.out.lt); have B1' := Lib.hid (B1.out.keep hs B1.out.lt); clear hs q0 q1 q2 p0 p1 p2; obtain ⟨⟨q0, q1, q2⟩, p0, p1, p2⟩ := tt_all B0'.out)
      go_step3
      have H2 := Lib.hid (show Stp w (w1.setCell ⟨w.heap.size, 2, none⟩ (.bool true)) from Below.setCell (Stp.trans H0.out H1.out) (p := ⟨w.heap.size, 2, none⟩) (Nat.le_refl _) (.bool true))
      have B2 := Lib.hid (B1'.out.far (p := ⟨w.heap.size, 2, none⟩) (show w.heap.size + 1 ≠ w.heap.size by omega) (.bool true))
      have hsz2 : w.heap.size + 2 ≤ (w1.setCell ⟨w.heap.size, 2, none⟩ (.bool true)).heap.size := Nat.le_trans (Nat.le_trans (Nat.le_of_eq S0.out.symm) H1.out.size) (by simp [World.setCell])
      have Hsz2 := Lib.hid hsz2
      clear hsz2
      go_wp2_with (go_at_call 66; refine (own_s c ls true n HF2.out Hn.out _ k _ (Ha.out.keep H2.out)).mono ?_; rintro e w9 ⟨A9, k9, rfl, hR, hs⟩; have X := Lib.hid (own_end H2.out Hsz2.out hs hR (B2.out.keep hs B2.out.lt) c true); obtain ⟨⟨r0, r1, r2⟩, s0, s1, s2⟩ := tt_all (B2.out.keep hs B2.out.lt); clear hR hs q0 q1 q2 p0 p1 p2)
      rw [jump_ret]
      change bodyPost _ _ _ _ _ (fillT w9 (w.heap.size + 1) c A9 n k9 true)
      have hX := X.out
      clear X
      generalize fillT w9 (w.heap.size + 1) c A9 n k9 true = W at hX ⊢
      obtain ⟨x0, x1, x2, x3⟩ := hX
      clear r0 r1 r2 s0 s1 s2
      obtain ⟨⟨q0, q1, q2⟩, -, -, -⟩ := tt_all x0
      refine bodyPost_ret (v := .tuple #[tc c A9 n k9 true, .int .i64 0]) (by simp [results, Try.results60, go_sem, *]) rfl ⟨A9, k9, rfl, x1, x2, x3⟩
    · have e1 : closeV ⟨c, ls, true⟩ = (⟨c, ls, true⟩, 8) := by rw [closeV, hm]; rfl
      rw [hv] at e1
      cases e1
      obtain rfl : n = n' := by rw [← Hn.out, ← hn']
      subst he
      clear hm hv hn'
      go_enter Try.func60, Try.ntmps60
      go_wp2
      refine wp_scope_ahead 0 rfl ?_
      go_wp2_with (go_at_call 52; refine (tmay_s c ls true n HF.out Hn.out true Hm.out A k _ (Ha.out.keep H0.out)).mono ?_; rintro e w1 ⟨rfl, hs⟩; have H1 := Lib.hid hs; have B0' := Lib.hid (B0.out.keep hs B0.out.lt); have B1' := Lib.hid (B1.out.keep hs B1.out.lt); clear hs q0 q1 q2 p0 p1 p2; obtain ⟨⟨q0, q1, q2⟩, p0, p1, p2⟩ := tt_all B0'.out)
      go_step3
      refine ⟨rfl, ?_⟩
      go_wp2_with (go_at_call 66; refine (own_s c ls true n HF.out Hn.out _ k _ (Ha.out.keep (Stp.trans H0.out H1.out))).mono ?_; rintro e w9 ⟨A9, k9, rfl, hR, hs⟩; have X := Lib.hid (own_end (Stp.trans H0.out H1.out) (Nat.le_trans (Nat.le_of_eq S0.out.symm) H1.out.size) hs hR (B1'.out.keep hs B1'.out.lt) c true); obtain ⟨⟨r0, r1, r2⟩, s0, s1, s2⟩ := tt_all (B1'.out.keep hs B1'.out.lt); clear hR hs q0 q1 q2 p0 p1 p2)
      rw [jump_ret]
      change bodyPost _ _ _ _ _ (fillT w9 (w.heap.size + 1) c A9 n k9 true)
      have hX := X.out
      clear X
      generalize fillT w9 (w.heap.size + 1) c A9 n k9 true = W at hX ⊢
      obtain ⟨x0, x1, x2, x3⟩ := hX
      clear r0 r1 r2 s0 s1 s2
      obtain ⟨⟨q0, q1, q2⟩, -, -, -⟩ := tt_all x0
      refine bodyPost_ret (v := .tuple #[tc c A9 n k9 true, .int .i64 8]) (by simp [results, Try.results60, go_sem, *]) rfl ⟨A9, k9, rfl, x1, x2, x3⟩

set_option maxRecDepth 100000 in
set_option maxHeartbeats 2000000 in
theorem cut_s (c : Int) (ls : List L) (m : Bool) (n : Nat) (hf : FewT ⟨c, ls, m⟩) (hn : ls.length = n) (i : Int) (hi0 : -9223372036854775808 ≤ i) (hi1 : i < 9223372036854775808)
    (c' : Int) (ls' : List L) (m' : Bool) (n' e0 : Nat) (hv : cutT ⟨c, ls, m⟩ i = (⟨c', ls', m'⟩, e0)) (hn' : ls'.length = n') (ei : Int) (he : (e0 : Int) = ei) (A : Option Addr) (k : Nat) (w : World) (ha : RdL w A k ls) :
    Calls Try.prog 68 #[tc c A n k m, .int .i64 i] w fun e w' => ∃ A' k', e = .returned (.tuple #[tc c' A' n' k' m', .int .i64 ei]) ∧ RdL w' A' k' ls' ∧ Stp w w' ∧ ∀ g, g < w.heap.size → Clear g w' A' k' ls' := by
  have HF := Lib.hid hf
  have Hn := Lib.hid hn
  have Ha := Lib.hid ha
  obtain ⟨b0, b1, hst0, hsz0⟩ := two_blks w c A n k m
  obtain ⟨⟨q0, q1, q2⟩, p0, p1, p2⟩ := tt_all b0
  have B0 := Lib.hid b0
  have B1 := Lib.hid b1
  have H0 := Lib.hid hst0
  have S0 := Lib.hid hsz0
  clear hf ha b0 b1 hst0 hsz0
  cases hm : mayT ⟨c, ls, m⟩
  · have e1 : cutT ⟨c, ls, m⟩ i = (⟨c, ls, m⟩, 1) := by rw [cutT, hm]; rfl
    rw [hv] at e1
    cases e1
    obtain rfl : n = n' := by rw [← Hn.out, ← hn']
    subst he
    have Hm := Lib.hid hm
    clear hm hv hn' hn
    go_enter Try.func68, Try.ntmps68
    go_wp2
    refine wp_scope_ahead 0 rfl ?_
    go_wp2_with (go_at_call 52; refine (tmay_s c ls m n HF.out Hn.out false Hm.out A k _ (Ha.out.keep H0.out)).mono ?_; rintro e w1 ⟨rfl, hs⟩; have H1 := Lib.hid hs; have B0' := Lib.hid (B0.out.keep hs B0.out.lt); have B1' := Lib.hid (B1.out.keep hs B1.out.lt); clear hs q0 q1 q2 p0 p1 p2; obtain ⟨⟨q0, q1, q2⟩, p0, p1, p2⟩ := tt_all B0'.out)
    go_step3
    refine ⟨rfl, ?_⟩
    go_wp2_with (go_at_call 66; refine (own_s c ls m n HF.out Hn.out _ k _ (Ha.out.keep (Stp.trans H0.out H1.out))).mono ?_; rintro e w9 ⟨A9, k9, rfl, hR, hs⟩; have X := Lib.hid (own_end (Stp.trans H0.out H1.out) (Nat.le_trans (Nat.le_of_eq S0.out.symm) H1.out.size) hs hR (B1'.out.keep hs B1'.out.lt) c m); obtain ⟨⟨r0, r1, r2⟩, s0, s1, s2⟩ := tt_all (B1'.out.keep hs B1'.out.lt); clear hR hs q0 q1 q2 p0 p1 p2)
    rw [jump_ret]
    change bodyPost _ _ _ _ _ (fillT w9 (w.heap.size + 1) c A9 n k9 m)
    have hX := X.out
    clear X
    generalize fillT w9 (w.heap.size + 1) c A9 n k9 m = W at hX ⊢
    obtain ⟨x0, x1, x2, x3⟩ := hX
    clear r0 r1 r2 s0 s1 s2
    obtain ⟨⟨q0, q1, q2⟩, -, -, -⟩ := tt_all x0
    refine bodyPost_ret (v := .tuple #[tc c A9 n k9 m, .int .i64 1]) (by simp [results, Try.results68, go_sem, *]) rfl ⟨A9, k9, rfl, x1, x2, x3⟩
  · have Hm := Lib.hid hm
    by_cases hin : i < 0 ∨ (n : Int) < i
    · have e1 : cutT ⟨c, ls, m⟩ i = (⟨c, ls, m⟩, 9) := cutT_no hm (by rw [hn]; exact hin)
      rw [hv] at e1
      cases e1
      obtain rfl : n = n' := by rw [← Hn.out, ← hn']
      subst he
      clear hm hv hn' hn
      rcases hin with hin | hin
      · have g1 : decide (i < 0) = true := decide_eq_true hin
        go_enter Try.func68, Try.ntmps68
        go_wp2
        refine wp_scope_ahead 0 rfl ?_
        go_wp2_with (go_at_call 52; refine (tmay_s c ls m n HF.out Hn.out true Hm.out A k _ (Ha.out.keep H0.out)).mono ?_; rintro e w1 ⟨rfl, hs⟩; have H1 := Lib.hid hs; have B0' := Lib.hid (B0.out.keep hs B0.out.lt); have B1' := Lib.hid (B1.out.keep hs B1.out.lt); clear hs q0 q1 q2 p0 p1 p2; obtain ⟨⟨q0, q1, q2⟩, p0, p1, p2⟩ := tt_all B0'.out)
        go_step3
        refine ⟨rfl, ?_⟩
        go_wp2_with (go_at_call 66; refine (own_s c ls m n HF.out Hn.out _ k _ (Ha.out.keep (Stp.trans H0.out H1.out))).mono ?_; rintro e w9 ⟨A9, k9, rfl, hR, hs⟩; have X := Lib.hid (own_end (Stp.trans H0.out H1.out) (Nat.le_trans (Nat.le_of_eq S0.out.symm) H1.out.size) hs hR (B1'.out.keep hs B1'.out.lt) c m); obtain ⟨⟨r0, r1, r2⟩, s0, s1, s2⟩ := tt_all (B1'.out.keep hs B1'.out.lt); clear hR hs q0 q1 q2 p0 p1 p2)
        rw [jump_ret]
        change bodyPost _ _ _ _ _ (fillT w9 (w.heap.size + 1) c A9 n k9 m)
        have hX := X.out
        clear X
        generalize fillT w9 (w.heap.size + 1) c A9 n k9 m = W at hX ⊢
        obtain ⟨x0, x1, x2, x3⟩ := hX
        clear r0 r1 r2 s0 s1 s2
        obtain ⟨⟨q0, q1, q2⟩, -, -, -⟩ := tt_all x0
        refine bodyPost_ret (v := .tuple #[tc c A9 n k9 m, .int .i64 9]) (by simp [results, Try.results68, go_sem, *]) rfl ⟨A9, k9, rfl, x1, x2, x3⟩
      · have g1 : decide (i < 0) = false := decide_eq_false (by omega)
        have g2 : decide ((n : Int) < i) = true := decide_eq_true hin
        go_enter Try.func68, Try.ntmps68
        go_wp2
        refine wp_scope_ahead 0 rfl ?_
        go_wp2_with (go_at_call 52; refine (tmay_s c ls m n HF.out Hn.out true Hm.out A k _ (Ha.out.keep H0.out)).mono ?_; rintro e w1 ⟨rfl, hs⟩; have H1 := Lib.hid hs; have B0' := Lib.hid (B0.out.keep hs B0.out.lt); have B1' := Lib.hid (B1.out.keep hs B1.out.lt); clear hs q0 q1 q2 p0 p1 p2; obtain ⟨⟨q0, q1, q2⟩, p0, p1, p2⟩ := tt_all B0'.out)
        go_step3
        refine ⟨rfl, ?_⟩
        go_wp2_with (go_at_call 66; refine (own_s c ls m n HF.out Hn.out _ k _ (Ha.out.keep (Stp.trans H0.out H1.out))).mono ?_; rintro e w9 ⟨A9, k9, rfl, hR, hs⟩; have X := Lib.hid (own_end (Stp.trans H0.out H1.out) (Nat.le_trans (Nat.le_of_eq S0.out.symm) H1.out.size) hs hR (B1'.out.keep hs B1'.out.lt) c m); obtain ⟨⟨r0, r1, r2⟩, s0, s1, s2⟩ := tt_all (B1'.out.keep hs B1'.out.lt); clear hR hs q0 q1 q2 p0 p1 p2)
        rw [jump_ret]
        change bodyPost _ _ _ _ _ (fillT w9 (w.heap.size + 1) c A9 n k9 m)
        have hX := X.out
        clear X
        generalize fillT w9 (w.heap.size + 1) c A9 n k9 m = W at hX ⊢
        obtain ⟨x0, x1, x2, x3⟩ := hX
        clear r0 r1 r2 s0 s1 s2
        obtain ⟨⟨q0, q1, q2⟩, -, -, -⟩ := tt_all x0
        refine bodyPost_ret (v := .tuple #[tc c A9 n k9 m, .int .i64 9]) (by simp [results, Try.results68, go_sem, *]) rfl ⟨A9, k9, rfl, x1, x2, x3⟩
    · obtain ⟨j, hj⟩ : ∃ j : Nat, i = (j : Int) := ⟨i.toNat, by omega⟩
      have hjn : j ≤ n := by omega
      have e1 : cutT ⟨c, ls, m⟩ i = (⟨c, ls.take j, false⟩, 0) := by
        rw [cutT_yes hm (by omega) (by dsimp only; omega), hj, Int.toNat_natCast]
      rw [hv] at e1
      cases e1
      have Hn2 : Hid ((ls.take j).length = j) := Lib.hid (by rw [List.length_take]; omega)
      obtain rfl : j = n' := by rw [← hn', Hn2.out]
      subst he
      have HF2 : Hid (FewT ⟨c, ls.take j, false⟩) := Lib.hid ⟨HF.out.low, HF.out.high, by have := HF.out.few; dsimp only at this ⊢; rw [List.length_take]; omega, fun l hl => HF.out.each l (List.mem_of_mem_take hl)⟩
      have hnk := RdL.length_le Ha.out
      rw [hn] at hnk
      obtain ⟨A2, hsl, hrd⟩ := slice_to_any A n k j (by omega)
      have Ha2 := Lib.hid (hrd w ls Ha.out)
      have g1 : decide (i < 0) = false := decide_eq_false (by omega)
      have g2 : decide ((n : Int) < i) = false := decide_eq_false (by omega)
      rw [← hj] at hsl
      have hi2 : 0 ≤ i := by omega
      clear hm hv hn' hn hin hrd hjn hnk hj
      go_enter Try.func68, Try.ntmps68
      go_wp2
      refine wp_scope_ahead 0 rfl ?_
      go_wp2_with (go_at_call 52; refine (tmay_s c ls m n HF.out Hn.out true Hm.out A k _ (Ha.out.keep H0.out)).mono ?_; rintro e w1 ⟨rfl, hs⟩; have H1 := Lib.hid hs; have B0' := Lib.hid (B0.out.keep hs B0.out.lt); have B1' := Lib.hid (B1.out.keep hs B1.out.lt); clear hs q0 q1 q2 p0 p1 p2; obtain ⟨⟨q0, q1, q2⟩, p0, p1, p2⟩ := tt_all B0'.out)
      go_step3
      have H2 := Lib.hid (show Stp w ((w1.setCell ⟨w.heap.size, 1, none⟩ (.slice A2 j k)).setCell ⟨w.heap.size, 2, none⟩ (.bool false)) from Below.setCell (Below.setCell (Stp.trans H0.out H1.out) (p := ⟨w.heap.size, 1, none⟩) (Nat.le_refl _) (.slice A2 j k)) (p := ⟨w.heap.size, 2, none⟩) (Nat.le_refl _) (.bool false))
      have B2 := Lib.hid ((B1'.out.far (p := ⟨w.heap.size, 1, none⟩) (show w.heap.size + 1 ≠ w.heap.size by omega) (.slice A2 j k)).far (p := ⟨w.heap.size, 2, none⟩) (show w.heap.size + 1 ≠ w.heap.size by omega) (.bool false))
      have hsz2 : w.heap.size + 2 ≤ ((w1.setCell ⟨w.heap.size, 1, none⟩ (.slice A2 j k)).setCell ⟨w.heap.size, 2, none⟩ (.bool false)).heap.size := Nat.le_trans (Nat.le_trans (Nat.le_of_eq S0.out.symm) H1.out.size) (by simp [World.setCell])
      have Hsz2 := Lib.hid hsz2
      clear hsz2
      go_wp2_with (go_at_call 66; refine (own_s c (ls.take j) false j HF2.out Hn2.out _ k _ (Ha2.out.keep H2.out)).mono ?_; rintro e w9 ⟨A9, k9, rfl, hR, hs⟩; have X := Lib.hid (own_end H2.out Hsz2.out hs hR (B2.out.keep hs B2.out.lt) c false); obtain ⟨⟨r0, r1, r2⟩, s0, s1, s2⟩ := tt_all (B2.out.keep hs B2.out.lt); clear hR hs q0 q1 q2 p0 p1 p2)
      rw [jump_ret]
      change bodyPost _ _ _ _ _ (fillT w9 (w.heap.size + 1) c A9 j k9 false)
      have hX := X.out
      clear X
      generalize fillT w9 (w.heap.size + 1) c A9 j k9 false = W at hX ⊢
      obtain ⟨x0, x1, x2, x3⟩ := hX
      clear r0 r1 r2 s0 s1 s2
      obtain ⟨⟨q0, q1, q2⟩, -, -, -⟩ := tt_all x0
      refine bodyPost_ret (v := .tuple #[tc c A9 j k9 false, .int .i64 0]) (by simp [results, Try.results68, go_sem, *]) rfl ⟨A9, k9, rfl, x1, x2, x3⟩

theorem clone_a (l : L) (n : Nat) (hn : l.length = n) (A : Option Addr) (c : Nat) (w w0 : World) (h0 : Stp w0 w) (ha : RdA w A c (bs l)) (hl : n ≤ 100000) :
    Calls Try.prog 53 #[.slice A n c] w fun e w' => ∃ A' c', e = .returned (.slice A' n c') ∧ RdA w' A' c' (bs l) ∧ Stp w w' ∧ ∀ g, g < w0.heap.size → ClearA g w' A' c' (bs l) := by
  refine (clone_s l n hn A c w ha hl).mono ?_
  rintro e w' ⟨A', c', rfl, hu, hs⟩
  refine ⟨A', c', rfl, ?_, hs, fun g hg => hu.clear (fun (h : w.heap.size ≤ g) => by have := h0.size; omega)⟩
  obtain ⟨A2, c2, e, hr⟩ := hu.form
  cases e
  exact hr
set_option maxRecDepth 100000 in
set_option maxHeartbeats 2000000 in
theorem read_s (c : Int) (ls : List L) (m : Bool) (n : Nat) (hf : FewT ⟨c, ls, m⟩) (hn : ls.length = n) (i : Int) (hi0 : -9223372036854775808 ≤ i) (hi1 : i < 9223372036854775808)
    (r : L) (l e0 : Nat) (hv : readV ⟨c, ls, m⟩ i = (r, e0)) (hl : r.length = l) (ei : Int) (he : (e0 : Int) = ei) (A : Option Addr) (k : Nat) (w : World) (ha : RdL w A k ls) :
    Calls Try.prog 29 #[tc c A n k m, .int .i64 i] w fun e w' => ∃ B d, e = .returned (.tuple #[.slice B l d, .int .i64 ei]) ∧ RdA w' B d (bs r) ∧ Stp w w' ∧ ∀ g, g < w.heap.size → ClearA g w' B d (bs r) := by
  have HF := Lib.hid hf
  have Hn := Lib.hid hn
  have Ha := Lib.hid ha
  have H0 := Lib.hid (Stp.alloc (Stp.refl w) (.cells (tcs c A n k m) 41))
  obtain ⟨⟨q0, q1, q2⟩, p0, p1, p2⟩ := tt_all (Blk.new w 41 (tcs c A n k m))
  have B0 := Lib.hid (Blk.new w 41 (tcs c A n k m))
  clear hf ha
  have key : (mayT ⟨c, ls, m⟩ = false ∧ r = [] ∧ e0 = 1) ∨ (mayT ⟨c, ls, m⟩ = true ∧ i < 0 ∧ r = [] ∧ e0 = 9) ∨ (mayT ⟨c, ls, m⟩ = true ∧ 0 ≤ i ∧ (n : Int) ≤ i ∧ r = [] ∧ e0 = 8) ∨ (mayT ⟨c, ls, m⟩ = true ∧ 0 ≤ i ∧ i < (n : Int) ∧ ls[i.toNat]? = some r ∧ e0 = 0) := by
    cases hm : mayT ⟨c, ls, m⟩
    · rw [readV, hm, if_pos rfl] at hv
      cases hv
      exact .inl ⟨rfl, rfl, rfl⟩
    · by_cases h1 : i < 0
      · rw [readV_no hm h1] at hv
        cases hv
        exact .inr (.inl ⟨rfl, h1, rfl, rfl⟩)
      · by_cases h2 : (n : Int) ≤ i
        · rw [readV_end hm (by omega) (by dsimp only; rw [hn]; exact h2)] at hv
          cases hv
          exact .inr (.inr (.inl ⟨rfl, by omega, h2, rfl, rfl⟩))
        · rw [readV_yes hm (by omega) (by dsimp only; rw [hn]; omega)] at hv
          cases hv
          refine .inr (.inr (.inr ⟨rfl, by omega, by omega, ?_, rfl⟩))
          dsimp only
          rw [List.getD_eq_getElem?_getD, List.getElem?_eq_getElem (by omega)]
          rfl
  clear hv hn
  rcases key with ⟨hm, rfl, rfl⟩ | ⟨hm, h1, rfl, rfl⟩ | ⟨hm, h1, h2, rfl, rfl⟩ | ⟨hm, h1, h2, h3, rfl⟩
  · have Hm := Lib.hid hm
    subst hl he
    clear hm
    go_enter Try.func29, Try.ntmps29
    go_wp2_with (go_at_call 52; refine (tmay_s c ls m n HF.out Hn.out false Hm.out A k _ (Ha.out.keep H0.out)).mono ?_; rintro e w1 ⟨rfl, hs⟩; have H1 := Lib.hid hs; have B0' := Lib.hid (B0.out.keep hs B0.out.lt); clear q0 q1 q2 p0 p1 p2; obtain ⟨⟨q0, q1, q2⟩, p0, p1, p2⟩ := tt_all B0'.out; clear hs)
    go_ret2
    exact ⟨_, _, rfl, RdA.nil _, Stp.trans H0.out H1.out, fun g hg w2 h2 => RdA.nil _⟩
  · have Hm := Lib.hid hm
    subst hl he
    have g1 : decide (i < 0) = true := decide_eq_true h1
    clear hm h1
    go_enter Try.func29, Try.ntmps29
    go_wp2_with (go_at_call 52; refine (tmay_s c ls m n HF.out Hn.out true Hm.out A k _ (Ha.out.keep H0.out)).mono ?_; rintro e w1 ⟨rfl, hs⟩; have H1 := Lib.hid hs; have B0' := Lib.hid (B0.out.keep hs B0.out.lt); clear q0 q1 q2 p0 p1 p2; obtain ⟨⟨q0, q1, q2⟩, p0, p1, p2⟩ := tt_all B0'.out; clear hs)
    go_ret2
    exact ⟨_, _, rfl, RdA.nil _, Stp.trans H0.out H1.out, fun g hg w2 h2 => RdA.nil _⟩
  · have Hm := Lib.hid hm
    subst hl he
    have g1 : decide (i < 0) = false := decide_eq_false (by omega)
    have g2 : decide ((n : Int) ≤ i) = true := decide_eq_true h2
    clear hm h1 h2
    go_enter Try.func29, Try.ntmps29
    go_wp2_with (go_at_call 52; refine (tmay_s c ls m n HF.out Hn.out true Hm.out A k _ (Ha.out.keep H0.out)).mono ?_; rintro e w1 ⟨rfl, hs⟩; have H1 := Lib.hid hs; have B0' := Lib.hid (B0.out.keep hs B0.out.lt); clear q0 q1 q2 p0 p1 p2; obtain ⟨⟨q0, q1, q2⟩, p0, p1, p2⟩ := tt_all B0'.out; clear hs)
    go_ret2
    exact ⟨_, _, rfl, RdA.nil _, Stp.trans H0.out H1.out, fun g hg w2 h2 => RdA.nil _⟩
  · have Hm := Lib.hid hm
    subst he
    have g1 : decide (i < 0) = false := decide_eq_false (by omega)
    have g2 : decide ((n : Int) ≤ i) = false := decide_eq_false (by omega)
    have hll : l ≤ 100000 := by rw [← hl]; exact HF.out.each r (List.mem_of_getElem? h3)
    have H3 := Lib.hid h3
    have Hl := Lib.hid hl
    obtain ⟨b, o, A1, c1, rfl, -, -⟩ := Ha.out.at_ h3
    clear hm h3 hl
    go_enter Try.func29, Try.ntmps29
    go_wp2_with (first
      | (go_at_call 52; refine (tmay_s c ls m n HF.out Hn.out true Hm.out _ k _ (Ha.out.keep H0.out)).mono ?_; rintro e w1 ⟨rfl, hs⟩; have H1 := Lib.hid hs; have B0' := Lib.hid (B0.out.keep hs B0.out.lt); clear q0 q1 q2 p0 p1 p2; obtain ⟨⟨q0, q1, q2⟩, p0, p1, p2⟩ := tt_all B0'.out; obtain ⟨b2, o2, A2, c2, e2, ca, ra⟩ := (Ha.out.keep (Stp.trans H0.out hs)).at_ H3.out; cases e2; rw [Hl.out] at ca; have Ra := Lib.hid ra; clear ra hs)
      | (go_at_call 53; refine (clone_a r l Hl.out _ _ _ _ (Stp.trans H0.out H1.out) Ra.out hll).mono ?_; rintro e w2 ⟨B, d, rfl, hr, hs, hc⟩; have HB := Lib.hid hr; have H2 := Lib.hid hs; have HC := Lib.hid hc; clear hr hs hc))
    go_ret2
    exact ⟨_, _, rfl, HB.out, Stp.trans (Stp.trans H0.out H1.out) H2.out, HC.out⟩

set_option maxRecDepth 100000 in
set_option maxHeartbeats 2000000 in
theorem new_s (i : Int) (hi0 : -9223372036854775808 ≤ i) (hi1 : i < 9223372036854775808) (c' : Int) (ls' : List L) (m' b : Bool) (n' : Nat) (hv : newV i = (⟨c', ls', m'⟩, b)) (hn' : ls'.length = n') (w : World) :
    Calls Try.prog 31 #[.int .i64 i] w fun e w' => ∃ A k, e = .returned (.tuple #[tc c' A n' k m', .bool b]) ∧ RdL w' A k ls' ∧ Stp w w' ∧ ∀ g, g < w.heap.size → Clear g w' A k ls' := by
  have hf : FewT ⟨i, [], false⟩ := ⟨hi0, hi1, by simp, by simp⟩
  have HF := Lib.hid hf
  have H0 := Lib.hid (Stp.alloc (Stp.alloc (Stp.refl w) (.cells zcells 41)) (.cells (tcs i none 0 0 false) 41))
  have b0 := (Blk.new w 41 zcells).alloc (.cells (tcs i none 0 0 false) 41)
  have b1 := Blk.new (w.alloc (.cells zcells 41)) 41 (tcs i none 0 0 false)
  rw [World.size_alloc] at b1
  have B0 : Hid (Blk _ w.heap.size 41 (tcs 0 none 0 0 false)) := Lib.hid b0
  have B1 := Lib.hid b1
  obtain ⟨⟨q0, q1, q2⟩, -, -, -⟩ := tt_all b1
  have hm : mayT ⟨i, [], false⟩ = b := by
    rw [newV] at hv
    split at hv
    · cases hv
      rename_i h
      exact mayT_iff.2 ⟨h.1, h.2, by simpa using h.1, by simp⟩
    · cases hv
      rename_i h
      rw [Bool.eq_false_iff]
      intro hh
      obtain ⟨x1, x2, -⟩ := mayT_iff.1 hh
      exact h ⟨x1, x2⟩
  have Hm := Lib.hid hm
  have hb : ((⟨c', ls', m'⟩ : Tp), b) = (if b = true then (⟨i, [], false⟩, true) else (⟨0, [], false⟩, false)) := by
    rw [← hv, newV]
    rw [newV] at hv
    split at hv <;> cases hv <;> simp
    · rename_i h
      exact h
    · rename_i h
      intro h1
      omega
  clear hf b0 b1 hm hv
  cases b
  · cases hb
    subst hn'
    go_enter Try.func31, Try.ntmps31
    go_wp2_with (go_at_call 52; refine (tmay_s i [] false 0 HF.out rfl _ Hm.out none 0 _ (RdL.nil _)).mono ?_; rintro e w1 ⟨rfl, hs⟩; have H1 := Lib.hid hs; have B0' := Lib.hid (B0.out.keep hs B0.out.lt); have B1' := Lib.hid (B1.out.keep hs B1.out.lt); clear hs q0 q1 q2; obtain ⟨⟨q0, q1, q2⟩, -, -, -⟩ := tt_all B1'.out; obtain ⟨⟨r0, r1, r2⟩, s0, s1, s2⟩ := tt_all B0'.out)
    have hf := fillt_blk 0 none 0 0 false B0'.out
    have hst := fillt_stp 0 none 0 0 false (Stp.trans H0.out H1.out) (g := w.heap.size) (Nat.le_refl _)
    change bodyPost _ _ _ _ _ (fillT w1 w.heap.size 0 none 0 0 false)
    generalize fillT w1 w.heap.size 0 none 0 0 false = W at hf hst ⊢
    clear r0 r1 r2 s0 s1 s2 q0 q1 q2
    obtain ⟨⟨q0, q1, q2⟩, -, -, -⟩ := tt_all hf
    refine bodyPost_ret (v := .tuple #[tc 0 none 0 0 false, .bool false]) (by simp [results, Try.results31, go_sem, *]) rfl ⟨none, 0, rfl, RdL.nil _, hst, fun _ _ _ _ => RdL.nil _⟩
  · cases hb
    subst hn'
    go_enter Try.func31, Try.ntmps31
    go_wp2_with (go_at_call 52; refine (tmay_s i [] false 0 HF.out rfl _ Hm.out none 0 _ (RdL.nil _)).mono ?_; rintro e w1 ⟨rfl, hs⟩; have H1 := Lib.hid hs; have B0' := Lib.hid (B0.out.keep hs B0.out.lt); have B1' := Lib.hid (B1.out.keep hs B1.out.lt); clear hs q0 q1 q2; obtain ⟨⟨q0, q1, q2⟩, -, -, -⟩ := tt_all B1'.out; obtain ⟨⟨r0, r1, r2⟩, s0, s1, s2⟩ := tt_all B0'.out)
    have hf := fillt_blk i none 0 0 false B0'.out
    have hst := fillt_stp i none 0 0 false (Stp.trans H0.out H1.out) (g := w.heap.size) (Nat.le_refl _)
    change bodyPost _ _ _ _ _ (fillT w1 w.heap.size i none 0 0 false)
    generalize fillT w1 w.heap.size i none 0 0 false = W at hf hst ⊢
    clear r0 r1 r2 s0 s1 s2 q0 q1 q2
    obtain ⟨⟨q0, q1, q2⟩, -, -, -⟩ := tt_all hf
    refine bodyPost_ret (v := .tuple #[tc i none 0 0 false, .bool true]) (by simp [results, Try.results31, go_sem, *]) rfl ⟨none, 0, rfl, RdL.nil _, hst, fun _ _ _ _ => RdL.nil _⟩

theorem same_n (ls ms : List L) (n n2 : Nat) (hn : ls.length = n) (hn2 : ms.length = n2) (A B : Option Addr) (c d : Nat) (w : World) (ha : RdL w A c ls) (hb : RdL w B d ms) (hl : n ≤ 1000) (hm : n2 ≤ 1000) :
    Calls Try.prog 54 #[.slice A n c, .slice B n2 d] w fun e w' => e = .returned (.bool (ls == ms)) ∧ Stp w w' := by
  subst hn hn2
  exact Block.same_s ls ms A B c d w ha hb (by omega) (by omega)
set_option maxRecDepth 100000 in
set_option maxHeartbeats 2000000 in
theorem tsame_s (c : Int) (ls : List L) (m : Bool) (n : Nat) (hf : FewT ⟨c, ls, m⟩) (hn : ls.length = n) (c' : Int) (ls' : List L) (m' : Bool) (n' : Nat) (hf' : FewT ⟨c', ls', m'⟩) (hn' : ls'.length = n')
    (b : Bool) (hb : decide ((⟨c, ls, m⟩ : Tp) = ⟨c', ls', m'⟩) = b) (A B : Option Addr) (k d : Nat) (w : World) (ha : RdL w A k ls) (ha' : RdL w B d ls') :
    Calls Try.prog 30 #[tc c A n k m, tc c' B n' d m'] w fun e w' => e = .returned (.bool b) ∧ Stp w w' := by
  have h0 := Stp.alloc (Stp.alloc (Stp.refl w) (.cells (tcs c A n k m) 41)) (.cells (tcs c' B n' d m') 41)
  have b0 := (Blk.new w 41 (tcs c A n k m)).alloc (.cells (tcs c' B n' d m') 41)
  have b1 := Blk.new (w.alloc (.cells (tcs c A n k m) 41)) 41 (tcs c' B n' d m')
  rw [World.size_alloc] at b1
  have h1 := hf.few
  have h2 := hf'.few
  dsimp only at h1 h2
  rw [hn] at h1
  rw [hn'] at h2
  obtain ⟨⟨q0, q1, q2⟩, -, -, -⟩ := tt_all b0
  obtain ⟨⟨r0, r1, r2⟩, -, -, -⟩ := tt_all b1
  have hb2 : b = ((c == c') && (m == m') && (ls == ls')) := by
    rw [← hb, Bool.eq_iff_iff]
    simp only [decide_eq_true_eq, Tp.mk.injEq, Bool.and_eq_true, beq_iff_eq, and_assoc]
    exact ⟨fun ⟨x, y, z⟩ => ⟨x, z, y⟩, fun ⟨x, z, y⟩ => ⟨x, y, z⟩⟩
  obtain ⟨x1, g1⟩ : ∃ x, (c == c') = x := ⟨_, rfl⟩
  obtain ⟨x2, g2⟩ : ∃ x, (m == m') = x := ⟨_, rfl⟩
  obtain ⟨x3, g3⟩ : ∃ x, (ls == ls') = x := ⟨_, rfl⟩
  rw [g1, g2, g3] at hb2
  subst hb2
  have Ha := Lib.hid ha
  have Ha' := Lib.hid ha'
  have Hn := Lib.hid hn
  have Hn' := Lib.hid hn'
  have H0 := Lib.hid h0
  have G3 := Lib.hid g3
  clear ha ha' hn hn' hf hf' b0 b1 hb h0 g3
  cases x1 <;> cases x2
  all_goals
    go_enter Try.func30, Try.ntmps30
    go_wp2_with (go_at_call 54; refine (same_n ls ls' n n' Hn.out Hn'.out _ _ _ _ _ (Ha.out.keep H0.out) (Ha'.out.keep H0.out) h1 h2).mono ?_; rintro e w' ⟨rfl, hs⟩; rw [G3.out]; have H1 := Lib.hid (Stp.trans H0.out hs); clear hs)
    go_ret
    first | exact ⟨rfl, H1.out⟩ | exact ⟨rfl, H0.out⟩

end Go.Proofs.Ytaknnkcfoafkdaa.Tape
