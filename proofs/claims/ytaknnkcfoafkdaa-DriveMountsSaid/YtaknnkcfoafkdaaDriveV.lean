/-
  Package drive: what is done to the tape that is mounted, and the drive behind it (change): its contract; no statement is proved here.
-/
import Derived.Test.YtaknnkcfoafkdaaDriveO
import Derived.Test.YtaknnkcfoafkdaaDriveS
namespace Go.Proofs.Ytaknnkcfoafkdaa.Drive
open Go.RowKit Go.Proofs.Ytaknnkcfoafkdaa.Str Go.Proofs.Ytaknnkcfoafkdaa.Base Go.Proofs.Ytaknnkcfoafkdaa.BlockM Go.Proofs.Ytaknnkcfoafkdaa.RecM Go.Proofs.Ytaknnkcfoafkdaa.TapeM Go.Proofs.Ytaknnkcfoafkdaa.Tape Go.Proofs.Ytaknnkcfoafkdaa.DriveM
set_option linter.unusedVariables false

theorem grown_put {w W : World} {q : Option Nat} (h : w.grownBy W q) {p : Addr} (hp : w.heap.size ≤ p.block) (v : Value) : w.grownBy (W.setCell p v) q :=
  ⟨h.os, h.tape, h.output, Nat.le_trans h.size (by simp [World.setCell]), fun j hj hn => (Below.heap_setCell _ _ _ _ (by omega)).trans (h.block j hj hn)⟩
theorem grown_wr {w wx w3 : World} {g : Nat} {q : Option Nat} (h0 : Stp w wx) (h : Wr g q wx w3) (hg : w.heap.size ≤ g) : w.grownBy w3 q :=
  ⟨h.os.trans h0.os, h.tape.trans h0.tape, h.output.trans h0.output, Nat.le_trans h0.size h.size, fun j hj hn => (h.block j (Nat.lt_of_lt_of_le hj h0.size) (by omega) hn).trans (h0.block j hj)⟩
theorem abv_wr {wx w3 : World} {g : Nat} {q : Option Nat} {S : Nat → Prop} (h : Wr g q wx w3) (hg : ¬ S g) (hq : ∀ x, q = some x → ¬ S x) : Abv S wx w3 :=
  ⟨h.size, fun j hs hj => h.block j hj (fun e => hg (e ▸ hs)) (fun e => hq j e.symm hs)⟩
theorem grown_stp {w w' : World} (h : Stp w w') : w.grownBy w' none := ⟨h.os, h.tape, h.output, h.size, fun j hj _ => h.block j hj⟩

set_option maxRecDepth 100000 in
set_option maxHeartbeats 2000000 in
theorem change_no (fv : Value) (ts : List Tp) (i p : Int) (n : Nat) (hf : FewD ⟨ts, i, p⟩) (hn : ts.length = n) (e0 : Nat) (he0 : whyD ⟨ts, i, p⟩ = e0) (hne : e0 ≠ 0) (ei : Int) (hei : (e0 : Int) = ei) (A : Option Addr) (k : Nat) (w : World) (ha : RdS w A k ts) :
    Calls Try.prog 36 #[dc A n k i p, fv] w fun e w' => ∃ A' k', e = .returned (.tuple #[dc A' n k' i p, .int .i64 ei]) ∧ Osh w.heap.size w' A' k' ts ∧ Stp w w' := by
  have hfew := hf.few
  dsimp only at hfew
  rw [hn] at hfew
  have HF := Lib.hid hf
  have HE : Hid (∀ t ∈ ts, FewT t) := Lib.hid hf.each
  have Hn := Lib.hid hn
  have Ha := Lib.hid ha
  obtain ⟨b0, b1, hst0⟩ := two_dblks w A n k i p
  have hsz : w.heap.size + 2 = ((w.alloc (.cells (dcs A n k i p) 24)).alloc (.cells (dcs none 0 0 0 0) 24)).heap.size := by rw [World.size_alloc, World.size_alloc]
  have SZ := Lib.hid hsz
  obtain ⟨⟨q0, q1, q2⟩, -, -, -⟩ := dd_all b0
  have B0 := Lib.hid b0
  have B1 := Lib.hid b1
  have H0 := Lib.hid hst0
  clear hf hn ha b0 b1 hst0 hsz
  have fin : ∀ (wc : World) (A1 : Option Addr) (k1 : Nat), Blk wc (w.heap.size + 1) 24 (dcs none 0 0 0 0) → Stp w wc → Osh (w.heap.size + 2) wc A1 k1 ts →
      Blk (fillD wc (w.heap.size + 1) A1 n k1 i p) (w.heap.size + 1) 24 (dcs A1 n k1 i p) ∧ Osh w.heap.size (fillD wc (w.heap.size + 1) A1 n k1 i p) A1 k1 ts ∧ Stp w (fillD wc (w.heap.size + 1) A1 n k1 i p) := fun wc A1 k1 hb hs ho => by
    refine ⟨filld_blk A1 n k1 i p hb, ?_, filld_stp A1 n k1 i p hs (by omega)⟩
    rcases ho with rfl | ⟨b, cur, S, rfl, hb2, hS, h⟩
    · exact .inl rfl
    · refine .inr ⟨b, cur, S, rfl, by omega, fun x hx => by have := hS x hx; omega, h.abv (Abv.of_grown (filld_grown wc (w.heap.size + 1) _ n k1 i p) ?_)⟩
      rintro (hx | hx)
      · have := hS _ hx; omega
      · omega
  by_cases hm : mayD ⟨ts, i, p⟩ = true
  · have hi : i < 0 := by
      rw [whyD, hm, if_neg (by simp)] at he0
      split at he0
      · assumption
      · exact absurd he0.symm hne
    have h9 : e0 = 9 := by rw [← he0, whyD, hm, if_neg (by simp), if_pos hi]
    subst h9
    obtain rfl : i = -1 := by have := (mayD_iff.1 hm).2.1; dsimp only at this; omega
    obtain rfl : ei = 9 := by omega
    have Hm := Lib.hid hm
    clear hm he0 hi
    go_enter Try.func36, Try.ntmps36
    go_wp2_with (first
      | (go_at_call 33; refine (down_s ts (-1) p n Hn.out hfew HE.out A k _ (Ha.out.keep H0.out)).mono ?_; rintro e w1 ⟨A1, k1, rfl, ho, hs⟩; have hal := Stp.trans hs (Stp.alloc (Stp.refl w1) (.cells (dcs A1 n k1 (-1) p) 24)); have HO := Lib.hid (ho.keep (Stp.alloc (Stp.refl w1) (.cells (dcs A1 n k1 (-1) p) 24))); have BN := Lib.hid (Blk.new w1 24 (dcs A1 n k1 (-1) p)); have H1 := Lib.hid (Stp.trans H0.out hal); have B0' := Lib.hid (B0.out.keep hal B0.out.lt); have B1' := Lib.hid (B1.out.keep hal B1.out.lt); clear ho hs hal q0 q1 q2; obtain ⟨⟨q0, q1, q2⟩, -, -, -⟩ := dd_all B0'.out)
      | (go_at_call 27; refine (dmay_s ts (-1) p n HF.out Hn.out true Hm.out A k _ (Ha.out.keep H1.out)).mono ?_; rintro e w2 ⟨rfl, hs⟩; have HO2 := Lib.hid (HO.out.keep hs); have BN2 := Lib.hid (BN.out.keep hs BN.out.lt); have H2 := Lib.hid (Stp.trans H1.out hs); have B02 := Lib.hid (B0'.out.keep hs B0'.out.lt); have B12 := Lib.hid (B1'.out.keep hs B1'.out.lt); clear hs q0 q1 q2; obtain ⟨⟨q0, q1, q2⟩, -, -, -⟩ := dd_all B02.out; obtain ⟨⟨q3, q4, q5⟩, -, -, -⟩ := dd_all BN2.out; obtain ⟨⟨r0, r1, r2⟩, s0, s1, s2⟩ := dd_all B12.out))
    have hX := fin w2 A1 k1 B12.out H2.out (by rw [SZ.out]; exact HO2.out)
    change bodyPost _ _ _ _ _ (fillD w2 (w.heap.size + 1) A1 n k1 (-1) p)
    generalize fillD w2 (w.heap.size + 1) A1 n k1 (-1) p = WW at hX ⊢
    obtain ⟨x0, x1, x2⟩ := hX
    clear q0 q1 q2 q3 q4 q5 r0 r1 r2 s0 s1 s2
    obtain ⟨⟨q0, q1, q2⟩, -, -, -⟩ := dd_all x0
    refine bodyPost_ret (v := .tuple #[dc A1 n k1 (-1) p, .int .i64 9]) (by simp [results, Try.results36, go_sem, *]) rfl ⟨A1, k1, rfl, x1, x2⟩
  · have hm2 : mayD ⟨ts, i, p⟩ = false := by simpa using hm
    have h9 : e0 = 1 := by rw [← he0, whyD, hm2, if_pos rfl]
    subst h9
    obtain rfl : ei = 1 := by omega
    have Hm := Lib.hid hm2
    clear hm hm2 he0
    go_enter Try.func36, Try.ntmps36
    go_wp2_with (first
      | (go_at_call 33; refine (down_s ts i p n Hn.out hfew HE.out A k _ (Ha.out.keep H0.out)).mono ?_; rintro e w1 ⟨A1, k1, rfl, ho, hs⟩; have hal := Stp.trans hs (Stp.alloc (Stp.refl w1) (.cells (dcs A1 n k1 i p) 24)); have HO := Lib.hid (ho.keep (Stp.alloc (Stp.refl w1) (.cells (dcs A1 n k1 i p) 24))); have BN := Lib.hid (Blk.new w1 24 (dcs A1 n k1 i p)); have H1 := Lib.hid (Stp.trans H0.out hal); have B0' := Lib.hid (B0.out.keep hal B0.out.lt); have B1' := Lib.hid (B1.out.keep hal B1.out.lt); clear ho hs hal q0 q1 q2; obtain ⟨⟨q0, q1, q2⟩, -, -, -⟩ := dd_all B0'.out)
      | (go_at_call 27; refine (dmay_s ts i p n HF.out Hn.out false Hm.out A k _ (Ha.out.keep H1.out)).mono ?_; rintro e w2 ⟨rfl, hs⟩; have HO2 := Lib.hid (HO.out.keep hs); have BN2 := Lib.hid (BN.out.keep hs BN.out.lt); have H2 := Lib.hid (Stp.trans H1.out hs); have B12 := Lib.hid (B1'.out.keep hs B1'.out.lt); clear hs q0 q1 q2; obtain ⟨⟨q3, q4, q5⟩, -, -, -⟩ := dd_all BN2.out; obtain ⟨⟨r0, r1, r2⟩, s0, s1, s2⟩ := dd_all B12.out))
    have hX := fin w2 A1 k1 B12.out H2.out (by rw [SZ.out]; exact HO2.out)
    change bodyPost _ _ _ _ _ (fillD w2 (w.heap.size + 1) A1 n k1 i p)
    generalize fillD w2 (w.heap.size + 1) A1 n k1 i p = WW at hX ⊢
    obtain ⟨x0, x1, x2⟩ := hX
    clear q3 q4 q5 r0 r1 r2 s0 s1 s2
    obtain ⟨⟨q0, q1, q2⟩, -, -, -⟩ := dd_all x0
    refine bodyPost_ret (v := .tuple #[dc A1 n k1 i p, .int .i64 1]) (by simp [results, Try.results36, go_sem, *]) rfl ⟨A1, k1, rfl, x1, x2⟩
end Go.Proofs.Ytaknnkcfoafkdaa.Drive
