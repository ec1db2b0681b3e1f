/-
  Package drive: the closures over what is done to a tape; Rewind, Mark, Write, Unmount: their contracts; no statement is proved here.
-/
import Derived.Test.YtaknnkcfoafkdaaDriveX
namespace Go.Proofs.Ytaknnkcfoafkdaa.Drive
open Go.RowKit Go.Proofs.Ytaknnkcfoafkdaa.Str Go.Proofs.Ytaknnkcfoafkdaa.Base Go.Proofs.Ytaknnkcfoafkdaa.BlockM Go.Proofs.Ytaknnkcfoafkdaa.RecM Go.Proofs.Ytaknnkcfoafkdaa.TapeM Go.Proofs.Ytaknnkcfoafkdaa.Tape Go.Proofs.Ytaknnkcfoafkdaa.DriveM
set_option linter.unusedVariables false

theorem make_func : ∀ (fn : Fn) (first cap : Array Value) (w : World), (Instr.makeFunc fn first cap).run Try.prog w = .ok (.func fn first cap) w := fun _ _ _ _ => rfl
set_option maxRecDepth 100000 in
theorem of_c (B : Option Addr) (l d : Nat) (w : World) :
    Calls Try.prog 38 #[.slice B l d, .func (.func 39) #[] #[]] w fun e w' => ∃ b1 b2, e = .returned (.func (.func 56) #[] #[.pointer (some ⟨b1, 0, none⟩), .pointer (some ⟨b2, 0, none⟩)]) ∧ w'.cell? ⟨b1, 0, none⟩ = some (.func (.func 39) #[] #[]) ∧ w'.cell? ⟨b2, 0, none⟩ = some (.slice B l d) ∧ Stp w w' := by
  have hmf := make_func
  have H := Lib.hid (Stp.alloc (Stp.alloc (Stp.refl w) (.cells #[.slice B l d] 25)) (.cells #[.func (.func 39) #[] #[]] 59))
  have b0 := (Blk.new w 25 #[.slice B l d]).alloc (.cells #[.func (.func 39) #[] #[]] 59)
  have b1 := Blk.new (w.alloc (.cells #[.slice B l d] 25)) 59 #[.func (.func 39) #[] #[]]
  rw [World.size_alloc] at b1
  have B0 := Lib.hid b0
  have B1 := Lib.hid b1
  clear b0 b1
  go_enter Try.func38, Try.ntmps38
  go_wp2_with fail
  go_ret
  exact ⟨_, _, rfl, by rw [B1.out.cell]; rfl, by rw [B0.out.cell]; rfl, H.out⟩
set_option maxRecDepth 100000 in
set_option maxHeartbeats 2000000 in
theorem of1_m (b1 b2 g l d : Nat) (B : Option Addr) (ei : Int) (R : World → Prop) (w : World) (C : Calls Try.prog 39 #[.pointer (some ⟨g, 0, none⟩), .slice B l d] w fun e w' => e = .returned (.int .i64 ei) ∧ R w')
    (h1 : w.cell? ⟨b1, 0, none⟩ = some (.func (.func 39) #[] #[])) (h2 : w.cell? ⟨b2, 0, none⟩ = some (.slice B l d)) :
    Calls Try.prog 56 #[.pointer (some ⟨g, 0, none⟩), .pointer (some ⟨b1, 0, none⟩), .pointer (some ⟨b2, 0, none⟩)] w fun e w' => e = .returned (.int .i64 ei) ∧ R w' := by
  have HC := Lib.hid C
  clear C
  go_enter Try.func56, Try.ntmps56
  go_wp2_with (go_at_call 39; refine HC.out.mono ?_; rintro e w1 ⟨rfl, hs⟩; have X := Lib.hid hs; clear hs)
  go_ret
  exact ⟨rfl, X.out⟩

/-- The call's end: the drive is laid at its result. -/
theorem osh_at {w w2 : World} {lo n k n0 k0 rb : Nat} {A A0 : Option Addr} {i p i0 p0 : Int} {ts : List Tp} (hb : Blk w2 rb 24 (dcs A0 n0 k0 i0 p0)) (hs : Stp w w2) (ho : Osh lo w2 A k ts) (hr : w.heap.size ≤ rb) (hlo : rb + 1 ≤ lo) :
    Blk (fillD w2 rb A n k i p) rb 24 (dcs A n k i p) ∧ Osh w.heap.size (fillD w2 rb A n k i p) A k ts ∧ Stp w (fillD w2 rb A n k i p) := by
  have h2 : Osh w.heap.size (fillD w2 rb A n k i p) A k ts := by
    rcases ho with rfl | ⟨b, cur, S, rfl, hb2, hS, h⟩
    · exact .inl rfl
    · refine .inr ⟨b, cur, S, rfl, by omega, fun x hx => by have := hS x hx; omega, h.abv (Abv.of_grown (filld_grown w2 rb _ n k i p) ?_)⟩
      rintro (hx | hx)
      · have := hS _ hx; omega
      · omega
  exact ⟨filld_blk A n k i p hb, h2, filld_stp A n k i p hs hr⟩
theorem osh_end {w w2 : World} {lo n k n0 k0 : Nat} {A A0 : Option Addr} {i p i0 p0 : Int} {ts : List Tp} (hb : Blk w2 (w.heap.size + 1) 24 (dcs A0 n0 k0 i0 p0)) (hs : Stp w w2) (ho : Osh lo w2 A k ts) (hlo : w.heap.size + 2 ≤ lo) :
    Blk (fillD w2 (w.heap.size + 1) A n k i p) (w.heap.size + 1) 24 (dcs A n k i p) ∧ RdS (fillD w2 (w.heap.size + 1) A n k i p) A k ts ∧ Stp w (fillD w2 (w.heap.size + 1) A n k i p) ∧ ∀ g, g < w.heap.size → ClearS g (fillD w2 (w.heap.size + 1) A n k i p) A k ts := by
  obtain ⟨h1, h2, h3⟩ := osh_at (n := n) (i := i) (p := p) hb hs ho (by omega) hlo
  exact ⟨h1, h2.rd, h3, fun g hg => h2.clear hg⟩
theorem stp_none {w w' : World} (h : w.grownBy w' none) : Stp w w' := fresh_stp h

set_option maxRecDepth 100000 in
set_option maxHeartbeats 2000000 in
theorem drewind_o (ts : List Tp) (i p : Int) (n : Nat) (hf : FewD ⟨ts, i, p⟩) (hn : ts.length = n)
    (ts' : List Tp) (i' p' : Int) (n' e0 : Nat) (hv : rewindD ⟨ts, i, p⟩ = (⟨ts', i', p'⟩, e0)) (hn' : ts'.length = n') (ei : Int) (he : (e0 : Int) = ei) (A : Option Addr) (k : Nat) (w : World) (ha : RdS w A k ts) :
    Calls Try.prog 15 #[dc A n k i p] w fun e w' => ∃ A' k', e = .returned (.tuple #[dc A' n' k' i' p', .int .i64 ei]) ∧ Osh w.heap.size w' A' k' ts' ∧ Stp w w' := by
  obtain ⟨b0, b1, hst0⟩ := two_dblks w A n k i p
  have hsz : w.heap.size + 2 = ((w.alloc (.cells (dcs A n k i p) 24)).alloc (.cells (dcs none 0 0 0 0) 24)).heap.size := by rw [World.size_alloc, World.size_alloc]
  have SZ := Lib.hid hsz
  obtain ⟨⟨q0, q1, q2⟩, -, -, -⟩ := dd_all b0
  have B1 := Lib.hid b1
  have H0 := Lib.hid hst0
  have Ha := Lib.hid (ha.keep hst0)
  clear b0 b1 hst0 hsz ha
  have C : Hid (Calls Try.prog 36 #[dc A n k i p, .func (.func 37) #[] #[]] ((w.alloc (.cells (dcs A n k i p) 24)).alloc (.cells (dcs none 0 0 0 0) 24)) fun e w' => ∃ A' k', e = .returned (.tuple #[dc A' n' k' i' p', .int .i64 ei]) ∧ Osh (w.heap.size + 2) w' A' k' ts' ∧ Stp ((w.alloc (.cells (dcs A n k i p) 24)).alloc (.cells (dcs none 0 0 0 0) 24)) w') := Lib.hid (by
    rw [SZ.out]
    by_cases hw : whyD ⟨ts, i, p⟩ = 0
    · obtain ⟨hm, hi⟩ := whyD_ok hw
      obtain ⟨j, pp, t, e1, e2, e3, -⟩ := mounted hm hi
      rw [rewindD, if_neg (by simpa using hw)] at hv
      cases hv
      subst hn' he
      refine (change_yes 37 #[] (enters_of Try.func37 (by kernel_rfl) rfl) ts i p n j pp t hm hn e1 e2 e3 t.cap t.rows t.mark t.rows.length 0 0 rfl none (fun _ _ => True) (fun _ => True) A k _ Ha.out (by simp) ?_ (fun _ _ _ _ _ _ => trivial)).mono ?_
      · intro wx g S A1 k1 hs hg hS hlo hup hb hr
        exact (rewind_m g S hS t.cap t.rows t.mark t.rows.length p A1 k1 wx hb hr).mono fun e w3 ⟨h1, h2⟩ => ⟨h1, h2, trivial⟩
      · rintro e w3 ⟨A', k', rfl, ho, hg, -⟩
        have hset : ts.set j ⟨t.cap, t.rows, t.mark⟩ = ts := by
          refine List.ext_getElem? fun q => ?_
          by_cases h : j = q
          · subst h
            rw [List.getElem?_set_self (List.getElem?_eq_some_iff.1 e3).1, e3]
          · rw [List.getElem?_set_ne h]
        rw [hset] at ho
        exact ⟨A', k', by rw [hn]; rfl, ho, stp_none hg⟩
    · rw [rewindD, if_pos (by simpa using hw)] at hv
      cases hv
      subst hn'
      refine (change_no _ ts i p n hf hn _ rfl hw ei he A k _ Ha.out).mono ?_
      rintro e w3 ⟨A', k', rfl, ho, hs⟩
      exact ⟨A', k', by rw [hn], ho, hs⟩)
  clear hf hn hv hn' he
  go_enter Try.func15, Try.ntmps15
  go_wp2_with (go_at_call 36; refine C.out.mono ?_; rintro e w1 ⟨A1, k1, rfl, ho, hs⟩; have B1' := Lib.hid (B1.out.keep hs B1.out.lt); have X := Lib.hid (osh_at (rb := w.heap.size + 1) (n := n') (i := i') (p := p') B1'.out (Stp.trans H0.out hs) ho (Nat.le_succ _) (Nat.le_refl _)); obtain ⟨⟨r0, r1, r2⟩, s0, s1, s2⟩ := dd_all B1'.out; clear ho hs q0 q1 q2)
  have hX := X.out
  clear X
  change bodyPost _ _ _ _ _ (fillD w1 (w.heap.size + 1) A1 n' k1 i' p')
  generalize fillD w1 (w.heap.size + 1) A1 n' k1 i' p' = WW at hX ⊢
  obtain ⟨x0, x1, x2⟩ := hX
  clear r0 r1 r2 s0 s1 s2
  obtain ⟨⟨q0, q1, q2⟩, -, -, -⟩ := dd_all x0
  refine bodyPost_ret (v := .tuple #[dc A1 n' k1 i' p', .int .i64 ei]) (by simp [results, Try.results15, go_sem, *]) rfl ⟨A1, k1, rfl, x1, x2⟩
theorem drewind_s (ts : List Tp) (i p : Int) (n : Nat) (hf : FewD ⟨ts, i, p⟩) (hn : ts.length = n)
    (ts' : List Tp) (i' p' : Int) (n' e0 : Nat) (hv : rewindD ⟨ts, i, p⟩ = (⟨ts', i', p'⟩, e0)) (hn' : ts'.length = n') (ei : Int) (he : (e0 : Int) = ei) (A : Option Addr) (k : Nat) (w : World) (ha : RdS w A k ts) :
    Calls Try.prog 15 #[dc A n k i p] w fun e w' => ∃ A' k', e = .returned (.tuple #[dc A' n' k' i' p', .int .i64 ei]) ∧ RdS w' A' k' ts' ∧ Stp w w' ∧ ∀ g, g < w.heap.size → ClearS g w A k ts → ClearS g w' A' k' ts' :=
  (drewind_o ts i p n hf hn ts' i' p' n' e0 hv hn' ei he A k w ha).mono fun e w' ⟨A', k', h1, h2, h3⟩ => ⟨A', k', h1, h2.rd, h3, fun g hg _ => h2.clear hg⟩
end Go.Proofs.Ytaknnkcfoafkdaa.Drive
