/-
  Package drive: Read, and the closure that leaves what was read: their contracts; no statement is proved here.
-/
import Derived.Test.YtaknnkcfoafkdaaDriveU
namespace Go.Proofs.Ytaknnkcfoafkdaa.Drive
open Go.RowKit Go.Proofs.Ytaknnkcfoafkdaa.Str Go.Proofs.Ytaknnkcfoafkdaa.Base Go.Proofs.Ytaknnkcfoafkdaa.BlockM Go.Proofs.Ytaknnkcfoafkdaa.RecM Go.Proofs.Ytaknnkcfoafkdaa.TapeM Go.Proofs.Ytaknnkcfoafkdaa.Tape Go.Proofs.Ytaknnkcfoafkdaa.DriveM
set_option linter.unusedVariables false

set_option maxRecDepth 100000 in
theorem into_c (q : Nat) (w : World) :
    Calls Try.prog 45 #[.pointer (some ⟨q, 0, none⟩), .func (.func 46) #[] #[]] w fun e w' => ∃ b1 b2, e = .returned (.func (.func 61) #[] #[.pointer (some ⟨b1, 0, none⟩), .pointer (some ⟨b2, 0, none⟩)]) ∧ w'.cell? ⟨b1, 0, none⟩ = some (.func (.func 46) #[] #[]) ∧ w'.cell? ⟨b2, 0, none⟩ = some (.pointer (some ⟨q, 0, none⟩)) ∧ Stp w w' ∧ w.heap.size ≤ b1 ∧ w.heap.size ≤ b2 := by
  have hmf := make_func
  have H := Lib.hid (Stp.alloc (Stp.alloc (Stp.refl w) (.cells #[.pointer (some ⟨q, 0, none⟩)] 67)) (.cells #[.func (.func 46) #[] #[]] 68))
  have b0 := (Blk.new w 67 #[.pointer (some ⟨q, 0, none⟩)]).alloc (.cells #[.func (.func 46) #[] #[]] 68)
  have b1 := Blk.new (w.alloc (.cells #[.pointer (some ⟨q, 0, none⟩)] 67)) 68 #[.func (.func 46) #[] #[]]
  rw [World.size_alloc] at b1
  have B0 := Lib.hid b0
  have B1 := Lib.hid b1
  clear b0 b1
  go_enter Try.func45, Try.ntmps45
  go_wp2_with fail
  go_ret
  exact ⟨_, _, rfl, by rw [B1.out.cell]; rfl, by rw [B0.out.cell]; rfl, H.out, by omega, by omega⟩

theorem wr_row {w w2 : World} {g q : Nat} (h : Wr g none w.drew w2) (v : Value) : Wr g (some q) w (w2.setCell ⟨q, 0, none⟩ v) :=
  ⟨h.os, h.tape, h.output, Nat.le_trans h.size (by simp [World.setCell]), fun j hj hn hv => (Below.heap_setCell _ _ _ _ (fun e => hv (by rw [show j = q from e]))).trans (h.block j hj hn (by simp))⟩
set_option maxRecDepth 100000 in
set_option maxHeartbeats 2000000 in
theorem into1_m (b1 b2 q g : Nat) (S : Nat → Prop) (hg : ¬ S g) (hq : ¬ S q) (hqg : q ≠ g) (hb1 : b1 ≠ g) (hb2 : b2 ≠ g) (c : Int) (ls : List L) (m : Bool) (n : Nat) (hf : FewT ⟨c, ls, m⟩) (hn : ls.length = n) (pp : Nat) (hp : pp ≤ n) (x : L) (y e0 : Nat) (hv : readV ⟨c, ls, m⟩ (pp : Int) = (x, e0)) (hy : x.length = y) (ei : Int) (he : (e0 : Int) = ei) (p' : Int) (hp' : p' = if e0 = 0 then (pp : Int) + 1 else (pp : Int))
    (A : Option Addr) (k : Nat) (w : World) (hb : Blk w g 77 (mcs c A n k m (pp : Int))) (ha : InS S w A k ls) (h1 : w.cell? ⟨b1, 0, none⟩ = some (.func (.func 46) #[] #[])) (h2 : w.cell? ⟨b2, 0, none⟩ = some (.pointer (some ⟨q, 0, none⟩))) (h3 : Blk w q 25 #[.slice none 0 0]) :
    Calls Try.prog 61 #[.pointer (some ⟨g, 0, none⟩), .pointer (some ⟨b1, 0, none⟩), .pointer (some ⟨b2, 0, none⟩)] w fun e w' => e = .returned (.int .i64 ei) ∧ Done S g (some q) w c ls m n p' w' ∧ ∃ B d, Blk w' q 25 #[.slice B y d] ∧ InB (From w.heap.size) w' B d (bs x) := by
  have C := Lib.hid (read_m g S hg c ls m n hf hn pp hp x y e0 hv hy ei he p' hp' A k w.drew (Blk.drew hb) (ha.keep (Stp.drewN (Stp.refl w) 1)))
  have Hq := Lib.hid h3
  have Z := Lib.hid (show w.drew.heap.size = w.heap.size from rfl)
  have hl1 := World.block_lt_of_cell? w _ h1
  have hl2 := World.block_lt_of_cell? w _ h2
  have q1 : w.drew.cell? _ = _ := h1
  have q2 : w.drew.cell? _ = _ := h2
  clear hf hn hv hy he hp' hb ha
  go_enter Try.func61, Try.ntmps61
  go_upto_region 1 with fail
  go_region_law (go_simp; go_at_call 46; (with_reducible refine C.out.mono ?_); rintro e w2 ⟨B, d, rfl, hB, A2, k2, hb2', hr2, hw2⟩; have HB := Lib.hid hB; have HR := Lib.hid hr2; have HM := Lib.hid hb2'; have HW := Lib.hid hw2; have BQ := Lib.hid (show Blk w2 q 25 #[.slice none 0 0] from (hw2.block q (Nat.lt_of_lt_of_le Hq.out.lt (Nat.le_of_eq Z.out.symm)) hqg (by simp)).trans (Blk.drew Hq.out)); have r1 : w2.cell? ⟨b1, 0, none⟩ = _ := (World.cell?_of_block (a := ⟨b1, 0, none⟩) (hw2.block b1 (Nat.lt_of_lt_of_le hl1 (Nat.le_of_eq Z.out.symm)) hb1 (by simp))).trans q1; have r2 : w2.cell? ⟨b2, 0, none⟩ = _ := (World.cell?_of_block (a := ⟨b2, 0, none⟩) (hw2.block b2 (Nat.lt_of_lt_of_le hl2 (Nat.le_of_eq Z.out.symm)) hb2 (by simp))).trans q2; have r3 : w2.cell? ⟨q, 0, none⟩ = some (.slice none 0 0) := (by rw [BQ.out.cell]; rfl); have r4 := BQ.out.free 0; clear hB hr2 hb2' hw2)
  all_goals
    go_wp2_with fail
    go_ret
    refine ⟨rfl, ⟨A2, k2, HM.out.far (p := ⟨q, 0, none⟩) (Ne.symm hqg) _, HR.out.abv (Abv.put _ hq _ _), wr_row HW.out (.slice B y d)⟩, B, d, BQ.out.put 0 _, HB.out.abv (Abv.put _ ?_ _ _)⟩
    show ¬ w.heap.size ≤ q
    have := Hq.out.lt
    omega

/-- Behind the call that reads: the drive in a block of its own, what was read, the result's block. -/
structure RdEnd (w wx : World) (nb : Nat) (A : Option Addr) (n k : Nat) (i p : Int) (ts : List Tp) (y : Nat) (x : L) : Prop where
  blkn : Blk wx nb 24 (dcs A n k i p)
  lo : w.heap.size + 3 ≤ nb
  osh : Osh (w.heap.size + 3) wx A k ts
  stp : Stp w wx
  res : Blk wx (w.heap.size + 1) 24 (dcs none 0 0 0 0)
  got : ∃ B d, Blk wx (w.heap.size + 2) 25 #[.slice B y d] ∧ InB (From (w.heap.size + 3)) wx B d (bs x)
section
variable {w W2 w3 : World} {A : Option Addr} {n k y : Nat} {i p : Int} {ts : List Tp} {x : L}
theorem Osh.less {lo lo' : Nat} (h : Osh lo w A k ts) (hl : lo' ≤ lo) : Osh lo' w A k ts := by
  rcases h with rfl | ⟨b, cur, S, rfl, hb, hS, h⟩
  · exact .inl rfl
  · exact .inr ⟨b, cur, S, rfl, by omega, fun z hz => by have := hS z hz; omega, h⟩
theorem back_stp (hs : Stp w W2) (hg : W2.grownBy w3 (some (w.heap.size + 2))) : Stp w w3 :=
  ⟨hg.os.trans hs.os, hg.tape.trans hs.tape, hg.output.trans hs.output, Nat.le_trans hs.size hg.size, fun j hj => (hg.block j (Nat.lt_of_lt_of_le hj hs.size) (by simp; omega)).trans (hs.block j hj)⟩
theorem re_alloc (hs : Stp w W2) (hz : w.heap.size + 3 ≤ W2.heap.size) (hr : Blk W2 (w.heap.size + 1) 24 (dcs none 0 0 0 0)) (ho : Osh W2.heap.size w3 A k ts) (hg : W2.grownBy w3 (some (w.heap.size + 2)))
    (hq : ∃ B d, Blk w3 (w.heap.size + 2) 25 #[.slice B y d] ∧ InB (From W2.heap.size) w3 B d (bs x)) : RdEnd w (w3.alloc (.cells (dcs A n k i p) 24)) w3.heap.size A n k i p ts y x := by
  have ha : Stp w3 (w3.alloc (.cells (dcs A n k i p) 24)) := Stp.alloc (Stp.refl w3) _
  obtain ⟨B, d, h1, h2⟩ := hq
  exact ⟨Blk.new w3 _ _, Nat.le_trans hz hg.size, (ho.keep ha).less hz, Stp.trans (back_stp hs hg) ha, ((hr.grown hg (by simp)).alloc _), B, d, h1.alloc _, (h2.keep ha).less fun z _ (hh : W2.heap.size ≤ z) => Nat.le_trans hz hh⟩
theorem re_fill {nb : Nat} (hs : Stp w W2) (hz : w.heap.size + 3 ≤ W2.heap.size) (hr : Blk W2 (w.heap.size + 1) 24 (dcs none 0 0 0 0)) (hN : Blk W2 nb 24 (dcs none 0 0 0 0)) (hnb : w.heap.size + 3 ≤ nb) (ho : Osh W2.heap.size w3 A k ts) (hg : W2.grownBy w3 (some (w.heap.size + 2)))
    (hq : ∃ B d, Blk w3 (w.heap.size + 2) 25 #[.slice B y d] ∧ InB (From W2.heap.size) w3 B d (bs x)) : Blk w3 nb 24 (dcs none 0 0 0 0) ∧ RdEnd w (fillD w3 nb A n k i p) nb A n k i p ts y x := by
  have hN3 : Blk w3 nb 24 (dcs none 0 0 0 0) := hN.grown hg (by simp; omega)
  have hfg := filld_grown w3 nb A n k i p
  have hlt := hN.lt
  obtain ⟨B, d, h1, h2⟩ := hq
  refine ⟨hN3, filld_blk A n k i p hN3, hnb, ?_, filld_stp A n k i p (back_stp hs hg) (by omega), (hr.grown hg (by simp)).grown hfg (by simp; omega), B, d, h1.grown hfg (by simp; omega), (h2.abv (Abv.of_grown hfg (by show ¬ W2.heap.size ≤ nb; omega))).less fun z _ (hh : W2.heap.size ≤ z) => Nat.le_trans hz hh⟩
  rcases ho with rfl | ⟨b, cur, S, rfl, hb, hS, h⟩
  · exact .inl rfl
  · refine .inr ⟨b, cur, S, rfl, by omega, fun z hzz => by have := hS z hzz; omega, h.abv (Abv.of_grown hfg ?_)⟩
    rintro (hh | hh)
    · have := hS _ hh; omega
    · omega
end

set_option maxRecDepth 100000 in
set_option maxHeartbeats 4000000 in
theorem dread_s (ts : List Tp) (i p : Int) (n : Nat) (hf : FewD ⟨ts, i, p⟩) (hn : ts.length = n)
    (ts' : List Tp) (i' p' : Int) (x : L) (n' y e0 : Nat) (hv : readD ⟨ts, i, p⟩ = (⟨ts', i', p'⟩, x, e0)) (hn' : ts'.length = n') (hy : x.length = y) (ei : Int) (he : (e0 : Int) = ei) (A : Option Addr) (k : Nat) (w : World) (ha : RdS w A k ts) :
    Calls Try.prog 21 #[dc A n k i p] w fun e w' => ∃ A' k' B d, e = .returned (.tuple #[dc A' n' k' i' p', .slice B y d, .int .i64 ei]) ∧ RdS w' A' k' ts' ∧ RdA w' B d (bs x) ∧ Stp w w' ∧ ∀ g, g < w.heap.size → ClearS g w A k ts → ClearS g w' A' k' ts' ∧ ClearA g w' B d (bs x) := by
  obtain ⟨b0, b1, hst0⟩ := two_dblks w A n k i p
  have hsz : w.heap.size + 2 = ((w.alloc (.cells (dcs A n k i p) 24)).alloc (.cells (dcs none 0 0 0 0) 24)).heap.size := by rw [World.size_alloc, World.size_alloc]
  have B0 := Lib.hid (b0.alloc (.cells #[.slice none 0 0] 25))
  have B1 := Lib.hid (b1.alloc (.cells #[.slice none 0 0] 25))
  have H0 := Lib.hid (Stp.alloc hst0 (.cells #[.slice none 0 0] 25))
  have hbq := Blk.new ((w.alloc (.cells (dcs A n k i p) 24)).alloc (.cells (dcs none 0 0 0 0) 24)) 25 #[.slice none 0 0]
  rw [← hsz] at hbq
  have BQ := Lib.hid hbq
  have Ha := Lib.hid (ha.keep H0.out)
  have SZ := Lib.hid (show w.heap.size + 3 = (((w.alloc (.cells (dcs A n k i p) 24)).alloc (.cells (dcs none 0 0 0 0) 24)).alloc (.cells #[.slice none 0 0] 25)).heap.size by rw [World.size_alloc, ← hsz])
  clear b0 b1 hst0 hsz ha hbq
  have C : Hid (∀ (W2 : World) (b1 b2 : Nat), Stp (((w.alloc (.cells (dcs A n k i p) 24)).alloc (.cells (dcs none 0 0 0 0) 24)).alloc (.cells #[.slice none 0 0] 25)) W2 → W2.cell? ⟨b1, 0, none⟩ = some (.func (.func 46) #[] #[]) → W2.cell? ⟨b2, 0, none⟩ = some (.pointer (some ⟨w.heap.size + 2, 0, none⟩)) →
      Calls Try.prog 36 #[dc A n k i p, .func (.func 61) #[] #[.pointer (some ⟨b1, 0, none⟩), .pointer (some ⟨b2, 0, none⟩)]] W2 fun e w' => ∃ A' k', e = .returned (.tuple #[dc A' n' k' i' p', .int .i64 ei]) ∧ Osh W2.heap.size w' A' k' ts' ∧ W2.grownBy w' (some (w.heap.size + 2)) ∧ ∃ B d, Blk w' (w.heap.size + 2) 25 #[.slice B y d] ∧ InB (From W2.heap.size) w' B d (bs x)) := Lib.hid (by
    intro W2 b1 b2 hs0 hc1 hc2
    have hl1 := World.block_lt_of_cell? W2 _ hc1
    have hlq := World.block_lt_of_cell? W2 _ hc2
    dsimp only at hl1 hlq
    have hbq2 := BQ.out.keep hs0 BQ.out.lt
    have hq2 : w.heap.size + 2 < W2.heap.size := hbq2.lt
    by_cases hw : whyD ⟨ts, i, p⟩ = 0
    · obtain ⟨hm, hi⟩ := whyD_ok hw
      obtain ⟨j, pp, t, e1, e2, e3, e4, e5, e6, -⟩ := mounted hm hi
      dsimp only at e1 e2 e3
      obtain ⟨⟨xr, er⟩, hr⟩ : ∃ u, readV t (pp : Int) = u := ⟨_, rfl⟩
      have hv2 : ts' = ts ∧ i' = i ∧ p' = (if er = 0 then (pp : Int) + 1 else (pp : Int)) ∧ x = xr ∧ e0 = er := by
        rw [readD, if_neg (by simpa using hw), e4] at hv
        dsimp only at hv
        rw [e2, hr] at hv
        dsimp only at hv
        by_cases h7 : er = 0
        · rw [if_neg (by simpa using h7)] at hv
          cases hv
          exact ⟨rfl, rfl, by rw [if_pos h7], rfl, h7.symm⟩
        · rw [if_pos (by simpa using h7)] at hv
          cases hv
          refine ⟨rfl, rfl, by rw [if_neg h7], ?_, rfl⟩
          rw [readV] at hr
          split at hr
          · cases hr; rfl
          · split at hr
            · cases hr; rfl
            · split at hr
              · cases hr; rfl
              · cases hr
                exact absurd rfl h7
      obtain ⟨rfl, rfl, rfl, rfl, rfl⟩ := hv2
      subst e1 e2
      obtain rfl : n' = n := by rw [← hn', hn]
      refine (change_yes 61 #[.pointer (some ⟨b1, 0, none⟩), .pointer (some ⟨b2, 0, none⟩)] (enters_of Try.func61 (by kernel_rfl) rfl) _ (j : Int) (pp : Int) _ j pp t hm hn rfl rfl e3 t.cap t.rows t.mark t.rows.length (if e0 = 0 then (pp : Int) + 1 else (pp : Int)) ei rfl (some (w.heap.size + 2))
        (fun wx w3 => ∃ B d, Blk w3 (w.heap.size + 2) 25 #[.slice B y d] ∧ InB (From wx.heap.size) w3 B d (bs x)) (fun w3 => ∃ B d, Blk w3 (w.heap.size + 2) 25 #[.slice B y d] ∧ InB (From W2.heap.size) w3 B d (bs x)) A k _ (Ha.out.keep hs0) (fun z hz => by injection hz with hz; omega) ?_ ?_).mono ?_
      · intro wx g S A1 k1 hs hg hS hlo hup hb hr1
        exact into1_m b1 b2 (w.heap.size + 2) g S hS (fun h => by have := hup _ h; omega) (by omega) (by omega) (by omega) t.cap t.rows t.mark t.rows.length (hf.each t (List.mem_of_getElem? e3)) rfl pp e6 x y e0 hr hy ei he _ rfl A1 k1 wx hb hr1 ((hs.cell (p := ⟨b1, 0, none⟩) hl1).trans hc1) ((hs.cell (p := ⟨b2, 0, none⟩) hlq).trans hc2) (hbq2.keep hs hbq2.lt)
      · rintro wx w3 X hs ⟨B, d, h1, h2⟩ h3
        exact ⟨B, d, (h3.block _ (.inl hq2) h1.lt).trans h1, (h2.abv (Abv.less h3 fun z _ hz => .inr hz)).less fun z _ (hz : wx.heap.size ≤ z) => Nat.le_trans hs.size hz⟩
      · rintro e w3 ⟨A', k', rfl, ho, hg, hP⟩
        rw [set_same e3] at ho
        exact ⟨A', k', rfl, ho, hg, hP⟩
    · rw [readD, if_pos (by simpa using hw)] at hv
      cases hv
      subst hn'
      obtain rfl : y = 0 := by rw [← hy]; rfl
      refine (change_no _ ts i p n hf hn _ rfl hw ei he A k _ (Ha.out.keep hs0)).mono ?_
      rintro e w3 ⟨A', k', rfl, ho, hs⟩
      refine ⟨A', k', by rw [hn], ho, ⟨hs.os, hs.tape, hs.output, hs.size, fun z hz _ => hs.block z hz⟩, none, 0, hbq2.keep hs hbq2.lt, fun w4 _ => RdA.nil w4⟩)
  clear hf hn hv hn' hy he
  go_enter Try.func21, Try.ntmps21
  go_upto_region 2 with fail
  generalize (((w.alloc (.cells (dcs A n k i p) 24)).alloc (.cells (dcs none 0 0 0 0) 24)).alloc (.cells #[.slice none 0 0] 25)) = X0 at B0 B1 H0 BQ Ha SZ C ⊢
  go_cut [6, 7] from 8 (fun s6 s7 wx => ∃ nb A1 k1, s6 = .pointer (some ⟨nb, 0, none⟩) ∧ s7 = .int .i64 ei ∧ Hid (RdEnd w wx nb A1 n' k1 i' p' ts' y x))
  case first =>
    have Z0 : Hid (w.heap.size + 3 ≤ X0.drew.heap.size) := Lib.hid (Nat.le_of_eq SZ.out)
    have Xa := Lib.hid (show Stp X0 X0.drew from Stp.drewN (Stp.refl X0) 1)
    have Xb := Lib.hid (show Stp X0 (X0.alloc (.cells (dcs none 0 0 0 0) 24)).drew from Stp.drewN (Stp.alloc (Stp.refl X0) _) 1)
    have Nb := Lib.hid (Blk.drew (Blk.new X0 24 (dcs none 0 0 0 0)))
    obtain ⟨⟨q0, q1, q2⟩, -, -, -⟩ := dd_all (Blk.drew B0.out)
    obtain ⟨⟨q3, q4, q5⟩, -, -, -⟩ := dd_all (B0.out.alloc (.cells (dcs none 0 0 0 0) 24))
    go_region_law (first
      | (go_simp; go_at_call 45; (with_reducible refine (into_c _ X0.drew).mono ?_); rintro e w2 ⟨b1, b2, rfl, hc1, hc2, hs, -, -⟩; have N2 : Hid (0 = 0) := Lib.hid rfl; have C1 := Lib.hid hc1; have C2 := Lib.hid hc2; have H2 := Lib.hid (Stp.trans Xa.out hs); have B02 := Lib.hid (B0.out.keep H2.out B0.out.lt); have B12 := Lib.hid (B1.out.keep H2.out B1.out.lt); have Za := Lib.hid (Nat.le_trans (Nat.le_of_eq SZ.out) H2.out.size); have Hal := Lib.hid (Stp.alloc (Stp.refl w2) (.cells (dcs none 0 0 0 0) 24)); have B12a := Lib.hid (B12.out.alloc (.cells (dcs none 0 0 0 0) 24)); have N2a := Lib.hid (Blk.new w2 24 (dcs none 0 0 0 0)); have C1a := Lib.hid ((Hal.out.cell (p := ⟨b1, 0, none⟩) (World.block_lt_of_cell? w2 _ hc1)).trans hc1); have C2a := Lib.hid ((Hal.out.cell (p := ⟨b2, 0, none⟩) (World.block_lt_of_cell? w2 _ hc2)).trans hc2); clear hc1 hc2 hs; obtain ⟨⟨r0, r1, r2⟩, -, -, -⟩ := dd_all B02.out; obtain ⟨⟨r3, r4, r5⟩, -, -, -⟩ := dd_all (B02.out.alloc (.cells (dcs none 0 0 0 0) 24)))
      | (go_simp; go_at_call 45; (with_reducible refine (into_c _ (X0.alloc (.cells (dcs none 0 0 0 0) 24)).drew).mono ?_); rintro e w2 ⟨b1, b2, rfl, hc1, hc2, hs, -, -⟩; have N2 := Lib.hid (Nb.out.keep hs Nb.out.lt); have C1 := Lib.hid hc1; have C2 := Lib.hid hc2; have H2 := Lib.hid (Stp.trans Xb.out hs); have B02 := Lib.hid (B0.out.keep H2.out B0.out.lt); have B12 := Lib.hid (B1.out.keep H2.out B1.out.lt); have Za := Lib.hid (Nat.le_trans (Nat.le_of_eq SZ.out) H2.out.size); clear hc1 hc2 hs; obtain ⟨⟨r0, r1, r2⟩, -, -, -⟩ := dd_all B02.out)
      | (go_simp; go_at_call 36; (with_reducible refine (C.out w2 b1 b2 H2.out C1.out C2.out).mono ?_); rintro e w3 ⟨A1, k1, rfl, ho, hg, hq⟩; have F := Lib.hid (re_fill (n := n') (i := i') (p := p') (Stp.trans H0.out H2.out) Za.out B12.out N2.out (Nat.le_of_eq SZ.out) ho hg hq); clear ho hg hq; obtain ⟨⟨u0, u1, u2⟩, v0, v1, v2⟩ := dd_all F.out.1)
      | (go_simp; go_at_call 36; (with_reducible refine (C.out w2 b1 b2 H2.out C1.out C2.out).mono ?_); rintro e w3 ⟨A1, k1, rfl, ho, hg, hq⟩; have F := Lib.hid (And.intro True.intro (re_alloc (n := n') (i := i') (p := p') (Stp.trans H0.out H2.out) Za.out B12.out ho hg hq)); clear ho hg hq)
      | (go_simp; go_at_call 36; (with_reducible refine (C.out (w2.alloc (.cells (dcs none 0 0 0 0) 24)) b1 b2 (Stp.trans H2.out Hal.out) C1a.out C2a.out).mono ?_); rintro e w3 ⟨A1, k1, rfl, ho, hg, hq⟩; have F := Lib.hid (re_fill (n := n') (i := i') (p := p') (Stp.trans H0.out (Stp.trans H2.out Hal.out)) (Nat.le_trans Za.out Hal.out.size) B12a.out N2a.out Za.out ho hg hq); clear ho hg hq; obtain ⟨⟨u0, u1, u2⟩, v0, v1, v2⟩ := dd_all F.out.1))
    all_goals
      go_wp2_with fail
      go_meet
      with_reducible exact ⟨_, A1, k1, rfl, rfl, Lib.hid F.out.2⟩
  case rest =>
    obtain ⟨nb, A1, k1, rfl, rfl, HE⟩ := hcut
    obtain ⟨Br, dr, hQ, hI⟩ := HE.out.got
    obtain ⟨⟨q0, q1, q2⟩, -, -, -⟩ := dd_all HE.out.blkn
    obtain ⟨⟨q3, q4, q5⟩, -, -, -⟩ := dd_all (Blk.drew HE.out.blkn)
    obtain ⟨⟨r0, r1, r2⟩, s0, s1, s2⟩ := dd_all HE.out.res
    obtain ⟨⟨r3, r4, r5⟩, s3, s4, s5⟩ := dd_all (Blk.drew HE.out.res)
    have f0 : wc.cell? ⟨w.heap.size + 1 + 1, 0, none⟩ = some (.slice Br y dr) := by rw [show w.heap.size + 1 + 1 = w.heap.size + 2 from rfl, hQ.cell]; rfl
    have f1 : wc.drew.cell? ⟨w.heap.size + 1 + 1, 0, none⟩ = some (.slice Br y dr) := f0
    have X := Lib.hid (osh_at (w := w) (rb := w.heap.size + 1) (n := n') (i := i') (p := p') HE.out.res HE.out.stp HE.out.osh (Nat.le_succ _) (by omega))
    have hI2 := hI.abv (Abv.of_grown (filld_grown wc (w.heap.size + 1) A1 n' k1 i' p') (by show ¬ w.heap.size + 3 ≤ w.heap.size + 1; omega))
    have hdr : Stp (fillD wc (w.heap.size + 1) A1 n' k1 i' p') (fillD wc (w.heap.size + 1) A1 n' k1 i' p').drew := Stp.drewN (Stp.refl _) 1
    have Y1 := Lib.hid (hI2.keep hdr)
    have Y2 := Lib.hid (X.out.2.1.keep hdr)
    have Y3 := Lib.hid (Stp.trans X.out.2.2 hdr)
    have Y4 := Lib.hid (Blk.drew X.out.1)
    clear hQ hI hI2 hdr X
    go_upto_region 3 with fail
    go_region
    all_goals
      go_wp2_with fail
      change bodyPost _ _ _ _ _ (fillD wc (w.heap.size + 1) A1 n' k1 i' p').drew
      generalize (fillD wc (w.heap.size + 1) A1 n' k1 i' p').drew = WW at Y1 Y2 Y3 Y4 ⊢
      clear q0 q1 q2 q3 q4 q5 r0 r1 r2 r3 r4 r5 s0 s1 s2 s3 s4 s5 f0 f1
      obtain ⟨⟨q0, q1, q2⟩, -, -, -⟩ := dd_all Y4.out
      refine bodyPost_ret (v := .tuple #[dc A1 n' k1 i' p', .slice Br y dr, .int .i64 ei]) (by simp [results, Try.results21, go_sem, *]) rfl ⟨A1, k1, Br, dr, rfl, Y2.out.rd, Y1.out.rd, Y3.out, fun g hg _ => ⟨Y2.out.clear hg, Y1.out.clear (by show ¬ w.heap.size + 3 ≤ g; omega)⟩⟩

theorem driveI : DriveI :=
  ⟨dnew_s, dmay_s, dsame_s, dmount_s, dunmount_s, drewind_s, dmark_s, dwrite_s, dread_s⟩
end Go.Proofs.Ytaknnkcfoafkdaa.Drive
