/-
  Package drive: what is done to the tape that is mounted, and the closures over it: their contracts; no statement is proved here.
-/
import Derived.Test.YtaknnkcfoafkdaaDriveN
namespace Go.Proofs.Ytaknnkcfoafkdaa.Drive
open Go.RowKit Go.Proofs.Ytaknnkcfoafkdaa.Str Go.Proofs.Ytaknnkcfoafkdaa.Base Go.Proofs.Ytaknnkcfoafkdaa.BlockM Go.Proofs.Ytaknnkcfoafkdaa.RecM Go.Proofs.Ytaknnkcfoafkdaa.TapeM Go.Proofs.Ytaknnkcfoafkdaa.Tape Go.Proofs.Ytaknnkcfoafkdaa.DriveM
set_option linter.unusedVariables false

abbrev putM (w : World) (g : Nat) (c : Int) (A : Option Addr) (n k : Nat) (m : Bool) (p : Int) : World := (((w.setCell ⟨g, 0, none⟩ (.int .i64 c)).setCell ⟨g, 1, none⟩ (.slice A n k)).setCell ⟨g, 2, none⟩ (.bool m)).setCell ⟨g, 3, none⟩ (.int .i64 p)
/-- What is mounted behind what was done to it: of what was there only block g, and vb, have changed. -/
def Done (S : Nat → Prop) (g : Nat) (vb : Option Nat) (w : World) (c : Int) (ls : List L) (m : Bool) (n : Nat) (p : Int) (w' : World) : Prop := ∃ A' k', Blk w' g 77 (mcs c A' n k' m p) ∧ InS S w' A' k' ls ∧ Wr g vb w w'
section
variable {S : Nat → Prop} {w w' w2 : World} {g : Nat} {vb : Option Nat} {c c0 : Int} {ls : List L} {m m0 : Bool} {n n0 k k0 : Nat} {A A0 : Option Addr} {p p0 : Int}
theorem done_same (hs : Stp w w') (hb : Blk w g 77 (mcs c A n k m p)) (hr : InS S w A k ls) : Done S g vb w c ls m n p w' := ⟨A, k, hb.keep hs hb.lt, hr.keep hs, (Wr.refl w).stp hs⟩
theorem done_pos (hs : Stp w w') (hb : Blk w g 77 (mcs c A n k m p)) (hr : InS S w A k ls) (hg : ¬ S g) (q : Int) : Done S g vb w c ls m n q (w'.setCell ⟨g, 3, none⟩ (.int .i64 q)) :=
  ⟨A, k, (hb.keep hs hb.lt).put 3 _, (hr.keep hs).abv (Abv.put _ hg _ _), ((Wr.refl w).stp hs).put 3 _⟩
theorem done_tape (hs : Stp w w') (hb : Blk w g 77 (mcs c0 A0 n0 k0 m0 p)) (hr : InS S w' A k ls) (hg : ¬ S g) : Done S g vb w c ls m n p (fillT w' g c A n k m) :=
  ⟨A, k, (((hb.keep hs hb.lt).put 0 (.int .i64 c)).put 1 (.slice A n k)).put 2 (.bool m), hr.abv (Abv.trans (Abv.put _ hg _ _) (Abv.trans (Abv.put _ hg _ _) (Abv.put _ hg _ _))), ((((Wr.refl w).stp hs).put 0 _).put 1 _).put 2 _⟩
theorem done_all (hs : Stp w w') (hb : Blk w g 77 (mcs c0 A0 n0 k0 m0 p0)) (hr : InS S w' A k ls) (hg : ¬ S g) : Done S g vb w c ls m n p (putM w' g c A n k m p) :=
  ⟨A, k, ((((hb.keep hs hb.lt).put 0 (.int .i64 c)).put 1 (.slice A n k)).put 2 (.bool m)).put 3 (.int .i64 p), hr.abv (Abv.trans (Abv.put _ hg _ _) (Abv.trans (Abv.put _ hg _ _) (Abv.trans (Abv.put _ hg _ _) (Abv.put _ hg _ _)))), (((((Wr.refl w).stp hs).put 0 _).put 1 _).put 2 _).put 3 _⟩
theorem Done.keep (h : Done S g vb w c ls m n p w') (hs : Stp w' w2) : Done S g vb w c ls m n p w2 := by
  obtain ⟨A, k, h1, h2, h3⟩ := h
  exact ⟨A, k, h1.keep hs h1.lt, h2.keep hs, h3.stp hs⟩
end

set_option maxRecDepth 100000 in
theorem rewind_m (g : Nat) (S : Nat → Prop) (hg : ¬ S g) (c : Int) (ls : List L) (m : Bool) (n : Nat) (p : Int) (A : Option Addr) (k : Nat) (w : World) (hb : Blk w g 77 (mcs c A n k m p)) (ha : InS S w A k ls) :
    Calls Try.prog 37 #[.pointer (some ⟨g, 0, none⟩)] w fun e w' => e = .returned (.int .i64 0) ∧ Done S g none w c ls m n 0 w' := by
  obtain ⟨⟨q0, q1, q2, q3⟩, p0, p1, p2, p3⟩ := mm_all hb
  have X := Lib.hid (done_pos (vb := none) (Stp.refl w) hb ha hg 0)
  clear hb ha
  go_enter Try.func37, Try.ntmps37
  go_wp2_with fail
  go_ret
  exact ⟨rfl, X.out⟩

set_option maxRecDepth 100000 in
set_option maxHeartbeats 2000000 in
theorem mark_m (g : Nat) (S : Nat → Prop) (hg : ¬ S g) (c : Int) (ls : List L) (m : Bool) (n : Nat) (hf : FewT ⟨c, ls, m⟩) (hn : ls.length = n) (hm : mayT ⟨c, ls, m⟩ = true) (pp : Nat) (hp : pp ≤ n) (A : Option Addr) (k : Nat) (w : World) (hlo : ∀ b, w.heap.size ≤ b → S b) (hb : Blk w g 77 (mcs c A n k m (pp : Int))) (ha : InS S w A k ls) :
    Calls Try.prog 43 #[.pointer (some ⟨g, 0, none⟩)] w fun e w' => e = .returned (.int .i64 0) ∧ Done S g none w c (ls.take pp) true pp (pp : Int) w' := by
  have hfew := hf.few
  dsimp only at hfew
  rw [hn] at hfew
  have HF := Lib.hid hf
  have Hn := Lib.hid hn
  have Hc := Lib.hid (cutT_yes hm (n := (pp : Int)) (by omega) (by dsimp only; omega))
  have Hc2 : Hid (cutT ⟨c, ls, m⟩ (pp : Int) = (⟨c, ls.take pp, false⟩, 0)) := Lib.hid (by rw [Hc.out, Int.toNat_natCast])
  have Hl : Hid ((ls.take pp).length = pp) := Lib.hid (by rw [List.length_take]; omega)
  have HF2 : Hid (FewT ⟨c, ls.take pp, false⟩) := Lib.hid ⟨hf.low, hf.high, by dsimp only; rw [Hl.out]; omega, fun l hl => hf.each l (List.mem_of_mem_take hl)⟩
  have HCl : Hid (closeV ⟨c, ls.take pp, false⟩ = (⟨c, ls.take pp, true⟩, 0)) := Lib.hid (marks (mayT_take hm pp false) rfl).1
  have Hb := Lib.hid hb
  have Ha := Lib.hid ha
  have Hlo := Lib.hid hlo
  clear hf hn hm Hc hb ha hlo
  go_enter Try.func43, Try.ntmps43
  go_wp2_with (first
    | (go_at_call 58; refine (cut_m g c ls m n HF.out Hn.out (pp : Int) (by omega) (by omega) c (ls.take pp) false pp 0 Hc2.out Hl.out A k _ Hb.out Ha.out.rd).mono ?_; rintro e w1 ⟨A1, k1, rfl, hr, hs⟩; have R1 := Lib.hid hr; have H1 := Lib.hid hs; clear hr hs)
    | (go_at_call 60; refine (close_s c (ls.take pp) false pp HF2.out Hl.out c (ls.take pp) true pp 0 HCl.out Hl.out 0 rfl A1 k1 _ R1.out.rd).mono ?_; rintro e w2 ⟨A2, k2, rfl, hr, hs, hc⟩; have R2 := Lib.hid ((new_rows hr hc H1.out.size).less (S' := S) (fun b _ hb => Hlo.out b hb)); have H2 := Lib.hid (Stp.trans H1.out hs); obtain ⟨⟨q0, q1, q2, q3⟩, p0, p1, p2, p3⟩ := mm_all (Hb.out.keep H2.out Hb.out.lt); clear hr hs hc))
  have X := Lib.hid (done_tape (vb := none) (c := c) (n := pp) (m := true) H2.out Hb.out R2.out hg)
  go_ret
  exact ⟨rfl, X.out⟩

/-- What is read lies in new memory. -/
theorem new_bytes {w9 w0 : World} {A : Option Addr} {k lo : Nat} {l : L} (hr : RdA w9 A k (bs l)) (hc : ∀ g, g < w0.heap.size → ClearA g w9 A k (bs l)) (hlo : lo ≤ w0.heap.size) : InB (From lo) w9 A k (bs l) :=
  clear_in hr fun g _ hg => hc g (by have : ¬ lo ≤ g := hg; omega)
set_option maxRecDepth 100000 in
set_option maxHeartbeats 2000000 in
theorem read_m (g : Nat) (S : Nat → Prop) (hg : ¬ S g) (c : Int) (ls : List L) (m : Bool) (n : Nat) (hf : FewT ⟨c, ls, m⟩) (hn : ls.length = n) (pp : Nat) (hp : pp ≤ n) (x : L) (y e0 : Nat) (hv : readV ⟨c, ls, m⟩ (pp : Int) = (x, e0)) (hy : x.length = y) (ei : Int) (he : (e0 : Int) = ei) (p' : Int) (hp' : p' = if e0 = 0 then (pp : Int) + 1 else (pp : Int))
    (A : Option Addr) (k : Nat) (w : World) (hb : Blk w g 77 (mcs c A n k m (pp : Int))) (ha : InS S w A k ls) :
    Calls Try.prog 46 #[.pointer (some ⟨g, 0, none⟩)] w fun e w' => ∃ B d, e = .returned (.tuple #[.slice B y d, .int .i64 ei]) ∧ InB (From w.heap.size) w' B d (bs x) ∧ Done S g none w c ls m n p' w' := by
  have hfew := hf.few
  dsimp only at hfew
  rw [hn] at hfew
  have HF := Lib.hid hf
  have Hn := Lib.hid hn
  have Hb := Lib.hid hb
  have Ha := Lib.hid ha
  have Hv := Lib.hid hv
  have Hy := Lib.hid hy
  have He := Lib.hid he
  have HD := Lib.hid (show Stp w w.drew from Stp.drewN (Stp.refl w) 1)
  have Z := Lib.hid (show w.heap.size = w.drew.heap.size from rfl)
  have Ra := Lib.hid (show RdL w.drew A k ls from ha.rd)
  obtain ⟨⟨q0, q1, q2, q3⟩, -, -, -, -⟩ := mm_all (Blk.drew hb)
  clear hf hn hb ha hv hy he
  by_cases h0 : e0 = 0
  · subst h0
    obtain rfl : ei = 0 := by have := He.out; omega
    rw [if_pos rfl] at hp'
    subst hp'
    go_enter Try.func46, Try.ntmps46
    go_upto_region 1 with fail
    go_region_law (go_simp; go_at_call 29; (with_reducible refine (read_s c ls m n HF.out Hn.out (pp : Int) (by omega) (by omega) x y 0 Hv.out Hy.out 0 rfl A k w.drew Ra.out).mono ?_); rintro e w2 ⟨B, d, rfl, hr, hs, hc⟩; have H2 := Lib.hid (Stp.trans HD.out hs); have HB := Lib.hid (new_bytes hr hc (Nat.le_of_eq Z.out)); have Hb2 := Lib.hid (Hb.out.keep H2.out Hb.out.lt); clear hr hs hc q0 q1 q2 q3; obtain ⟨⟨q0, q1, q2, q3⟩, p0, p1, p2, p3⟩ := mm_all Hb2.out)
    all_goals
      go_wp2_with fail
      go_ret2
      exact ⟨B, d, rfl, HB.out.abv (Abv.put _ (by show ¬ w.heap.size ≤ g; have := Hb.out.lt; omega) _ _), done_pos H2.out Hb.out Ha.out hg _⟩
  · have g9 : (ei == 0) = false := by rw [beq_eq_false_iff_ne]; have := He.out; omega
    rw [if_neg h0] at hp'
    subst hp'
    go_enter Try.func46, Try.ntmps46
    go_upto_region 1 with fail
    go_region_law (go_simp; go_at_call 29; (with_reducible refine (read_s c ls m n HF.out Hn.out (pp : Int) (by omega) (by omega) x y e0 Hv.out Hy.out ei He.out A k w.drew Ra.out).mono ?_); rintro e w2 ⟨B, d, rfl, hr, hs, hc⟩; have H2 := Lib.hid (Stp.trans HD.out hs); have HB := Lib.hid (new_bytes hr hc (Nat.le_of_eq Z.out)); have Hb2 := Lib.hid (Hb.out.keep H2.out Hb.out.lt); clear hr hs hc q0 q1 q2 q3; obtain ⟨⟨q0, q1, q2, q3⟩, p0, p1, p2, p3⟩ := mm_all Hb2.out)
    all_goals
      go_wp2_with fail
      go_ret2
      exact ⟨B, d, rfl, HB.out, done_same H2.out Hb.out Ha.out⟩

set_option maxRecDepth 100000 in
set_option maxHeartbeats 2000000 in
theorem write_m (g : Nat) (S : Nat → Prop) (hg : ¬ S g) (c : Int) (ls : List L) (m : Bool) (n : Nat) (hf : FewT ⟨c, ls, m⟩) (hn : ls.length = n) (hm : mayT ⟨c, ls, m⟩ = true) (pp : Nat) (hp : pp ≤ n) (r : L) (l : Nat) (hl : r.length = l) (hl2 : l ≤ 100000)
    (c' : Int) (ls' : List L) (m' : Bool) (n' e0 : Nat) (hv : writeV ⟨c, ls.take pp, false⟩ r = (⟨c', ls', m'⟩, e0)) (hn' : ls'.length = n') (ei : Int) (he : (e0 : Int) = ei) (A : Option Addr) (k : Nat) (B : Option Addr) (d : Nat) (w : World) (hlo : ∀ b, w.heap.size ≤ b → S b)
    (hb : Blk w g 77 (mcs c A n k m (pp : Int))) (ha : InS S w A k ls) (hr : RdA w B d (bs r)) :
    Calls Try.prog 39 #[.pointer (some ⟨g, 0, none⟩), .slice B l d] w fun e w' => e = .returned (.int .i64 ei) ∧ if e0 = 0 then Done S g none w c' ls' m' n' ((pp : Int) + 1) w' else Done S g none w c ls m n (pp : Int) w' := by
  have hfew := hf.few
  dsimp only at hfew
  rw [hn] at hfew
  have HF := Lib.hid hf
  have Hn := Lib.hid hn
  have Hc := Lib.hid (cutT_yes hm (n := (pp : Int)) (by omega) (by dsimp only; omega))
  have Hc2 : Hid (cutT ⟨c, ls, m⟩ (pp : Int) = (⟨c, ls.take pp, false⟩, 0)) := Lib.hid (by rw [Hc.out, Int.toNat_natCast])
  have Hl : Hid ((ls.take pp).length = pp) := Lib.hid (by rw [List.length_take]; omega)
  have HF2 : Hid (FewT ⟨c, ls.take pp, false⟩) := Lib.hid ⟨hf.low, hf.high, by dsimp only; rw [Hl.out]; omega, fun l hl => hf.each l (List.mem_of_mem_take hl)⟩
  have Hb := Lib.hid hb
  have Ha := Lib.hid ha
  have Hlo := Lib.hid hlo
  have Hr := Lib.hid hr
  have Hll := Lib.hid hl
  have Hv := Lib.hid hv
  have Hn' := Lib.hid hn'
  have He := Lib.hid he
  clear hf hn hm Hc hb ha hlo hr hl hv hn' he
  by_cases h0 : e0 = 0
  · simp only [if_pos h0]
    have g9 : (ei == 0) = true := by rw [beq_iff_eq]; have := He.out; omega
    go_enter Try.func39, Try.ntmps39
    go_upto_region 3 with (first
      | (go_at_call 58; refine (cut_m g c ls m n HF.out Hn.out (pp : Int) (by omega) (by omega) c (ls.take pp) false pp 0 Hc2.out Hl.out A k _ Hb.out Ha.out.rd).mono ?_; rintro e w1 ⟨A1, k1, rfl, hr, hs⟩; have R1 := Lib.hid hr; have H1 := Lib.hid hs; clear hr hs)
      | (go_at_call 57; refine (write_s c (ls.take pp) false pp HF2.out Hl.out r l Hll.out hl2 c' ls' m' n' e0 Hv.out Hn'.out ei He.out A1 B k1 d _ R1.out.rd (Hr.out.keep H1.out)).mono ?_; rintro e w2 ⟨A2, k2, rfl, hr, hs, hc⟩; have R2 := Lib.hid ((new_rows hr hc H1.out.size).less (S' := S) (fun b _ hb => Hlo.out b hb)); have H2 := Lib.hid (Stp.trans H1.out hs); have hal := Stp.alloc (Stp.refl w2) (.cells (tcs c' A2 n' k2 m') 41); have R3 := Lib.hid (R2.out.keep hal); have H3 := Lib.hid (Stp.trans H2.out hal); have BT := Lib.hid (Blk.new w2 41 (tcs c' A2 n' k2 m')); have B3 := Lib.hid (Hb.out.keep H3.out Hb.out.lt); clear hr hs hc hal; obtain ⟨⟨q0, q1, q2, q3⟩, p0, p1, p2, p3⟩ := mm_all B3.out; obtain ⟨⟨r0, r1, r2⟩, -, -, -⟩ := tt_all BT.out))
    clear q0 q1 q2 q3 p0 p1 p2 p3 r0 r1 r2
    generalize w2.alloc (.cells (tcs c' A2 n' k2 m') 41) = X at R3 H3 BT B3 ⊢
    have X3 : Hid (Done S g none w c' ls' m' n' ((pp : Int) + 1) (putM X g c' A2 n' k2 m' ((pp : Int) + 1)).drew) := Lib.hid ((done_all (vb := none) (c := c') (n := n') (m := m') (p := (pp : Int) + 1) H3.out Hb.out R3.out hg).keep (Stp.drewN (Stp.refl _) 1))
    obtain ⟨⟨q0, q1, q2, q3⟩, p0, p1, p2, p3⟩ := mm_all (Blk.drew B3.out)
    obtain ⟨⟨q4, q5, q6, q7⟩, p4, p5, p6, p7⟩ := mm_all B3.out
    obtain ⟨⟨r0, r1, r2⟩, -, -, -⟩ := tt_all (Blk.drew BT.out)
    obtain ⟨⟨r3, r4, r5⟩, -, -, -⟩ := tt_all BT.out
    go_region
    all_goals
      go_wp2_with fail
      go_ret
      exact ⟨rfl, X3.out⟩
  · have g9 : (ei == 0) = false := by rw [beq_eq_false_iff_ne]; have := He.out; omega
    simp only [if_neg h0]
    go_enter Try.func39, Try.ntmps39
    go_wp2_with (first
      | (go_at_call 58; refine (cut_m g c ls m n HF.out Hn.out (pp : Int) (by omega) (by omega) c (ls.take pp) false pp 0 Hc2.out Hl.out A k _ Hb.out Ha.out.rd).mono ?_; rintro e w1 ⟨A1, k1, rfl, hr, hs⟩; have R1 := Lib.hid hr; have H1 := Lib.hid hs; clear hr hs)
      | (go_at_call 57; refine (write_s c (ls.take pp) false pp HF2.out Hl.out r l Hll.out hl2 c' ls' m' n' e0 Hv.out Hn'.out ei He.out A1 B k1 d _ R1.out.rd (Hr.out.keep H1.out)).mono ?_; rintro e w2 ⟨A2, k2, rfl, hr, hs, hc⟩; have H3 := Lib.hid (Stp.trans (Stp.trans H1.out hs) (Stp.alloc (Stp.refl w2) (.cells (tcs c' A2 n' k2 m') 41))); clear hr hs hc))
    go_ret
    exact ⟨rfl, done_same H3.out Hb.out Ha.out⟩
end Go.Proofs.Ytaknnkcfoafkdaa.Drive
