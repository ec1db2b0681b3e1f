/-
  Package tape's method that writes records: its contract; no statement is proved here.
-/
import Derived.Test.YtaknnkcfoafkdaaTapeK
import Derived.BigQuiet
import Derived.WalkMore
import Derived.Deep.RegionLaw
namespace Go.Proofs.Ytaknnkcfoafkdaa.Tape
open Go.RowKit Go.Proofs.Ytaknnkcfoafkdaa.Str Go.Proofs.Ytaknnkcfoafkdaa.Base Go.Proofs.Ytaknnkcfoafkdaa.BlockM Go.Proofs.Ytaknnkcfoafkdaa.RecM Go.Proofs.Ytaknnkcfoafkdaa.TapeM

/-- Of what was there only block g, and the row vb, have changed. -/
structure Wr (g : Nat) (vb : Option Nat) (w w' : World) : Prop where
  os : w'.os = w.os
  tape : w'.tape = w.tape
  output : w'.output = w.output
  size : w.heap.size ≤ w'.heap.size
  block : ∀ j, j < w.heap.size → j ≠ g → some j ≠ vb → w'.heap[j]? = w.heap[j]?
section
variable {g : Nat} {vb : Option Nat} {w w' w2 w0 : World}
theorem Wr.refl (w : World) : Wr g vb w w := ⟨rfl, rfl, rfl, Nat.le_refl _, fun _ _ _ _ => rfl⟩
theorem Wr.stp (h : Wr g vb w w') (hs : Stp w' w2) : Wr g vb w w2 :=
  ⟨hs.os.trans h.os, hs.tape.trans h.tape, hs.output.trans h.output, Nat.le_trans h.size hs.size, fun j hj hn hv => (hs.block j (Nat.lt_of_lt_of_le hj h.size)).trans (h.block j hj hn hv)⟩
theorem Wr.put (h : Wr g vb w w') (i : Nat) (u : Value) : Wr g vb w (w'.setCell ⟨g, i, none⟩ u) :=
  ⟨h.os, h.tape, h.output, Nat.le_trans h.size (by simp [World.setCell]), fun j hj hn hv => (Below.heap_setCell _ _ _ _ (by show j ≠ g; exact hn)).trans (h.block j hj hn hv)⟩
/-- A row that is vb, or has come since. -/
theorem Wr.row (h : Wr g vb w w') {v : Value} (hv : v.ownBlock = vb ∨ ∃ b, w.heap.size ≤ b ∧ v.ownBlock = some b) (hg : w'.grownBy w2 v.ownBlock) : Wr g vb w w2 :=
  ⟨hg.os.trans h.os, hg.tape.trans h.tape, hg.output.trans h.output, Nat.le_trans h.size hg.size, fun j hj hn hvb => (hg.block j (Nat.lt_of_lt_of_le hj h.size) (by
    rcases hv with e | ⟨b, hb, e⟩
    · rw [e]; exact hvb
    · rw [e]
      intro hh
      injection hh with hh
      omega)).trans (h.block j hj hn hvb)⟩
theorem Wr.back (h : Wr g vb w w') (h0 : Stp w0 w) (hg : w0.heap.size ≤ g) (hv : ∀ b, vb = some b → w0.heap.size ≤ b) : Stp w0 w' :=
  ⟨h.os.trans h0.os, h.tape.trans h0.tape, h.output.trans h0.output, Nat.le_trans h0.size h.size, fun j hj => (h.block j (Nat.lt_of_lt_of_le hj h0.size) (by omega) (fun e => by have := hv j e.symm; omega)).trans (h0.block j hj)⟩
end
theorem fillG_step {c : Int} {ls rs : List L} {m : Bool} {k : Nat} (h : fillG ⟨c, ls, m⟩ (rs.take k) = (⟨c, ls ++ rs.take k, m⟩, k, 0)) : fillG ⟨c, ls, m⟩ rs =
    ((fillG ⟨c, ls ++ rs.take k, m⟩ (rs.drop k)).1, k + (fillG ⟨c, ls ++ rs.take k, m⟩ (rs.drop k)).2.1, (fillG ⟨c, ls ++ rs.take k, m⟩ (rs.drop k)).2.2) := by
  have h1 := fillG_app (rs.take k) (rs.drop k) ⟨c, ls, m⟩
  rw [List.take_append_drop, h, if_pos rfl] at h1
  exact h1
theorem fillG_err {t : Tp} {rs : List L} {r : L} (hr : rs[0]? = some r) (h : (writeV t r).2 ≠ 0) : fillG t rs = (t, 0, (writeV t r).2) := by
  cases rs with
  | nil => cases hr
  | cons a l =>
    simp only [List.getElem?_cons_zero, Option.some.injEq] at hr
    subst hr
    rw [fillG, if_neg h]
theorem fillG_go {c : Int} {ls rs : List L} {m : Bool} {k : Nat} {r : L} (h : fillG ⟨c, ls, m⟩ (rs.take k) = (⟨c, ls ++ rs.take k, m⟩, k, 0)) (hr : rs[k]? = some r) (hw : (writeV ⟨c, ls ++ rs.take k, m⟩ r).2 = 0) :
    fillG ⟨c, ls, m⟩ (rs.take (k + 1)) = (⟨c, ls ++ rs.take (k + 1), m⟩, k + 1, 0) := by
  obtain ⟨a, b, d, e⟩ := writeV_ok.1 hw
  have hm : m = false := d
  subst hm
  rw [List.take_add_one, hr, fillG_app, h, if_pos rfl]
  simp only [Option.toList_some, fillG, hw, if_true]
  rw [writeV_yes a b d e]
  simp

set_option maxRecDepth 100000 in
set_option maxHeartbeats 2000000 in
theorem wr_s (g : Nat) (S : Nat → Prop) (c : Int) (ls : List L) (m : Bool) (n : Nat) (hf : FewT ⟨c, ls, m⟩) (hn : ls.length = n) (rs : List L) (q : Nat) (hq : rs.length = q) (hq1 : q ≤ 1000) (hrs : ∀ r ∈ rs, r.length ≤ 100000)
    (c' : Int) (ls' : List L) (m' : Bool) (n' j e0 : Nat) (hv : fillV ⟨c, ls, m⟩ rs = (⟨c', ls', m'⟩, j, e0)) (hn' : ls'.length = n') (ei : Int) (he : (e0 : Int) = ei) (A B : Option Addr) (k d : Nat) (w : World)
    (hb : Blk w g 84 (tcs c A n k m)) (hg : ¬ S g) (hlo : ∀ b, w.heap.size ≤ b → S b) (hR : FRows w S (.slice A n k) ls) (hX : ∀ w', Wr g (Value.slice A n k).ownBlock w w' → RdL w' B d rs) :
    Calls Try.prog 67 #[.pointer (some ⟨g, 0, none⟩), .slice B q d] w fun e w' => e = .returned (.tuple #[.int .i64 (j : Int), .int .i64 ei]) ∧
      ∃ A' k', Blk w' g 84 (tcs c' A' n' k' m') ∧ FRows w' S (.slice A' n' k') ls' ∧ Wr g (Value.slice A n k).ownBlock w w' := by
  obtain ⟨⟨q0, q1, q2⟩, p0, p1, p2⟩ := tt_all hb
  have HF := Lib.hid hf
  have Hn := Lib.hid hn
  have Hq := Lib.hid hq
  have Hrs := Lib.hid hrs
  have HX := Lib.hid hX
  have HB := Lib.hid hb
  have HR := Lib.hid hR
  have Hn' := Lib.hid hn'
  clear hf hn hq hrs hX hb hR hn'
  cases hm : mayT ⟨c, ls, m⟩
  · have e1 : fillV ⟨c, ls, m⟩ rs = (⟨c, ls, m⟩, 0, 1) := by rw [fillV, hm]; rfl
    rw [hv] at e1
    cases e1
    obtain rfl : n = n' := by rw [← Hn.out, ← Hn'.out]
    subst he
    have Hm := Lib.hid hm
    clear hm hv
    go_enter Try.func67, Try.ntmps67
    go_wp2
    refine wp_scope_ahead 0 rfl ?_
    go_wp2_with (go_at_call 52; refine (tmay_s c ls m n HF.out Hn.out false Hm.out A k _ HR.out.rd_n.2).mono ?_; rintro e w1 ⟨rfl, hs⟩; have H1 := Lib.hid hs; clear hs)
    go_step3
    refine ⟨rfl, ?_⟩
    go_wp2
    rw [jump_ret]
    go_ret2
    exact ⟨rfl, A, k, HB.out.keep H1.out HB.out.lt, HR.out.keep H1.out, (Wr.refl w).stp H1.out⟩
  · have e1 : fillV ⟨c, ls, m⟩ rs = fillG ⟨c, ls, m⟩ rs := by rw [fillV, if_pos hm]
    rw [e1] at hv
    have Hv := Lib.hid hv
    have Hm := Lib.hid hm
    clear e1 hm hv
    go_enter Try.func67, Try.ntmps67
    go_wp2
    refine wp_scope_ahead 0 rfl ?_
    go_wp2_with (go_at_call 52; refine (tmay_s c ls m n HF.out Hn.out true Hm.out A k _ HR.out.rd_n.2).mono ?_; rintro e w1 ⟨rfl, hs⟩; have H1 := Lib.hid hs; clear hs)
    clear q0 q1 q2 p0 p1 p2
    go_loopw [6, 7, 18] (fun nv ev iv wr => ∃ kk : Nat, kk ≤ q ∧ nv = .int .i64 kk ∧ ev = .int .i64 1 ∧ iv = .int .i64 kk ∧ Hid (∃ A' k', Blk wr g 84 (tcs c A' (n + kk) k' m) ∧ FRows wr S (.slice A' (n + kk) k') (ls ++ rs.take kk) ∧ ((Value.slice A' (n + kk) k').ownBlock = (Value.slice A n k).ownBlock ∨ ∃ b, w.heap.size ≤ b ∧ (Value.slice A' (n + kk) k').ownBlock = some b)) ∧ Hid (Wr g (Value.slice A n k).ownBlock w wr) ∧
      Hid (fillG ⟨c, ls, m⟩ (rs.take kk) = (⟨c, ls ++ rs.take kk, m⟩, kk, 0)) ∧ Hid (mayT ⟨c, ls ++ rs.take kk, m⟩ = true)) (fun _ _ i _ => q - (intOf i).toNat)
    case atStart =>
      refine ⟨0, by omega, rfl, rfl, rfl, Lib.hid ⟨A, k, HB.out.keep H1.out HB.out.lt, ?_, .inl rfl⟩, Lib.hid ((Wr.refl w).stp H1.out), Lib.hid ?_, Lib.hid ?_⟩
      · rw [List.take_zero, List.append_nil]
        exact HR.out.keep H1.out
      · rw [List.take_zero, List.append_nil]
        rfl
      · rw [List.take_zero, List.append_nil]
        exact Hm.out
    case round =>
      obtain ⟨kk, hkk, rfl, rfl, rfl, HL, HW, HG, HM⟩ := hrel
      by_cases hlt : kk < q
      · obtain ⟨r, hr1⟩ : ∃ r, rs[kk]? = some r := ⟨_, List.getElem?_eq_getElem (by rw [Hq.out]; exact hlt)⟩
        obtain ⟨b, o, A1, c1, rfl, ca, ra⟩ := (HX.out wr HW.out).at_ hr1
        have hrl := Hrs.out r (List.mem_of_getElem? hr1)
        obtain ⟨y, hy⟩ : ∃ y, r.length = y := ⟨_, rfl⟩
        rw [hy] at ca hrl
        have Hy := Lib.hid hy
        have Hr1 := Lib.hid hr1
        have Ra := Lib.hid ra
        have Hst := Lib.hid (fillG_step HG.out)
        clear hr1 hy ra
        cases h5 : mayR r
        · have H5 := Lib.hid h5
          have hw : writeV ⟨c, ls ++ rs.take kk, m⟩ r = (⟨c, ls ++ rs.take kk, m⟩, 1) := by rw [writeV, H5.out]; simp
          have hd : fillG ⟨c, ls ++ rs.take kk, m⟩ (rs.drop kk) = (⟨c, ls ++ rs.take kk, m⟩, 0, 1) := by
            rw [fillG_err (r := r) (by rw [List.getElem?_drop, Nat.add_zero]; exact Hr1.out) (by rw [hw]; simp), hw]
          have h6 := Hv.out
          rw [Hst.out, hd] at h6
          simp only [Nat.add_zero] at h6
          cases h6
          subst he
          clear h5 hw hd
          go_wp2_with (go_at_call 69; refine (rmay_n r y Hy.out _ _ _ (by omega)).mono ?_; rintro e w2 ⟨rfl, hs⟩; rw [H5.out]; have H2 := Lib.hid hs; clear hs)
          go_step3
          refine ⟨rfl, ?_⟩
          go_wp2
          rw [jump_ret]
          go_ret2
          obtain ⟨A', k', h1, h2, -⟩ := HL.out
          have e : n + j = n' := by rw [← Hn'.out, List.length_append, List.length_take, Hq.out, Hn.out]; omega
          rw [e] at h1 h2
          exact ⟨rfl, A', k', h1.keep H2.out h1.lt, h2.keep H2.out, HW.out.stp H2.out⟩
        · have H5 := Lib.hid h5
          obtain ⟨A', k', hb2, hR2, hob⟩ := HL.out
          have HB2 := Lib.hid hb2
          have HR2 := Lib.hid hR2
          have HO := Lib.hid hob
          obtain ⟨⟨q0, q1, q2⟩, p0, p1, p2⟩ := tt_all hb2
          clear h5 hb2 hR2 hob HL
          by_cases hend : m = true ∨ ((n + kk : Nat) : Int) = c
          · have hw : writeV ⟨c, ls ++ rs.take kk, m⟩ r = (⟨c, ls ++ rs.take kk, m⟩, 8) := by
              have hl : (ls ++ rs.take kk).length = n + kk := by rw [List.length_append, List.length_take, Hq.out, Hn.out]; omega
              rw [writeV, H5.out, HM.out, if_neg (by simp), if_pos]
              dsimp only
              rw [hl]
              rcases hend with h | h
              · exact .inl h
              · exact .inr (by omega)
            have hd : fillG ⟨c, ls ++ rs.take kk, m⟩ (rs.drop kk) = (⟨c, ls ++ rs.take kk, m⟩, 0, 8) := by
              rw [fillG_err (r := r) (by rw [List.getElem?_drop, Nat.add_zero]; exact Hr1.out) (by rw [hw]; simp), hw]
            have h6 := Hv.out
            rw [Hst.out, hd] at h6
            simp only [Nat.add_zero] at h6
            cases h6
            subst he
            have Hend := Lib.hid hend
            clear hw hd hend
            go_wp2_with (go_at_call 69; refine (rmay_n r y Hy.out _ _ _ (by omega)).mono ?_; rintro e w2 ⟨rfl, hs⟩; rw [H5.out]; have H2 := Lib.hid hs; have HB3 := Lib.hid (HB2.out.keep hs HB2.out.lt); clear hs q0 q1 q2 p0 p1 p2; obtain ⟨⟨q0, q1, q2⟩, p0, p1, p2⟩ := tt_all HB3.out)
            have e : n + j = n' := by rw [← Hn'.out, List.length_append, List.length_take, Hq.out, Hn.out]; omega
            have g7 : ((((n + j : Nat) : Int)) == c) = true ∨ m = true := by
              rcases Hend.out with h | h
              · exact .inr h
              · exact .inl (by simpa using h)
            cases m
            all_goals
              first
                | (have g8 : ((((n + j : Nat) : Int)) == c) = true := by simpa using g7
                   clear g7
                   go_quiet (fail))
                | (clear g7
                   go_quiet (fail))
            all_goals
              go_wp2
              go_step3
              refine ⟨rfl, ?_⟩
              go_wp2
              rw [jump_ret]
              go_ret2
              have e3 : Stp wr (w2.drewN nq) := Stp.drewN H2.out nq
              have h1 := HB2.out
              have h2 := HR2.out
              rw [e] at h1 h2
              exact ⟨rfl, A', k', h1.keep e3 h1.lt, h2.keep e3, HW.out.stp e3⟩
          · have hm0 : m = false := by
              cases m
              · rfl
              · exact absurd (.inl rfl) hend
            subst hm0
            have g8 : ((((n + kk : Nat) : Int)) == c) = false := by
              rw [beq_eq_false_iff_ne]
              exact fun h => hend (.inr h)
            have hlen : (ls ++ rs.take kk).length = n + kk := by rw [List.length_append, List.length_take, Hq.out, Hn.out]; omega
            have hw : (writeV ⟨c, ls ++ rs.take kk, false⟩ r).2 = 0 := by
              obtain ⟨t1, t2, t3, t4⟩ := mayT_iff.1 HM.out
              refine writeV_ok.2 ⟨HM.out, H5.out, rfl, ?_⟩
              dsimp only at t3 ⊢
              rw [hlen] at t3 ⊢
              have : ((n + kk : Nat) : Int) ≠ c := fun h => hend (.inr h)
              omega
            have HG2 := Lib.hid (fillG_go HG.out Hr1.out hw)
            have hm2 := writeV_may (r := r) HM.out
            obtain ⟨-, -, -, hw4⟩ := writeV_ok.1 hw
            rw [writeV_yes HM.out H5.out rfl hw4] at hm2
            have e5 : ls ++ rs.take (kk + 1) = ls ++ rs.take kk ++ [r] := by rw [List.take_add_one, Hr1.out, Option.toList_some, List.append_assoc]
            have HM2 : Hid (mayT ⟨c, ls ++ rs.take (kk + 1), false⟩ = true) := Lib.hid (by rw [e5]; exact hm2)
            have E5 := Lib.hid e5
            have Hlen := Lib.hid hlen
            clear hend hw hm2 hw4 e5 hlen
            go_wp2_with (go_at_call 69; refine (rmay_n r y Hy.out _ _ _ (by omega)).mono ?_; rintro e w2 ⟨rfl, hs⟩; rw [H5.out]; have H2 := Lib.hid hs; have HB3 := Lib.hid (HB2.out.keep hs HB2.out.lt); clear hs q0 q1 q2 p0 p1 p2; obtain ⟨⟨q0, q1, q2⟩, p0, p1, p2⟩ := tt_all HB3.out)
            go_quiet (fail)
            go_wp2
            have HW4 := Lib.hid (HW.out.stp (Stp.drewN H2.out nq))
            have HB4 : Hid (Blk (w2.drewN nq) g 84 (tcs c A' (n + kk) k' false)) := Lib.hid HB3.out
            have HR4 := Lib.hid (HR2.out.keep (Stp.drewN H2.out nq))
            have Ra4 := Lib.hid (Ra.out.keep (Stp.drewN H2.out nq))
            clear q0 q1 q2 p0 p1 p2 HB3 HB2 HR2 Ra H2 HW ca
            generalize w2.drewN nq = W at *
            obtain ⟨⟨q0, q1, q2⟩, p0, p1, p2⟩ := tt_all (Blk.drew HB4.out)
            have hll : (ls ++ rs.take kk).length ≤ 1000000 := by
              have h3 := HF.out.few
              dsimp only at h3
              rw [Hn.out] at h3
              rw [Hlen.out]
              omega
            have Hll := Lib.hid hll
            have Hsz : Hid (∀ b, W.heap.size ≤ b → S b) := Lib.hid (fun b hb => hlo b (Nat.le_trans HW4.out.size hb))
            clear hll
            have Hpf : Hid (∀ (w6 : World) (v' : Value), FRows w6 S v' (ls ++ rs.take kk ++ [r]) → ∃ A6 k6, v' = .slice A6 (n + kk + 1) k6 ∧ FRows w6 S (.slice A6 (n + kk + 1) k6) (ls ++ rs.take (kk + 1))) := Lib.hid (by
              intro w6 v' h
              obtain ⟨A6, k6, rfl, -⟩ := h.form
              have e : (ls ++ rs.take kk ++ [r]).length = n + kk + 1 := by rw [List.length_append, Hlen.out]; rfl
              rw [e] at h ⊢
              rw [E5.out]
              exact ⟨A6, k6, rfl, h⟩)
            go_region_law (first
              | (refine step_append_push (w := w5.alloc (.cells #[.slice A5 y c5] 25)) (S := S) rfl _ _ rfl rfl HR6.out rfl HU6.out (lit_rd w5 _ _) Hll.out Hsz6.out ?_; intro v' w6 hR hgr hor; obtain ⟨A6, k6, hv6, hR7⟩ := Hpf.out w6 v' hR; subst hv6; have HR7 := Lib.hid hR7; have hne := HR6.out.ne hg; have HB7 := Lib.hid (HB6.out.grown hgr hne); have HW7 := Lib.hid (HW6.out.row HO.out hgr); have Hor := Lib.hid hor; clear hR hR7 hgr hor hne q0 q1 q2 p0 p1 p2 r0 r1 r2 s0 s1 s2; obtain ⟨⟨q0, q1, q2⟩, p0, p1, p2⟩ := tt_all HB7.out)
              | (go_simp; go_at_call 53; refine (clone_s r y Hy.out _ _ _ (show RdA W.drew A1 c1 (bs r) from Ra4.out) hrl).mono ?_; rintro e w5 ⟨A5, c5, rfl, hu, hs⟩; have hs2 : Stp W (w5.alloc (.cells #[.slice A5 y c5] 25)) := Stp.alloc (Stp.trans (show Stp W W.drew from Stp.drewN (Stp.refl _) 1) hs) (.cells #[.slice A5 y c5] 25); have Hsz6 := Lib.hid (Hsz.out _ hs2.size); have HU6 := Lib.hid ((hu.less (fun b _ hb => Hsz.out b hb)).abv (Abv.of_stp (Stp.alloc (Stp.refl w5) (.cells #[.slice A5 y c5] 25)))); have HR6 := Lib.hid (HR4.out.keep hs2); have HW6 := Lib.hid (HW4.out.stp hs2); have HB5 := Lib.hid ((Blk.drew HB4.out).keep hs (Blk.drew HB4.out).lt); have HB6 := Lib.hid (HB5.out.alloc (.cells #[.slice A5 y c5] 25)); clear hu hs hs2 q0 q1 q2 p0 p1 p2; obtain ⟨⟨q0, q1, q2⟩, p0, p1, p2⟩ := tt_all HB5.out; obtain ⟨⟨r0, r1, r2⟩, s0, s1, s2⟩ := tt_all HB6.out))
            all_goals
              have HB8 : Hid (Blk (w6.setCell ⟨g, 1, none⟩ (.slice A6 (n + kk + 1) k6)) g 84 (tcs c A6 (n + (kk + 1)) k6 false)) := Lib.hid (HB7.out.put 1 (.slice A6 (n + kk + 1) k6))
              have HR8 := Lib.hid (HR7.out.abv (Abv.put w6 hg 1 (.slice A6 (n + kk + 1) k6)))
              have HW8 := Lib.hid (HW7.out.put 1 (.slice A6 (n + kk + 1) k6))
              have HO8 : Hid ((Value.slice A6 (n + (kk + 1)) k6).ownBlock = (Value.slice A n k).ownBlock ∨ ∃ b, w.heap.size ≤ b ∧ (Value.slice A6 (n + (kk + 1)) k6).ownBlock = some b) := Lib.hid (by
                rcases Hor.out with h | h
                · rw [show (Value.slice A6 (n + (kk + 1)) k6).ownBlock = (Value.slice A' (n + kk) k').ownBlock from h]
                  exact HO.out
                · exact .inr ⟨_, HW6.out.size, h⟩)
              generalize w6.setCell ⟨g, 1, none⟩ (.slice A6 (n + kk + 1) k6) = W9 at *
              clear HB7 HR7 HW7 Hor HB6 HR6 HW6 HU6 HB5 HB4 HR4 HW4 Ra4 q0 q1 q2 p0 p1 p2
              go_wp2_with fail
              go_roundw
              case rel => exact ⟨kk + 1, by omega, by go_num, rfl, by go_num, Lib.hid ⟨A6, k6, HB8.out, HR8.out, HO8.out⟩, HW8, HG2, HM2⟩
              case measure => simp [intOf]; omega
      · obtain rfl : kk = q := by omega
        have e6 : rs.take kk = rs := List.take_of_length_le (by rw [Hq.out]; exact Nat.le_refl _)
        rw [e6] at HG HL
        have h6 := Hv.out
        rw [HG.out] at h6
        cases h6
        subst he
        go_wp2
        go_step3
        go_wp2
        rw [jump_ret]
        go_ret2
        obtain ⟨A', k', h1, h2, -⟩ := HL.out
        have e : n + j = n' := by rw [← Hn'.out, List.length_append, Hq.out, Hn.out]
        rw [e] at h1 h2
        exact ⟨rfl, A', k', h1, h2, HW.out⟩
end Go.Proofs.Ytaknnkcfoafkdaa.Tape
