/-
  The walk of the statement ReadGoes over package read's contracts.
  The statement ReadGoes: with more blocks behind one reads no fewer nodes: those that were there, the last of them perhaps with more bytes: for any blocks.
-/
import Derived.Test.YtieefnnfnimflaaReadI
import Derived.Test.YtieefnnfnimflaaTreeC4
import Derived.Test.YtieefnnfnimflaaParseSafeW
import Derived.Deep.Cut
import Derived.BigQuiet
import Derived.Deep.QuietTactic
import Derived.Test.YtieefnnfnimflaaRows
import Derived.Test.YtieefnnfnimflaaBase
import Derived.Test.YtieefnnfnimflaaReadK
import Derived.Test.YtieefnnfnimflaaParseC
namespace Go.Proofs.Ytieefnnfnimflaa.Read
open Go.RowKit Go.Proofs.Ytieefnnfnimflaa.Str Go.Proofs.Ytieefnnfnimflaa.Base Go.Proofs.Ytieefnnfnimflaa.Node
open Go.Proofs.Ytieefnnfnimflaa.Tree (oneB)

theorem slices_inf : (Try.prog.info? 24).map (fun i => (i.zero, i.size, i.bytes)) = some (some (.slice none 0 0), 1, 24) := by kernel_rfl
theorem stp_here {w w' : World} {e : TypeId} {lo : Nat} {v : Value} {ls : List L} (h : Base.Rows w lo e v ls) (hlo : w.heap.size ≤ lo) (hg : w.grownBy w' v.ownBlock) : Stp w w' := h.stp (Stp.refl w) hlo hg

theorem rows_n {w : World} {lo : Nat} {e : TypeId} {v : Value} {ls : List L} {n : Nat} (h : Base.Rows w lo e v ls) (hn : ls.length = n) : ∃ A c, v = .slice A n c ∧ RdL w A c ls := by
  subst hn
  exact h.rdL
theorem stp_dr1 {w w1 : World} (h : Stp w w1) : Stp w w1.drew := h.drewN 1
set_option maxRecDepth 100000 in
/-- The ways that ask nothing of the code but the example. -/
theorem goes_no (I : ReadI) (a b : List L) (na nb : Nat) (hna : a.length = na) (hnb : b.length = nb) (A B : Option Addr) (c d : Nat) (w : World) (ha : RdL w A c a) (hb : RdL w B d b) (hla : na < 9223372036854775808) (hlb : nb < 9223372036854775808) (hsa : ∀ x ∈ a, x.length < 9223372036854775808) (hsb : ∀ x ∈ b, x.length < 9223372036854775808)
    (F G : Bool) (hF : Block.fewV a = F) (hG : Block.fewV b = G) (K : Bool) (hK : decide ((30 : Int) < (nb : Int)) = K) (hno : F = false ∨ G = false ∨ K = true) :
    Calls Try.prog 5 #[.slice A na c, .slice B nb d] w fun e w' => e = .returned (.bool true) ∧ Stp w w' := by
  have h0 := Stp.refl w
  have HI := Lib.hid I
  have Ha := Lib.hid ha
  have Hb := Lib.hid hb
  have Hna := Lib.hid hna
  have Hnb := Lib.hid hnb
  have Hsa := Lib.hid hsa
  have Hsb := Lib.hid hsb
  have HF := Lib.hid hF
  have HG := Lib.hid hG
  clear I ha hb hna hnb hsa hsb hF hG
  cases F <;> cases G <;> cases K
  all_goals first | (exfalso; simp at hno; done) | skip
  all_goals
    clear hno
    go_enter Try.func5, Try.ntmps5
    go_wp2_with (first
      | (go_at_call 14; (with_reducible refine (awake_s HI.out _).mono ?_); rintro e w1 ⟨rfl, hs⟩; replace Ha := Lib.hid (Ha.out.keep hs); replace Hb := Lib.hid (Hb.out.keep hs); replace h0 := Stp.trans h0 hs; clear hs)
      | (go_at_call 15; (with_reducible refine (Parse.bfew_n a _ Hna.out _ _ _ Ha.out hla Hsa.out).mono ?_); rintro e w3 ⟨rfl, hs⟩; rw [HF.out]; replace Ha := Lib.hid (Ha.out.keep hs); replace Hb := Lib.hid (Hb.out.keep hs); replace h0 := Stp.trans h0 hs; clear hs)
      | (go_at_call 15; (with_reducible refine (Parse.bfew_n b _ Hnb.out _ _ _ Hb.out hlb Hsb.out).mono ?_); rintro e w4 ⟨rfl, hs⟩; rw [HG.out]; replace Ha := Lib.hid (Ha.out.keep hs); replace Hb := Lib.hid (Hb.out.keep hs); replace h0 := Stp.trans h0 hs; clear hs))
    go_ret
    exact ⟨rfl, h0⟩

set_option maxRecDepth 100000 in
set_option maxHeartbeats 4000000 in
theorem goes_yes (I : ReadI) (a b : List L) (na nb : Nat) (hna : a.length = na) (hnb : b.length = nb) (A B : Option Addr) (c d : Nat) (w : World) (ha : RdL w A c a) (hb : RdL w B d b) (hsa : ∀ x ∈ a, x.length < 9223372036854775808) (hsb : ∀ x ∈ b, x.length < 9223372036854775808)
    (hF : Block.fewV a = true) (hG : Block.fewV b = true) (hn30 : nb ≤ 30) :
    Calls Try.prog 5 #[.slice A na c, .slice B nb d] w fun e w' => e = .returned (.bool true) ∧ Stp w w' := by
  have h0 := Stp.refl w
  have hn60 : na ≤ 60 := by rw [← hna]; exact (Block.fewV_iff.1 hF).1
  have hla : na < 9223372036854775808 := by omega
  have hlb : nb < 9223372036854775808 := by omega
  have g30 : decide ((30 : Int) < (nb : Int)) = false := decide_eq_false (by omega)
  obtain ⟨hext, hbad⟩ := goes_on a b
  have hpl := part_len a
  have hpm := part_len (a ++ b)
  obtain ⟨ts, e, hr⟩ : ∃ ts e, partV a = (ts, e) := ⟨_, _, rfl⟩
  obtain ⟨us, f, hp⟩ : ∃ us f, partV (a ++ b) = (us, f) := ⟨_, _, rfl⟩
  rw [hr] at hext hbad hpl
  rw [hp] at hext hbad hpm
  simp only at hext hbad hpl hpm
  have hab : (a ++ b).length = na + nb := by rw [List.length_append, hna, hnb]
  rw [hab] at hpm
  rw [hna] at hpl
  obtain ⟨mt, hmt⟩ : ∃ x, ts.length = x := ⟨_, rfl⟩
  obtain ⟨mu, hmu⟩ : ∃ x, us.length = x := ⟨_, rfl⟩
  have hlen := hext.len
  rw [hmt, hmu] at hlen hbad
  rw [hmt] at hpl
  rw [hmu] at hpm
  have gbad : ((e != 0) = false) ∨ ((e != 0) = true ∧ mu = mt) := by
    by_cases he : e = 0
    · exact .inl (by rw [he]; rfl)
    · exact .inr ⟨bne_iff_ne.2 he, hbad he⟩
  have Hsab := Lib.hid (show ∀ x ∈ a ++ b, x.length < 9223372036854775808 by
    intro x hx
    rcases List.mem_append.1 hx with hx | hx
    · exact hsa x hx
    · exact hsb x hx)
  have HI := Lib.hid I
  have Ha := Lib.hid ha
  have Hb := Lib.hid hb
  have Hna := Lib.hid hna
  have Hnb := Lib.hid hnb
  have Hab := Lib.hid hab
  have Hsa := Lib.hid hsa
  have Hsb := Lib.hid hsb
  have HF := Lib.hid hF
  have HG := Lib.hid hG
  have HR := Lib.hid hr
  have HP := Lib.hid hp
  have Hmt := Lib.hid hmt
  have Hmu := Lib.hid hmu
  have HX := Lib.hid hext
  have l1 : (([] : List L).length + a.length ≤ 1000000000) := by simp [hna]; omega
  have l2 : (([] ++ a : List L).length + b.length ≤ 1000000000) := by simp [hna, hnb]; omega
  have L1 := Lib.hid l1
  have L2 := Lib.hid l2
  have g0 : ¬ mu < mt := by omega
  have g0' : decide ((mu : Int) < (mt : Int)) = false := decide_eq_false (by omega)
  have gN : na + nb ≤ 1000 := by omega
  clear I ha hb hna hnb hsa hsb hF hG hr hp hext hbad hmt hmu hab l1 l2
  go_enter Try.func5, Try.ntmps5
  go_upto_region 8 with (first
    | (go_at_call 14; (with_reducible refine (awake_s HI.out _).mono ?_); rintro e w1 ⟨rfl, hs⟩; replace Ha := Lib.hid (Ha.out.keep hs); replace Hb := Lib.hid (Hb.out.keep hs); replace h0 := Stp.trans h0 hs; clear hs)
    | (go_at_call 15; (with_reducible refine (Parse.bfew_n a _ Hna.out _ _ _ Ha.out hla Hsa.out).mono ?_); rintro e w3 ⟨rfl, hs⟩; rw [HF.out]; replace Ha := Lib.hid (Ha.out.keep hs); replace Hb := Lib.hid (Hb.out.keep hs); replace h0 := Stp.trans h0 hs; clear hs)
    | (go_at_call 15; (with_reducible refine (Parse.bfew_n b _ Hnb.out _ _ _ Hb.out hlb Hsb.out).mono ?_); rintro e w4 ⟨rfl, hs⟩; rw [HG.out]; replace Ha := Lib.hid (Ha.out.keep hs); replace Hb := Lib.hid (Hb.out.keep hs); replace h0 := Stp.trans h0 hs; clear hs)
    | (go_at_call 17; (with_reducible refine (HI.out.part a na Hna.out (by omega) Hsa.out ts e mt HR.out Hmt.out _ _ _ Ha.out).mono ?_); rintro e5 w5 ⟨B5, d5, rfl, hr5, hs⟩; have HT := Lib.hid hr5; replace Ha := Lib.hid (Ha.out.keep hs); replace Hb := Lib.hid (Hb.out.keep hs); replace h0 := Stp.trans h0 hs; have Hsz5 := Lib.hid (Nat.le_refl w5.heap.size); clear hs hr5)
    | (at_builtin; go_loud (refine Base.wpList_append_rows (P := Try.prog) rfl _ (.tmp 41) 27 rfl 24 Try.underlying27 slices_inf _ rfl (Base.Rows.nil w5 w5.heap.size 24) rfl Ha.out Hna.out L1.out (Nat.le_refl _) ?_; intro v6 w6 hR hg; have hs := stp_here (Base.Rows.nil w5 w5.heap.size 24) (Nat.le_refl _) hg; replace Hb := Lib.hid (Hb.out.keep hs); have HR6 := Lib.hid hR; have Hs6 := Lib.hid hs; clear hs hR hg))
    | (at_builtin; go_loud (refine Base.wpList_append_rows (P := Try.prog) rfl _ (.tmp 43) 27 rfl 24 Try.underlying27 slices_inf _ rfl HR6.out rfl Hb.out Hnb.out L2.out Hs6.out.size ?_; intro v7 w7 hR hg; have hs := Base.Rows.stp HR6.out Hs6.out (Nat.le_refl _) hg; clear hg; obtain ⟨A7, c7, rfl, hL7⟩ := rows_n hR Hab.out; have HL7 := Lib.hid (show RdL w7 A7 c7 (a ++ b) from hL7); replace h0 := Stp.trans h0 hs; replace HT := Lib.hid (HT.out.keep hs); clear hR hL7 hs))
    | (go_at_call 17; go_loud ((with_reducible refine (HI.out.part (a ++ b) (na + nb) Hab.out gN Hsab.out us f mu HP.out Hmu.out _ _ _ HL7.out).mono ?_); rintro e8 w8 ⟨B8, d8, rfl, hr8, hs⟩; have HU := Lib.hid hr8; replace HT := Lib.hid (HT.out.keep hs); replace h0 := Stp.trans h0 hs; clear hs hr8)))
  have H0 := Lib.hid h0
  clear h0
  have hmu8 : mu ≤ d8 := by have := HU.out.1; rw [Hmu.out] at this; exact this
  have hmt5 : mt ≤ d5 := by have := HT.out.1; rw [Hmt.out] at this; exact this
  have hpl2 : mt ≤ 1000 := by omega
  have hpm2 : mu ≤ 1000 := by omega
  have hng := Tree.noGuardN
  clear Hsz5 Ha Hb HR6 Hs6 HL7
  rcases gbad with gb | ⟨gb, gm⟩
  · go_wp2_with fail
    go_loopw [12] (fun i wr => ∃ k : Nat, k ≤ mt ∧ i = .int .i64 (k : Int) ∧ Hid (Stp w8 wr)) (fun i _ => mt - (intOf i).toNat)
    case atStart => exact ⟨0, by omega, rfl, Lib.hid (Stp.refl w8)⟩
    case round =>
      obtain ⟨k, hk, rfl, H2⟩ := hrel
      by_cases hlt : k < mt
      · obtain ⟨x, hx⟩ : ∃ x, ts[k]? = some x := ⟨_, List.getElem?_eq_getElem (by rw [Hmt.out]; exact hlt)⟩
        obtain ⟨y, hy⟩ : ∃ y, us[k]? = some y := ⟨_, List.getElem?_eq_getElem (by rw [Hmu.out]; omega)⟩
        obtain ⟨d1, d2, d3⟩ := HX.out.at_ k x y hx hy
        rw [Hmt.out] at d3
        obtain ⟨b1, o1, rfl, hb1, q0, q1, q2, q3, q4, q5, q6, q7⟩ := (HT.out.keep H2.out).cells hx
        obtain ⟨b2, o2, rfl, hb2, r0, r1, r2, r3, r4, r5, r6, r7⟩ := (HU.out.keep H2.out).cells hy
        have Hx := Lib.hid hx
        clear hx hy
        obtain ⟨y1, y2, y3, y4, y5, y6, y7, dat⟩ := y
        obtain ⟨x1, x2, x3, x4, x5, x6, x7, D⟩ := x
        simp only [Nd.mk.injEq] at d1 d2 d3 q0 q1 q2 q3 q4 q5 q6 q7 r0 r1 r2 r3 r4 r5 r6 r7
        obtain ⟨rfl, rfl, rfl, rfl, rfl, rfl, rfl, hD⟩ := d2
        have hcut : ∀ w, (Instr.slice 9 (.string ⟨dat.toArray⟩) none (some (.int .i64 (D.length : Int))) none).run Try.prog w = .ok (.string ⟨D.toArray⟩) w := fun w => by
          have := cut_h dat D.length d1 w
          rw [← hD] at this
          exact this
        have gd : decide (dat.length < D.length) = false := decide_eq_false (by omega)
        have hw1 : IntKind.i64.wrap ((mt : Int) - 1) = (mt : Int) - 1 := by rw [IntKind.wrap_i64]; omega
        have Hb := Lib.hid (Blk.new wr 23 (ncells ⟨x1, x2, x3, x4, x5, x6, x7, dat⟩))
        have heq : ∀ w, (Op.equalIn 10000 23 (nv ⟨x1, x2, x3, x4, x5, x6, x7, D⟩) (nv ⟨x1, x2, x3, x4, x5, x6, x7, D⟩)).run Try.prog w = .ok true w := fun w => by rw [Tree.eq_nodes]; simp
        by_cases hk1 : k + 1 < mt
        · have e := (d3 hk1).2.2.2.2.2.2.2
          subst e
          clear d3 hD d1
          have gk : decide ((k : Int) < (mt : Int) - 1) = true := decide_eq_true (by omega)
          go_wp2_with fail
          go_quiet (fail)
          go_wp2_with fail
          obtain ⟨W, hW⟩ : ∃ W, (wr.alloc (.cells #[.string ⟨x1.toArray⟩, .string ⟨x2.toArray⟩, .int .u8 (x3.toNat : Int), .int .i64 x4, .int .i64 x5, .int .i64 x6, .int .i64 x7, .string ⟨D.toArray⟩] 23)).drewN nq = W := ⟨_, rfl⟩
          have hsW : Stp wr W := by rw [← hW]; exact (Stp.alloc (Stp.refl wr) _).drewN nq
          have HbW := Lib.hid (show Blk W wr.heap.size 23 (ncells ⟨x1, x2, x3, x4, x5, x6, x7, D⟩) by rw [← hW]; exact Hb.out)
          rw [hW]
          clear hW Hb q0 q1 q2 q3 q4 q5 q6 q7 r0 r1 r2 r3 r4 r5 r6 r7
          have H3 := Lib.hid (Stp.trans H2.out hsW)
          have hltW := HbW.out.lt
          have hbW : b1 < wr.heap.size := hb1
          have n1 : b1 ≠ wr.heap.size := by omega
          have n2 : wr.heap.size ≠ b1 := by omega
          have q7 := (HT.out.keep H3.out).cells (j := k) Hx.out
          simp only [Option.some.injEq, Addr.mk.injEq, and_true] at q7
          obtain ⟨bb, oo, ⟨rfl, rfl⟩, -, q0, q1, q2, q3, q4, q5, q6, q7⟩ := q7
          obtain ⟨⟨s0, s1, s2, s3, s4, s5, s6, s7⟩, z0, z1, z2, z3, z4, z5, z6, z7⟩ := nzy HbW.out
          go_region
          have H4 := Lib.hid (show Stp w8 (W.setCell ⟨wr.heap.size, 7, none⟩ (.string ⟨D.toArray⟩)).drew from stp_dr1 (Below.setCell H3.out (p := ⟨wr.heap.size, 7, none⟩) H2.out.size _))
          have Hb4 := Lib.hid (show Blk (W.setCell ⟨wr.heap.size, 7, none⟩ (.string ⟨D.toArray⟩)).drew wr.heap.size 23 (ncells ⟨x1, x2, x3, x4, x5, x6, x7, D⟩) from (HbW.out.put 7 (.string ⟨D.toArray⟩)).drew)
          generalize (W.setCell ⟨wr.heap.size, 7, none⟩ (.string ⟨D.toArray⟩)).drew = W2 at H4 Hb4 ⊢
          clear q0 q1 q2 q3 q4 q5 q6 q7 s0 s1 s2 s3 s4 s5 s6 s7 z0 z1 z2 z3 z4 z5 z6 z7
          have q7 := (HT.out.keep H4.out).cells (j := k) Hx.out
          simp only [Option.some.injEq, Addr.mk.injEq, and_true] at q7
          obtain ⟨bb, oo, ⟨rfl, rfl⟩, -, q0, q1, q2, q3, q4, q5, q6, q7⟩ := q7
          obtain ⟨s0, s1, s2, s3, s4, s5, s6, s7⟩ := nd_cells Hb4.out
          go_wp2_with fail
          go_quiet (fail)
          go_wp2_with fail
          go_roundw
          case rel => exact ⟨k + 1, by omega, by go_num, Lib.hid (H4.out.drewN _)⟩
          case measure => simp [intOf]; omega
        · have gk : decide ((k : Int) < (mt : Int) - 1) = false := decide_eq_false (by omega)
          clear d3 hD d1
          go_wp2_with fail
          go_quiet (fail)
          go_wp2_with fail
          obtain ⟨W, hW⟩ : ∃ W, (wr.alloc (.cells #[.string ⟨x1.toArray⟩, .string ⟨x2.toArray⟩, .int .u8 (x3.toNat : Int), .int .i64 x4, .int .i64 x5, .int .i64 x6, .int .i64 x7, .string ⟨dat.toArray⟩] 23)).drewN nq = W := ⟨_, rfl⟩
          have hsW : Stp wr W := by rw [← hW]; exact (Stp.alloc (Stp.refl wr) _).drewN nq
          have HbW := Lib.hid (show Blk W wr.heap.size 23 (ncells ⟨x1, x2, x3, x4, x5, x6, x7, dat⟩) by rw [← hW]; exact Hb.out)
          rw [hW]
          clear hW Hb q0 q1 q2 q3 q4 q5 q6 q7 r0 r1 r2 r3 r4 r5 r6 r7
          have H3 := Lib.hid (Stp.trans H2.out hsW)
          have hltW := HbW.out.lt
          have hbW : b1 < wr.heap.size := hb1
          have n1 : b1 ≠ wr.heap.size := by omega
          have n2 : wr.heap.size ≠ b1 := by omega
          have q7 := (HT.out.keep H3.out).cells (j := k) Hx.out
          simp only [Option.some.injEq, Addr.mk.injEq, and_true] at q7
          obtain ⟨bb, oo, ⟨rfl, rfl⟩, -, q0, q1, q2, q3, q4, q5, q6, q7⟩ := q7
          obtain ⟨⟨s0, s1, s2, s3, s4, s5, s6, s7⟩, z0, z1, z2, z3, z4, z5, z6, z7⟩ := nzy HbW.out
          go_region
          have H4 := Lib.hid (show Stp w8 (W.setCell ⟨wr.heap.size, 7, none⟩ (.string ⟨D.toArray⟩)).drew from stp_dr1 (Below.setCell H3.out (p := ⟨wr.heap.size, 7, none⟩) H2.out.size _))
          have Hb4 := Lib.hid (show Blk (W.setCell ⟨wr.heap.size, 7, none⟩ (.string ⟨D.toArray⟩)).drew wr.heap.size 23 (ncells ⟨x1, x2, x3, x4, x5, x6, x7, D⟩) from (HbW.out.put 7 (.string ⟨D.toArray⟩)).drew)
          generalize (W.setCell ⟨wr.heap.size, 7, none⟩ (.string ⟨D.toArray⟩)).drew = W2 at H4 Hb4 ⊢
          clear q0 q1 q2 q3 q4 q5 q6 q7 s0 s1 s2 s3 s4 s5 s6 s7 z0 z1 z2 z3 z4 z5 z6 z7
          have q7 := (HT.out.keep H4.out).cells (j := k) Hx.out
          simp only [Option.some.injEq, Addr.mk.injEq, and_true] at q7
          obtain ⟨bb, oo, ⟨rfl, rfl⟩, -, q0, q1, q2, q3, q4, q5, q6, q7⟩ := q7
          obtain ⟨s0, s1, s2, s3, s4, s5, s6, s7⟩ := nd_cells Hb4.out
          go_wp2_with fail
          go_quiet (fail)
          go_wp2_with fail
          go_roundw
          case rel => exact ⟨k + 1, by omega, by go_num, Lib.hid (H4.out.drewN _)⟩
          case measure => simp [intOf]; omega
      · obtain rfl : k = mt := by omega
        go_wp2_with fail
        go_ret
        exact ⟨rfl, Stp.trans H0.out H2.out⟩
  · have gm' := gm.symm
    subst gm'
    go_wp2_with fail
    go_loopw [12] (fun i wr => ∃ k : Nat, k ≤ mt ∧ i = .int .i64 (k : Int) ∧ Hid (Stp w8 wr)) (fun i _ => mt - (intOf i).toNat)
    case atStart => exact ⟨0, by omega, rfl, Lib.hid (Stp.refl w8)⟩
    case round =>
      obtain ⟨k, hk, rfl, H2⟩ := hrel
      by_cases hlt : k < mt
      · obtain ⟨x, hx⟩ : ∃ x, ts[k]? = some x := ⟨_, List.getElem?_eq_getElem (by rw [Hmt.out]; exact hlt)⟩
        obtain ⟨y, hy⟩ : ∃ y, us[k]? = some y := ⟨_, List.getElem?_eq_getElem (by rw [Hmu.out]; omega)⟩
        obtain ⟨d1, d2, d3⟩ := HX.out.at_ k x y hx hy
        rw [Hmt.out] at d3
        obtain ⟨b1, o1, rfl, hb1, q0, q1, q2, q3, q4, q5, q6, q7⟩ := (HT.out.keep H2.out).cells hx
        obtain ⟨b2, o2, rfl, hb2, r0, r1, r2, r3, r4, r5, r6, r7⟩ := (HU.out.keep H2.out).cells hy
        have Hx := Lib.hid hx
        clear hx hy
        obtain ⟨y1, y2, y3, y4, y5, y6, y7, dat⟩ := y
        obtain ⟨x1, x2, x3, x4, x5, x6, x7, D⟩ := x
        simp only [Nd.mk.injEq] at d1 d2 d3 q0 q1 q2 q3 q4 q5 q6 q7 r0 r1 r2 r3 r4 r5 r6 r7
        obtain ⟨rfl, rfl, rfl, rfl, rfl, rfl, rfl, hD⟩ := d2
        have hcut : ∀ w, (Instr.slice 9 (.string ⟨dat.toArray⟩) none (some (.int .i64 (D.length : Int))) none).run Try.prog w = .ok (.string ⟨D.toArray⟩) w := fun w => by
          have := cut_h dat D.length d1 w
          rw [← hD] at this
          exact this
        have gd : decide (dat.length < D.length) = false := decide_eq_false (by omega)
        have hw1 : IntKind.i64.wrap ((mt : Int) - 1) = (mt : Int) - 1 := by rw [IntKind.wrap_i64]; omega
        have Hb := Lib.hid (Blk.new wr 23 (ncells ⟨x1, x2, x3, x4, x5, x6, x7, dat⟩))
        have heq : ∀ w, (Op.equalIn 10000 23 (nv ⟨x1, x2, x3, x4, x5, x6, x7, D⟩) (nv ⟨x1, x2, x3, x4, x5, x6, x7, D⟩)).run Try.prog w = .ok true w := fun w => by rw [Tree.eq_nodes]; simp
        by_cases hk1 : k + 1 < mt
        · have e := (d3 hk1).2.2.2.2.2.2.2
          subst e
          clear d3 hD d1
          have gk : decide ((k : Int) < (mt : Int) - 1) = true := decide_eq_true (by omega)
          go_wp2_with fail
          go_quiet (fail)
          go_wp2_with fail
          obtain ⟨W, hW⟩ : ∃ W, (wr.alloc (.cells #[.string ⟨x1.toArray⟩, .string ⟨x2.toArray⟩, .int .u8 (x3.toNat : Int), .int .i64 x4, .int .i64 x5, .int .i64 x6, .int .i64 x7, .string ⟨D.toArray⟩] 23)).drewN nq = W := ⟨_, rfl⟩
          have hsW : Stp wr W := by rw [← hW]; exact (Stp.alloc (Stp.refl wr) _).drewN nq
          have HbW := Lib.hid (show Blk W wr.heap.size 23 (ncells ⟨x1, x2, x3, x4, x5, x6, x7, D⟩) by rw [← hW]; exact Hb.out)
          rw [hW]
          clear hW Hb q0 q1 q2 q3 q4 q5 q6 q7 r0 r1 r2 r3 r4 r5 r6 r7
          have H3 := Lib.hid (Stp.trans H2.out hsW)
          have hltW := HbW.out.lt
          have hbW : b1 < wr.heap.size := hb1
          have n1 : b1 ≠ wr.heap.size := by omega
          have n2 : wr.heap.size ≠ b1 := by omega
          have q7 := (HT.out.keep H3.out).cells (j := k) Hx.out
          simp only [Option.some.injEq, Addr.mk.injEq, and_true] at q7
          obtain ⟨bb, oo, ⟨rfl, rfl⟩, -, q0, q1, q2, q3, q4, q5, q6, q7⟩ := q7
          obtain ⟨⟨s0, s1, s2, s3, s4, s5, s6, s7⟩, z0, z1, z2, z3, z4, z5, z6, z7⟩ := nzy HbW.out
          go_region
          have H4 := Lib.hid (show Stp w8 (W.setCell ⟨wr.heap.size, 7, none⟩ (.string ⟨D.toArray⟩)).drew from stp_dr1 (Below.setCell H3.out (p := ⟨wr.heap.size, 7, none⟩) H2.out.size _))
          have Hb4 := Lib.hid (show Blk (W.setCell ⟨wr.heap.size, 7, none⟩ (.string ⟨D.toArray⟩)).drew wr.heap.size 23 (ncells ⟨x1, x2, x3, x4, x5, x6, x7, D⟩) from (HbW.out.put 7 (.string ⟨D.toArray⟩)).drew)
          generalize (W.setCell ⟨wr.heap.size, 7, none⟩ (.string ⟨D.toArray⟩)).drew = W2 at H4 Hb4 ⊢
          clear q0 q1 q2 q3 q4 q5 q6 q7 s0 s1 s2 s3 s4 s5 s6 s7 z0 z1 z2 z3 z4 z5 z6 z7
          have q7 := (HT.out.keep H4.out).cells (j := k) Hx.out
          simp only [Option.some.injEq, Addr.mk.injEq, and_true] at q7
          obtain ⟨bb, oo, ⟨rfl, rfl⟩, -, q0, q1, q2, q3, q4, q5, q6, q7⟩ := q7
          obtain ⟨s0, s1, s2, s3, s4, s5, s6, s7⟩ := nd_cells Hb4.out
          go_wp2_with fail
          go_quiet (fail)
          go_wp2_with fail
          go_roundw
          case rel => exact ⟨k + 1, by omega, by go_num, Lib.hid (H4.out.drewN _)⟩
          case measure => simp [intOf]; omega
        · have gk : decide ((k : Int) < (mt : Int) - 1) = false := decide_eq_false (by omega)
          clear d3 hD d1
          go_wp2_with fail
          go_quiet (fail)
          go_wp2_with fail
          obtain ⟨W, hW⟩ : ∃ W, (wr.alloc (.cells #[.string ⟨x1.toArray⟩, .string ⟨x2.toArray⟩, .int .u8 (x3.toNat : Int), .int .i64 x4, .int .i64 x5, .int .i64 x6, .int .i64 x7, .string ⟨dat.toArray⟩] 23)).drewN nq = W := ⟨_, rfl⟩
          have hsW : Stp wr W := by rw [← hW]; exact (Stp.alloc (Stp.refl wr) _).drewN nq
          have HbW := Lib.hid (show Blk W wr.heap.size 23 (ncells ⟨x1, x2, x3, x4, x5, x6, x7, dat⟩) by rw [← hW]; exact Hb.out)
          rw [hW]
          clear hW Hb q0 q1 q2 q3 q4 q5 q6 q7 r0 r1 r2 r3 r4 r5 r6 r7
          have H3 := Lib.hid (Stp.trans H2.out hsW)
          have hltW := HbW.out.lt
          have hbW : b1 < wr.heap.size := hb1
          have n1 : b1 ≠ wr.heap.size := by omega
          have n2 : wr.heap.size ≠ b1 := by omega
          have q7 := (HT.out.keep H3.out).cells (j := k) Hx.out
          simp only [Option.some.injEq, Addr.mk.injEq, and_true] at q7
          obtain ⟨bb, oo, ⟨rfl, rfl⟩, -, q0, q1, q2, q3, q4, q5, q6, q7⟩ := q7
          obtain ⟨⟨s0, s1, s2, s3, s4, s5, s6, s7⟩, z0, z1, z2, z3, z4, z5, z6, z7⟩ := nzy HbW.out
          go_region
          have H4 := Lib.hid (show Stp w8 (W.setCell ⟨wr.heap.size, 7, none⟩ (.string ⟨D.toArray⟩)).drew from stp_dr1 (Below.setCell H3.out (p := ⟨wr.heap.size, 7, none⟩) H2.out.size _))
          have Hb4 := Lib.hid (show Blk (W.setCell ⟨wr.heap.size, 7, none⟩ (.string ⟨D.toArray⟩)).drew wr.heap.size 23 (ncells ⟨x1, x2, x3, x4, x5, x6, x7, D⟩) from (HbW.out.put 7 (.string ⟨D.toArray⟩)).drew)
          generalize (W.setCell ⟨wr.heap.size, 7, none⟩ (.string ⟨D.toArray⟩)).drew = W2 at H4 Hb4 ⊢
          clear q0 q1 q2 q3 q4 q5 q6 q7 s0 s1 s2 s3 s4 s5 s6 s7 z0 z1 z2 z3 z4 z5 z6 z7
          have q7 := (HT.out.keep H4.out).cells (j := k) Hx.out
          simp only [Option.some.injEq, Addr.mk.injEq, and_true] at q7
          obtain ⟨bb, oo, ⟨rfl, rfl⟩, -, q0, q1, q2, q3, q4, q5, q6, q7⟩ := q7
          obtain ⟨s0, s1, s2, s3, s4, s5, s6, s7⟩ := nd_cells Hb4.out
          go_wp2_with fail
          go_quiet (fail)
          go_wp2_with fail
          go_roundw
          case rel => exact ⟨k + 1, by omega, by go_num, Lib.hid (H4.out.drewN _)⟩
          case measure => simp [intOf]; omega
      · obtain rfl : k = mt := by omega
        go_wp2_with fail
        go_ret
        exact ⟨rfl, Stp.trans H0.out H2.out⟩

theorem goes_s (I : ReadI) (a b : List L) (na nb : Nat) (hna : a.length = na) (hnb : b.length = nb) (A B : Option Addr) (c d : Nat) (w : World) (ha : RdL w A c a) (hb : RdL w B d b) (hla : na < 9223372036854775808) (hlb : nb < 9223372036854775808) (hsa : ∀ x ∈ a, x.length < 9223372036854775808) (hsb : ∀ x ∈ b, x.length < 9223372036854775808) :
    Calls Try.prog 5 #[.slice A na c, .slice B nb d] w fun e w' => e = .returned (.bool true) ∧ Stp w w' := by
  by_cases h : Block.fewV a = true ∧ Block.fewV b = true ∧ nb ≤ 30
  · exact goes_yes I a b na nb hna hnb A B c d w ha hb hsa hsb h.1 h.2.1 h.2.2
  · refine goes_no I a b na nb hna hnb A B c d w ha hb hla hlb hsa hsb _ _ rfl rfl _ rfl ?_
    cases hF : Block.fewV a with
    | false => exact .inl rfl
    | true =>
      cases hG : Block.fewV b with
      | false => exact .inr (.inl rfl)
      | true => exact .inr (.inr (decide_eq_true (by have := Nat.lt_of_not_le (fun q => h ⟨hF, hG, q⟩); omega)))
end Go.Proofs.Ytieefnnfnimflaa.Read

namespace Go.Proofs.Ytieefnnfnimflaa.readGoes
open Go.ChangeShapes Go.WideShapes Go.ChangeAt Go.RowKit Go.Proofs.Ytieefnnfnimflaa.Base Go.Proofs.Ytieefnnfnimflaa.Frame
open Go.ChangeMaps (open_string shut_string)
set_option linter.unusedVariables false

theorem own : ownKnob Try.prog.godebug = none := by kernel_rfl
theorem laidOut : laidOutB Try.prog = true := by kernel_rfl

set_option maxRecDepth 100000 in
theorem lifted (os : Os) (started : os.Started) (H : Type) (enc : TypeId × Value → H) :
    ReturnsInHanded {} Try.checked os 5 .any (Rows.readGoesSpec.pre6 enc Try.prog Try.f5 Rows.readGoesRow.domain false) (Rows.readGoesSpec.post enc Try.prog Try.f5 false true false false) := by
  refine returnsInHanded_of_change (C := Try.checked) own started (by kernel_rfl) Try.func5
    (ChangeSpec.witness6 (enc := enc) (C := Try.checked) false ⟨#[], #[.slice none 0 0, .slice none 0 0], []⟩ 8 (by kernel_rfl) (by kernel_rfl) (by kernel_rfl) (by kernel_rfl)) ?_
  intro W base args ds gs before hval0 hW hcnd _
  have hval : ∀ (j : Nat) t v, Try.f5.params[j]? = some t → args[j]? = some v → Value.okWide Try.prog W .any base t v := hval0
  have hW' := hW
  obtain ⟨p, q, hA0, hV, rfl, hfz, hnd⟩ := hW
  have hA : DataW.TrodAll enc Try.prog W 0 (fun _ => true) true Try.f5.params.toList args.toList ds p := hA0
  rw [Try.params5] at hA hval
  obtain ⟨v0, vs0, d0, ds0, p0, q0, hargs, rfl, rfl, h0, r0x⟩ := trodAll_cons hA
  obtain ⟨v1, vs1, d1, ds1, p1, q1, rfl, rfl, rfl, h1, r1x⟩ := trodAll_cons r0x
  obtain ⟨rfl, rfl, rfl⟩ := trodAll_nil r1x
  obtain rfl : args = #[v0, v1] := by cases args; simp_all
  obtain ⟨rfl, rfl⟩ := trodVars_none hV
  obtain ⟨A0, len0, cap0, rfl⟩ := okWide_slice Try.underlying27 (hval 0 27 v0 rfl rfl)
  have k0 := h0
  have lt0 : ∀ x ∈ p0, x.block < W.heap.size := by obtain ⟨m, hm⟩ := k0; exact DataW.trod_lt m _ _ _ hm
  obtain ⟨a0, rfl, r0, n0, m0⟩ : ∃ ls : List (List UInt8), ls.length = len0 ∧ RdL W A0 cap0 ls ∧ (∀ l ∈ ls, l.length < 9223372036854775808) ∧ len0 < 9223372036854775808 := by
    obtain ⟨fuel, hf⟩ := h0
    refine rdL_of_rows ?_
    rcases Deep.open_int_rows Try.underlying27 Try.underlying24 Try.underlying5 (by kernel_rfl) (by kernel_rfl) hf with ⟨hcs, _⟩ | ⟨x, l, c, AA, LL, CC, ZZ, hcs, _, hl, hm, _, hr⟩
    · simp [Value.cells] at hcs
      exact .inl hcs
    · simp [Value.cells] at hcs
      obtain ⟨rfl, rfl, rfl⟩ := hcs
      exact .inr ⟨x, AA, LL, CC, ZZ, rfl, hl, hm, fun r hlt => by obtain ⟨q1, q2, q3, q4, q5, q6, q7⟩ := hr r hlt; exact ⟨q1, q2, q3, q4, q5, q6, fun a' e => (q7 a' e).2⟩⟩
  obtain ⟨A1, len1, cap1, rfl⟩ := okWide_slice Try.underlying27 (hval 1 27 v1 rfl rfl)
  have k1 := h1
  have lt1 : ∀ x ∈ p1, x.block < W.heap.size := by obtain ⟨m, hm⟩ := k1; exact DataW.trod_lt m _ _ _ hm
  obtain ⟨a1, rfl, r1, n1, m1⟩ : ∃ ls : List (List UInt8), ls.length = len1 ∧ RdL W A1 cap1 ls ∧ (∀ l ∈ ls, l.length < 9223372036854775808) ∧ len1 < 9223372036854775808 := by
    obtain ⟨fuel, hf⟩ := h1
    refine rdL_of_rows ?_
    rcases Deep.open_int_rows Try.underlying27 Try.underlying24 Try.underlying5 (by kernel_rfl) (by kernel_rfl) hf with ⟨hcs, _⟩ | ⟨x, l, c, AA, LL, CC, ZZ, hcs, _, hl, hm, _, hr⟩
    · simp [Value.cells] at hcs
      exact .inl hcs
    · simp [Value.cells] at hcs
      obtain ⟨rfl, rfl, rfl⟩ := hcs
      exact .inr ⟨x, AA, LL, CC, ZZ, rfl, hl, hm, fun r hlt => by obtain ⟨q1, q2, q3, q4, q5, q6, q7⟩ := hr r hlt; exact ⟨q1, q2, q3, q4, q5, q6, fun a' e => (q7 a' e).2⟩⟩
  clear hA0 hval0
  refine (Read.goes_s (Read.readI Parse.parseI) a0 a1 _ _ rfl rfl _ _ _ _ W r0 r1 m0 m1 n0 n1).mono fun e W' ⟨he, bel⟩ => ?_
  subst he
  exact ⟨_, rfl, _, _, _, [], _, [], hW', trodAll_mk1 (shut_bool Try.underlying4 _), (trodAll_cons_mk (Below.trod laidOut (by kernel_rfl) (of_decide_eq_true (by kernel_rfl)) k0 bel lt0) (trodAll_cons_mk (Below.trod laidOut (by kernel_rfl) (of_decide_eq_true (by kernel_rfl)) k1 bel lt1) trodAll_mk0)), rfl, bel.frame _, fun h => by cases h⟩

theorem over : Rows.readGoesRow.holds Try.pinned (OpenSpec.ofChange Rows.readGoesSpec) :=
  OpenClaim.holds_of_wide 5 Try.f5 rfl rfl rfl rfl rfl rfl rfl ⟨rfl, rfl, rfl, rfl, rfl⟩ rfl rfl rfl rfl rfl (by kernel_rfl) Try.func5 (by kernel_rfl)
    (of_decide_eq_true (by kernel_rfl)) (by unfold Func.isWrapper; first | (rw [if_pos (by decide +kernel)]; kernel_rfl) | (rw [if_neg (by decide +kernel)]; exact ⟨rfl, rfl⟩))
    (fun os started H enc _ => lifted os started H enc)

/-- The statement. -/
theorem proved : Rows.ReadGoesSaid := over
#print axioms proved
end Go.Proofs.Ytieefnnfnimflaa.readGoes

