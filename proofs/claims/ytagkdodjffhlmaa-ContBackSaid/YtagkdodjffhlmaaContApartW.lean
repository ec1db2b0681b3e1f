/-
  The law ContApart, walked over the contracts: no statement is proved here.
-/
import Derived.Test.YtagkdodjffhlmaaContI
import Derived.Test.YtagkdodjffhlmaaTreeOne
import Derived.Test.YtagkdodjffhlmaaBlockRef
namespace Go.Proofs.Ytagkdodjffhlmaa.Cont
open Go.RowKit Go.Proofs.Ytagkdodjffhlmaa.Str Go.Proofs.Ytagkdodjffhlmaa.Base Go.Proofs.Ytagkdodjffhlmaa.Node Go.Proofs.Ytagkdodjffhlmaa.Head Go.Proofs.Ytagkdodjffhlmaa.Long Go.Proofs.Ytagkdodjffhlmaa.ContM
open Go.Proofs.Ytagkdodjffhlmaa.Tree (oneB)
set_option linter.unusedVariables false

theorem rsame_w (ls ms : List L) (j k : Nat) (hj : ls.length = j) (hk : ms.length = k) (A B : Option Addr) (c d : Nat) (w : World) (ha : RdL w A c ls) (hb : RdL w B d ms) (hl : j < 9223372036854775808) (hm : k < 9223372036854775808) (b : Bool) (hb' : (ls == ms) = b) :
    Calls Try.prog 17 #[.slice A j c, .slice B k d] w fun e w' => e = .returned (.bool b) ∧ Stp w w' := by
  subst hj hk hb'
  exact Block.rsame_s ls ms A B c d w ha hb hl hm
theorem put_few (n : Nd) (off : Int) : (putC n off).length < 9223372036854775808 := by
  rw [putC]
  split
  · rw [List.length_append, aheadC_length]
    split <;> simp
  · simp
set_option maxRecDepth 100000 in
set_option maxHeartbeats 8000000 in
theorem apart_walk (I : ContI) (n : Nd) (hn : SmallN n) (off : Int) (m : Nd) (hm : SmallN m) (at_ : Int) (w : World) :
    Calls Try.prog 6 #[nv n, .int .i64 off, nv m, .int .i64 at_] w fun e w' => e = .returned (.bool true) ∧ Stp w w' := by
  have h0 := Lib.hid (Stp.alloc (Stp.alloc (Stp.refl w) (.cells (ncells n) 23)) (.cells (ncells m) 23))
  have Hb := Lib.hid ((Blk.new w 23 (ncells n)).alloc (.cells (ncells m) 23))
  have hd0 := Blk.new (w.alloc (.cells (ncells n) 23)) 23 (ncells m)
  rw [World.size_alloc] at hd0
  have Hd := Lib.hid hd0
  obtain ⟨q0, q1, q2, q3, q4, q5, q6, q7⟩ := nd_cells Hb.out
  obtain ⟨r0, r1, r2, r3, r4, r5, r6, r7⟩ := nd_cells Hd.out
  have HI := Lib.hid I
  have HA := Lib.hid (awake_s I)
  have Hn := Lib.hid hn
  have Hm := Lib.hid hm
  obtain ⟨b1, hf1⟩ : ∃ b, fewN n = b := ⟨_, rfl⟩
  obtain ⟨b2, hf2⟩ : ∃ b, fewN m = b := ⟨_, rfl⟩
  obtain ⟨P, hP⟩ : ∃ P, putC n off = P := ⟨_, rfl⟩
  obtain ⟨Q, hQ⟩ : ∃ P, putC m at_ = P := ⟨_, rfl⟩
  obtain ⟨z, hz⟩ : ∃ z, P.length = z := ⟨_, rfl⟩
  obtain ⟨y, hy⟩ : ∃ z, Q.length = z := ⟨_, rfl⟩
  obtain ⟨mb, hmb⟩ : ∃ b, mayC n off = b := ⟨_, rfl⟩
  obtain ⟨md, hmd⟩ : ∃ b, mayC m at_ = b := ⟨_, rfl⟩
  obtain ⟨sm, hsm⟩ : ∃ b, (P == Q) = b := ⟨_, rfl⟩
  obtain ⟨dn, hdn⟩ : ∃ d, decide (bare n = bare m) = d := ⟨_, rfl⟩
  obtain ⟨d2, k2⟩ : ∃ d, (off == at_) = d := ⟨_, rfl⟩
  obtain ⟨d3, k3⟩ : ∃ d, ((n.data.length : Int) == (m.data.length : Int)) = d := ⟨_, rfl⟩
  have hz3 := put_few n off
  rw [hP, hz] at hz3
  have hy3 := put_few m at_
  rw [hQ, hy] at hy3
  have key : mb = false ∨ (mb = true ∧ md = false) ∨ (mb = true ∧ md = true ∧ sm = (dn && d2 && d3)) := by
    cases hx : mb
    · exact .inl rfl
    · cases hx2 : md
      · exact .inr (.inl ⟨rfl, rfl⟩)
      · refine .inr (.inr ⟨rfl, rfl, ?_⟩)
        have h := putC_inj (hmb.trans hx) (hmd.trans hx2)
        rw [hP, hQ] at h
        rw [← hsm, ← hdn, ← k2, ← k3, Bool.eq_iff_iff, beq_iff_eq, h]
        simp only [Bool.and_eq_true, decide_eq_true_eq, beq_iff_eq]
        constructor
        · rintro ⟨a, b, c⟩
          exact ⟨⟨a, b⟩, by omega⟩
        · rintro ⟨⟨a, b⟩, c⟩
          exact ⟨a, b, by omega⟩
  have heq : ∀ w : World, (Op.equalIn 10000 23 (.agg #[.string ⟨n.path.toArray⟩, .string ⟨n.link.toArray⟩, .int .u8 (n.kind.toNat : Int), .int .i64 n.mode, .int .i64 n.uid, .int .i64 n.gid, .int .i64 n.time, .string ⟨#[]⟩]) (.agg #[.string ⟨m.path.toArray⟩, .string ⟨m.link.toArray⟩, .int .u8 (m.kind.toNat : Int), .int .i64 m.mode, .int .i64 m.uid, .int .i64 m.gid, .int .i64 m.time, .string ⟨#[]⟩])).run Try.prog w = .ok dn w := fun w => by
    rw [← hdn]
    exact Tree.eq_nodes (bare n) (bare m) w
  have hng := Tree.noGuardN
  have F1 := Lib.hid hf1
  have F2 := Lib.hid hf2
  have HP := Lib.hid hP
  have HQ := Lib.hid hQ
  have Hz := Lib.hid hz
  have Hy := Lib.hid hy
  have Hz3 := Lib.hid hz3
  have Hy3 := Lib.hid hy3
  have Hmb := Lib.hid hmb
  have Hmd := Lib.hid hmd
  have Hsm := Lib.hid hsm
  have g1 : w.heap.size < w.heap.size + 1 := Nat.lt_succ_self _
  clear I hn hm hd0 hf1 hf2 hP hQ hz hy hz3 hy3 hmb hmd hsm hdn
  have fin : b1 = false ∨ (b1 = true ∧ b2 = false) ∨ (b1 = true ∧ b2 = true) := by cases b1 <;> cases b2 <;> simp
  rcases fin with rfl | ⟨rfl, rfl⟩ | ⟨rfl, rfl⟩
  · go_enter Try.func6, Try.ntmps6
    go_wp2_with (first
      | (go_at_call 8; refine (HA.out _).mono ?_; rintro e w1 ⟨rfl, hs⟩; replace h0 := Lib.hid (Stp.trans h0.out hs); replace Hb := Lib.hid (Hb.out.keep hs Hb.out.lt); replace Hd := Lib.hid (Hd.out.keep hs Hd.out.lt); clear hs q0 q1 q2 q3 q4 q5 q6 q7 r0 r1 r2 r3 r4 r5 r6 r7; obtain ⟨q0, q1, q2, q3, q4, q5, q6, q7⟩ := nd_cells Hb.out; obtain ⟨r0, r1, r2, r3, r4, r5, r6, r7⟩ := nd_cells Hd.out)
      | (go_at_call 9; (with_reducible refine (Long.few_s n _).mono ?_); rintro e w2 ⟨rfl, hs⟩; rw [F1.out]; replace h0 := Lib.hid (Stp.trans h0.out hs); replace Hb := Lib.hid (Hb.out.keep hs Hb.out.lt); replace Hd := Lib.hid (Hd.out.keep hs Hd.out.lt); clear hs q0 q1 q2 q3 q4 q5 q6 q7 r0 r1 r2 r3 r4 r5 r6 r7; obtain ⟨q0, q1, q2, q3, q4, q5, q6, q7⟩ := nd_cells Hb.out; obtain ⟨r0, r1, r2, r3, r4, r5, r6, r7⟩ := nd_cells Hd.out)
      | (go_at_call 9; (with_reducible refine (Long.few_s m _).mono ?_); rintro e w3 ⟨rfl, hs⟩; rw [F2.out]; replace h0 := Lib.hid (Stp.trans h0.out hs); replace Hb := Lib.hid (Hb.out.keep hs Hb.out.lt); replace Hd := Lib.hid (Hd.out.keep hs Hd.out.lt); clear hs q0 q1 q2 q3 q4 q5 q6 q7 r0 r1 r2 r3 r4 r5 r6 r7; obtain ⟨q0, q1, q2, q3, q4, q5, q6, q7⟩ := nd_cells Hb.out; obtain ⟨r0, r1, r2, r3, r4, r5, r6, r7⟩ := nd_cells Hd.out))
    go_ret
    exact ⟨rfl, h0.out⟩
  · go_enter Try.func6, Try.ntmps6
    go_wp2_with (first
      | (go_at_call 8; refine (HA.out _).mono ?_; rintro e w1 ⟨rfl, hs⟩; replace h0 := Lib.hid (Stp.trans h0.out hs); replace Hb := Lib.hid (Hb.out.keep hs Hb.out.lt); replace Hd := Lib.hid (Hd.out.keep hs Hd.out.lt); clear hs q0 q1 q2 q3 q4 q5 q6 q7 r0 r1 r2 r3 r4 r5 r6 r7; obtain ⟨q0, q1, q2, q3, q4, q5, q6, q7⟩ := nd_cells Hb.out; obtain ⟨r0, r1, r2, r3, r4, r5, r6, r7⟩ := nd_cells Hd.out)
      | (go_at_call 9; (with_reducible refine (Long.few_s n _).mono ?_); rintro e w2 ⟨rfl, hs⟩; rw [F1.out]; replace h0 := Lib.hid (Stp.trans h0.out hs); replace Hb := Lib.hid (Hb.out.keep hs Hb.out.lt); replace Hd := Lib.hid (Hd.out.keep hs Hd.out.lt); clear hs q0 q1 q2 q3 q4 q5 q6 q7 r0 r1 r2 r3 r4 r5 r6 r7; obtain ⟨q0, q1, q2, q3, q4, q5, q6, q7⟩ := nd_cells Hb.out; obtain ⟨r0, r1, r2, r3, r4, r5, r6, r7⟩ := nd_cells Hd.out)
      | (go_at_call 9; (with_reducible refine (Long.few_s m _).mono ?_); rintro e w3 ⟨rfl, hs⟩; rw [F2.out]; replace h0 := Lib.hid (Stp.trans h0.out hs); replace Hb := Lib.hid (Hb.out.keep hs Hb.out.lt); replace Hd := Lib.hid (Hd.out.keep hs Hd.out.lt); clear hs q0 q1 q2 q3 q4 q5 q6 q7 r0 r1 r2 r3 r4 r5 r6 r7; obtain ⟨q0, q1, q2, q3, q4, q5, q6, q7⟩ := nd_cells Hb.out; obtain ⟨r0, r1, r2, r3, r4, r5, r6, r7⟩ := nd_cells Hd.out))
    go_ret
    exact ⟨rfl, h0.out⟩
  · rcases key with rfl | ⟨rfl, rfl⟩ | ⟨rfl, rfl, rfl⟩
    · go_enter Try.func6, Try.ntmps6
      go_wp2_with (first
        | (go_at_call 8; refine (HA.out _).mono ?_; rintro e w1 ⟨rfl, hs⟩; replace h0 := Lib.hid (Stp.trans h0.out hs); replace Hb := Lib.hid (Hb.out.keep hs Hb.out.lt); replace Hd := Lib.hid (Hd.out.keep hs Hd.out.lt); clear hs q0 q1 q2 q3 q4 q5 q6 q7 r0 r1 r2 r3 r4 r5 r6 r7; obtain ⟨q0, q1, q2, q3, q4, q5, q6, q7⟩ := nd_cells Hb.out; obtain ⟨r0, r1, r2, r3, r4, r5, r6, r7⟩ := nd_cells Hd.out)
        | (go_at_call 9; (with_reducible refine (Long.few_s n _).mono ?_); rintro e w2 ⟨rfl, hs⟩; rw [F1.out]; replace h0 := Lib.hid (Stp.trans h0.out hs); replace Hb := Lib.hid (Hb.out.keep hs Hb.out.lt); replace Hd := Lib.hid (Hd.out.keep hs Hd.out.lt); clear hs q0 q1 q2 q3 q4 q5 q6 q7 r0 r1 r2 r3 r4 r5 r6 r7; obtain ⟨q0, q1, q2, q3, q4, q5, q6, q7⟩ := nd_cells Hb.out; obtain ⟨r0, r1, r2, r3, r4, r5, r6, r7⟩ := nd_cells Hd.out)
        | (go_at_call 9; (with_reducible refine (Long.few_s m _).mono ?_); rintro e w3 ⟨rfl, hs⟩; rw [F2.out]; replace h0 := Lib.hid (Stp.trans h0.out hs); replace Hb := Lib.hid (Hb.out.keep hs Hb.out.lt); replace Hd := Lib.hid (Hd.out.keep hs Hd.out.lt); clear hs q0 q1 q2 q3 q4 q5 q6 q7 r0 r1 r2 r3 r4 r5 r6 r7; obtain ⟨q0, q1, q2, q3, q4, q5, q6, q7⟩ := nd_cells Hb.out; obtain ⟨r0, r1, r2, r3, r4, r5, r6, r7⟩ := nd_cells Hd.out)
        | (go_at_call 10; (with_reducible refine (HI.out.put n _ rfl Hn.out off P HP.out z Hz.out _ Hmb.out _).mono ?_); rintro e w4 ⟨A4, c4, rfl, hr, hs⟩; replace h0 := Lib.hid (Stp.trans h0.out hs); replace Hb := Lib.hid (Hb.out.keep hs Hb.out.lt); replace Hd := Lib.hid (Hd.out.keep hs Hd.out.lt); have HR4 := Lib.hid hr; clear hr hs q0 q1 q2 q3 q4 q5 q6 q7 r0 r1 r2 r3 r4 r5 r6 r7; obtain ⟨q0, q1, q2, q3, q4, q5, q6, q7⟩ := nd_cells Hb.out; obtain ⟨r0, r1, r2, r3, r4, r5, r6, r7⟩ := nd_cells Hd.out)
        | (go_at_call 10; (with_reducible refine (HI.out.put m _ rfl Hm.out at_ Q HQ.out y Hy.out _ Hmd.out _).mono ?_); rintro e w5 ⟨A5, c5, rfl, hr, hs⟩; replace h0 := Lib.hid (Stp.trans h0.out hs); replace Hb := Lib.hid (Hb.out.keep hs Hb.out.lt); replace Hd := Lib.hid (Hd.out.keep hs Hd.out.lt); replace HR4 := Lib.hid (HR4.out.keep hs); have HR5 := Lib.hid hr; clear hr hs q0 q1 q2 q3 q4 q5 q6 q7 r0 r1 r2 r3 r4 r5 r6 r7; obtain ⟨q0, q1, q2, q3, q4, q5, q6, q7⟩ := nd_cells Hb.out; obtain ⟨r0, r1, r2, r3, r4, r5, r6, r7⟩ := nd_cells Hd.out)
        | (go_at_call 17; (with_reducible refine (rsame_w P Q z y Hz.out Hy.out A4 A5 c4 c5 _ HR4.out HR5.out Hz3.out Hy3.out _ Hsm.out).mono ?_); rintro e w6 ⟨rfl, hs⟩; replace h0 := Lib.hid (Stp.trans h0.out hs); replace Hb := Lib.hid (Hb.out.keep hs Hb.out.lt); replace Hd := Lib.hid (Hd.out.keep hs Hd.out.lt); have hlt1 := Hb.out.lt; have hlt2 := Hd.out.lt; clear hs HR4 HR5 q0 q1 q2 q3 q4 q5 q6 q7 r0 r1 r2 r3 r4 r5 r6 r7; obtain ⟨q0, q1, q2, q3, q4, q5, q6, q7⟩ := nd_cells Hb.out; obtain ⟨r0, r1, r2, r3, r4, r5, r6, r7⟩ := nd_cells Hd.out))
      go_ret
      exact ⟨rfl, Stp.alloc (Stp.alloc h0.out _) _⟩
    · go_enter Try.func6, Try.ntmps6
      go_wp2_with (first
        | (go_at_call 8; refine (HA.out _).mono ?_; rintro e w1 ⟨rfl, hs⟩; replace h0 := Lib.hid (Stp.trans h0.out hs); replace Hb := Lib.hid (Hb.out.keep hs Hb.out.lt); replace Hd := Lib.hid (Hd.out.keep hs Hd.out.lt); clear hs q0 q1 q2 q3 q4 q5 q6 q7 r0 r1 r2 r3 r4 r5 r6 r7; obtain ⟨q0, q1, q2, q3, q4, q5, q6, q7⟩ := nd_cells Hb.out; obtain ⟨r0, r1, r2, r3, r4, r5, r6, r7⟩ := nd_cells Hd.out)
        | (go_at_call 9; (with_reducible refine (Long.few_s n _).mono ?_); rintro e w2 ⟨rfl, hs⟩; rw [F1.out]; replace h0 := Lib.hid (Stp.trans h0.out hs); replace Hb := Lib.hid (Hb.out.keep hs Hb.out.lt); replace Hd := Lib.hid (Hd.out.keep hs Hd.out.lt); clear hs q0 q1 q2 q3 q4 q5 q6 q7 r0 r1 r2 r3 r4 r5 r6 r7; obtain ⟨q0, q1, q2, q3, q4, q5, q6, q7⟩ := nd_cells Hb.out; obtain ⟨r0, r1, r2, r3, r4, r5, r6, r7⟩ := nd_cells Hd.out)
        | (go_at_call 9; (with_reducible refine (Long.few_s m _).mono ?_); rintro e w3 ⟨rfl, hs⟩; rw [F2.out]; replace h0 := Lib.hid (Stp.trans h0.out hs); replace Hb := Lib.hid (Hb.out.keep hs Hb.out.lt); replace Hd := Lib.hid (Hd.out.keep hs Hd.out.lt); clear hs q0 q1 q2 q3 q4 q5 q6 q7 r0 r1 r2 r3 r4 r5 r6 r7; obtain ⟨q0, q1, q2, q3, q4, q5, q6, q7⟩ := nd_cells Hb.out; obtain ⟨r0, r1, r2, r3, r4, r5, r6, r7⟩ := nd_cells Hd.out)
        | (go_at_call 10; (with_reducible refine (HI.out.put n _ rfl Hn.out off P HP.out z Hz.out _ Hmb.out _).mono ?_); rintro e w4 ⟨A4, c4, rfl, hr, hs⟩; replace h0 := Lib.hid (Stp.trans h0.out hs); replace Hb := Lib.hid (Hb.out.keep hs Hb.out.lt); replace Hd := Lib.hid (Hd.out.keep hs Hd.out.lt); have HR4 := Lib.hid hr; clear hr hs q0 q1 q2 q3 q4 q5 q6 q7 r0 r1 r2 r3 r4 r5 r6 r7; obtain ⟨q0, q1, q2, q3, q4, q5, q6, q7⟩ := nd_cells Hb.out; obtain ⟨r0, r1, r2, r3, r4, r5, r6, r7⟩ := nd_cells Hd.out)
        | (go_at_call 10; (with_reducible refine (HI.out.put m _ rfl Hm.out at_ Q HQ.out y Hy.out _ Hmd.out _).mono ?_); rintro e w5 ⟨A5, c5, rfl, hr, hs⟩; replace h0 := Lib.hid (Stp.trans h0.out hs); replace Hb := Lib.hid (Hb.out.keep hs Hb.out.lt); replace Hd := Lib.hid (Hd.out.keep hs Hd.out.lt); replace HR4 := Lib.hid (HR4.out.keep hs); have HR5 := Lib.hid hr; clear hr hs q0 q1 q2 q3 q4 q5 q6 q7 r0 r1 r2 r3 r4 r5 r6 r7; obtain ⟨q0, q1, q2, q3, q4, q5, q6, q7⟩ := nd_cells Hb.out; obtain ⟨r0, r1, r2, r3, r4, r5, r6, r7⟩ := nd_cells Hd.out)
        | (go_at_call 17; (with_reducible refine (rsame_w P Q z y Hz.out Hy.out A4 A5 c4 c5 _ HR4.out HR5.out Hz3.out Hy3.out _ Hsm.out).mono ?_); rintro e w6 ⟨rfl, hs⟩; replace h0 := Lib.hid (Stp.trans h0.out hs); replace Hb := Lib.hid (Hb.out.keep hs Hb.out.lt); replace Hd := Lib.hid (Hd.out.keep hs Hd.out.lt); have hlt1 := Hb.out.lt; have hlt2 := Hd.out.lt; clear hs HR4 HR5 q0 q1 q2 q3 q4 q5 q6 q7 r0 r1 r2 r3 r4 r5 r6 r7; obtain ⟨q0, q1, q2, q3, q4, q5, q6, q7⟩ := nd_cells Hb.out; obtain ⟨r0, r1, r2, r3, r4, r5, r6, r7⟩ := nd_cells Hd.out))
      go_ret
      exact ⟨rfl, Stp.alloc (Stp.alloc h0.out _) _⟩
    · cases dn <;> cases d2 <;> cases d3
      all_goals
        go_enter Try.func6, Try.ntmps6
        go_wp2_with (first
          | (go_at_call 8; refine (HA.out _).mono ?_; rintro e w1 ⟨rfl, hs⟩; replace h0 := Lib.hid (Stp.trans h0.out hs); replace Hb := Lib.hid (Hb.out.keep hs Hb.out.lt); replace Hd := Lib.hid (Hd.out.keep hs Hd.out.lt); clear hs q0 q1 q2 q3 q4 q5 q6 q7 r0 r1 r2 r3 r4 r5 r6 r7; obtain ⟨q0, q1, q2, q3, q4, q5, q6, q7⟩ := nd_cells Hb.out; obtain ⟨r0, r1, r2, r3, r4, r5, r6, r7⟩ := nd_cells Hd.out)
          | (go_at_call 9; (with_reducible refine (Long.few_s n _).mono ?_); rintro e w2 ⟨rfl, hs⟩; rw [F1.out]; replace h0 := Lib.hid (Stp.trans h0.out hs); replace Hb := Lib.hid (Hb.out.keep hs Hb.out.lt); replace Hd := Lib.hid (Hd.out.keep hs Hd.out.lt); clear hs q0 q1 q2 q3 q4 q5 q6 q7 r0 r1 r2 r3 r4 r5 r6 r7; obtain ⟨q0, q1, q2, q3, q4, q5, q6, q7⟩ := nd_cells Hb.out; obtain ⟨r0, r1, r2, r3, r4, r5, r6, r7⟩ := nd_cells Hd.out)
          | (go_at_call 9; (with_reducible refine (Long.few_s m _).mono ?_); rintro e w3 ⟨rfl, hs⟩; rw [F2.out]; replace h0 := Lib.hid (Stp.trans h0.out hs); replace Hb := Lib.hid (Hb.out.keep hs Hb.out.lt); replace Hd := Lib.hid (Hd.out.keep hs Hd.out.lt); clear hs q0 q1 q2 q3 q4 q5 q6 q7 r0 r1 r2 r3 r4 r5 r6 r7; obtain ⟨q0, q1, q2, q3, q4, q5, q6, q7⟩ := nd_cells Hb.out; obtain ⟨r0, r1, r2, r3, r4, r5, r6, r7⟩ := nd_cells Hd.out)
          | (go_at_call 10; (with_reducible refine (HI.out.put n _ rfl Hn.out off P HP.out z Hz.out _ Hmb.out _).mono ?_); rintro e w4 ⟨A4, c4, rfl, hr, hs⟩; replace h0 := Lib.hid (Stp.trans h0.out hs); replace Hb := Lib.hid (Hb.out.keep hs Hb.out.lt); replace Hd := Lib.hid (Hd.out.keep hs Hd.out.lt); have HR4 := Lib.hid hr; clear hr hs q0 q1 q2 q3 q4 q5 q6 q7 r0 r1 r2 r3 r4 r5 r6 r7; obtain ⟨q0, q1, q2, q3, q4, q5, q6, q7⟩ := nd_cells Hb.out; obtain ⟨r0, r1, r2, r3, r4, r5, r6, r7⟩ := nd_cells Hd.out)
          | (go_at_call 10; (with_reducible refine (HI.out.put m _ rfl Hm.out at_ Q HQ.out y Hy.out _ Hmd.out _).mono ?_); rintro e w5 ⟨A5, c5, rfl, hr, hs⟩; replace h0 := Lib.hid (Stp.trans h0.out hs); replace Hb := Lib.hid (Hb.out.keep hs Hb.out.lt); replace Hd := Lib.hid (Hd.out.keep hs Hd.out.lt); replace HR4 := Lib.hid (HR4.out.keep hs); have HR5 := Lib.hid hr; clear hr hs q0 q1 q2 q3 q4 q5 q6 q7 r0 r1 r2 r3 r4 r5 r6 r7; obtain ⟨q0, q1, q2, q3, q4, q5, q6, q7⟩ := nd_cells Hb.out; obtain ⟨r0, r1, r2, r3, r4, r5, r6, r7⟩ := nd_cells Hd.out)
          | (go_at_call 17; (with_reducible refine (rsame_w P Q z y Hz.out Hy.out A4 A5 c4 c5 _ HR4.out HR5.out Hz3.out Hy3.out _ Hsm.out).mono ?_); rintro e w6 ⟨rfl, hs⟩; replace h0 := Lib.hid (Stp.trans h0.out hs); replace Hb := Lib.hid (Hb.out.keep hs Hb.out.lt); replace Hd := Lib.hid (Hd.out.keep hs Hd.out.lt); have hlt1 := Hb.out.lt; have hlt2 := Hd.out.lt; clear hs HR4 HR5 q0 q1 q2 q3 q4 q5 q6 q7 r0 r1 r2 r3 r4 r5 r6 r7; obtain ⟨q0, q1, q2, q3, q4, q5, q6, q7⟩ := nd_cells Hb.out; obtain ⟨r0, r1, r2, r3, r4, r5, r6, r7⟩ := nd_cells Hd.out))
        go_ret
        exact ⟨rfl, Stp.alloc (Stp.alloc h0.out _) _⟩
end Go.Proofs.Ytagkdodjffhlmaa.Cont
