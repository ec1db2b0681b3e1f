/-
  The law ContBack, walked over the contracts: no statement is proved here.
-/
import Derived.Test.YtagkdodjffhlmaaContI
import Derived.Test.YtagkdodjffhlmaaTreeOne
import Derived.Deep.Cut
namespace Go.Proofs.Ytagkdodjffhlmaa.Cont
open Go.RowKit Go.Proofs.Ytagkdodjffhlmaa.Str Go.Proofs.Ytagkdodjffhlmaa.Base Go.Proofs.Ytagkdodjffhlmaa.Node Go.Proofs.Ytagkdodjffhlmaa.Head Go.Proofs.Ytagkdodjffhlmaa.Long Go.Proofs.Ytagkdodjffhlmaa.ContM
open Go.Proofs.Ytagkdodjffhlmaa.Tree (oneB)
set_option linter.unusedVariables false

theorem rows_info : (Try.prog.info? 40).map (fun i => (i.zero, i.size, i.bytes)) = some (some (.slice none 0 0), 1, 24) := by kernel_rfl
theorem bmay_v (ls : List L) (z : Nat) (hz : ls.length = z) (hz3 : z < 9223372036854775808) (b : Bool) (hb : BlockM.mayV ls = b) (A : Option Addr) (c : Nat) (w : World) (ha : RdL w A c ls) :
    Calls Try.prog 14 #[.slice A z c] w fun e w' => e = .returned (.bool b) ∧ Stp w w' := by
  subst hz hb
  exact Block.may_s ls A c w ha hz3
set_option maxRecDepth 100000 in
set_option maxHeartbeats 4000000 in
theorem back_out (I : ContI) (n : Nd) (hn : SmallN n) (off : Int) (A : Option Addr) (N c : Nat) (w : World) (hout : fewN n = false ∨ 60 < N ∨ mayC n off = false) :
    Calls Try.prog 3 #[nv n, .int .i64 off, .slice A N c] w fun e w' => e = .returned (.bool true) ∧ Stp w w' := by
  have h0 := Lib.hid (Stp.alloc (Stp.refl w) (.cells (ncells n) 23))
  have Hb := Lib.hid (Blk.new w 23 (ncells n))
  obtain ⟨q0, q1, q2, q3, q4, q5, q6, q7⟩ := nd_cells Hb.out
  have HI := Lib.hid I
  have HA := Lib.hid (awake_s I)
  have Hn := Lib.hid hn
  obtain ⟨b1, hf1⟩ : ∃ b, fewN n = b := ⟨_, rfl⟩
  obtain ⟨b2, k2⟩ : ∃ b, decide ((60 : Int) < (N : Int)) = b := ⟨_, rfl⟩
  have key : b1 = false ∨ (b1 = true ∧ b2 = true) ∨ (b1 = true ∧ b2 = false ∧ Hid (mayC n off = false)) := by
    rw [hf1] at hout
    cases b1
    · exact .inl rfl
    · cases b2
      · have h60 : ¬ 60 < N := by rw [decide_eq_false_iff_not] at k2; omega
        exact .inr (.inr ⟨rfl, rfl, Lib.hid ((hout.resolve_left (by simp)).resolve_left h60)⟩)
      · exact .inr (.inl ⟨rfl, rfl⟩)
  have F1 := Lib.hid hf1
  clear I hn hf1 hout
  rcases key with rfl | ⟨rfl, rfl⟩ | ⟨rfl, rfl, Hm⟩
  · go_enter Try.func3, Try.ntmps3
    go_wp2_with (first
      | (go_at_call 8; refine (HA.out _).mono ?_; rintro e w1 ⟨rfl, hs⟩; replace h0 := Lib.hid (Stp.trans h0.out hs); replace Hb := Lib.hid (Hb.out.keep hs Hb.out.lt); clear hs q0 q1 q2 q3 q4 q5 q6 q7; obtain ⟨q0, q1, q2, q3, q4, q5, q6, q7⟩ := nd_cells Hb.out)
      | (go_at_call 9; (with_reducible refine (Long.few_s n _).mono ?_); rintro e w2 ⟨rfl, hs⟩; rw [F1.out]; replace h0 := Lib.hid (Stp.trans h0.out hs); clear hs q0 q1 q2 q3 q4 q5 q6 q7))
    go_ret
    exact ⟨rfl, h0.out⟩
  · go_enter Try.func3, Try.ntmps3
    go_wp2_with (first
      | (go_at_call 8; refine (HA.out _).mono ?_; rintro e w1 ⟨rfl, hs⟩; replace h0 := Lib.hid (Stp.trans h0.out hs); replace Hb := Lib.hid (Hb.out.keep hs Hb.out.lt); clear hs q0 q1 q2 q3 q4 q5 q6 q7; obtain ⟨q0, q1, q2, q3, q4, q5, q6, q7⟩ := nd_cells Hb.out)
      | (go_at_call 9; (with_reducible refine (Long.few_s n _).mono ?_); rintro e w2 ⟨rfl, hs⟩; rw [F1.out]; replace h0 := Lib.hid (Stp.trans h0.out hs); clear hs q0 q1 q2 q3 q4 q5 q6 q7))
    go_ret
    exact ⟨rfl, h0.out⟩
  · have HP : Hid (putC n off = []) := Lib.hid (putC_no Hm.out)
    go_enter Try.func3, Try.ntmps3
    go_wp2_with (first
      | (go_at_call 8; refine (HA.out _).mono ?_; rintro e w1 ⟨rfl, hs⟩; replace h0 := Lib.hid (Stp.trans h0.out hs); replace Hb := Lib.hid (Hb.out.keep hs Hb.out.lt); clear hs q0 q1 q2 q3 q4 q5 q6 q7; obtain ⟨q0, q1, q2, q3, q4, q5, q6, q7⟩ := nd_cells Hb.out)
      | (go_at_call 9; (with_reducible refine (Long.few_s n _).mono ?_); rintro e w2 ⟨rfl, hs⟩; rw [F1.out]; replace h0 := Lib.hid (Stp.trans h0.out hs); replace Hb := Lib.hid (Hb.out.keep hs Hb.out.lt); clear hs q0 q1 q2 q3 q4 q5 q6 q7; obtain ⟨q0, q1, q2, q3, q4, q5, q6, q7⟩ := nd_cells Hb.out)
      | (go_at_call 10; (with_reducible refine (HI.out.put n _ rfl Hn.out off [] HP.out 0 rfl false Hm.out _).mono ?_); rintro e w4 ⟨A4, c4, rfl, hr, hs⟩; replace h0 := Lib.hid (Stp.trans h0.out hs); replace Hb := Lib.hid (Hb.out.keep hs Hb.out.lt); clear hr hs q0 q1 q2 q3 q4 q5 q6 q7; obtain ⟨q0, q1, q2, q3, q4, q5, q6, q7⟩ := nd_cells Hb.out)
      | (go_at_call 11; (with_reducible refine (HI.out.may n _ rfl Hn.out off false Hm.out _).mono ?_); rintro e w5 ⟨rfl, hs⟩; replace h0 := Lib.hid (Stp.trans h0.out hs); clear hs q0 q1 q2 q3 q4 q5 q6 q7))
    go_ret
    exact ⟨rfl, h0.out⟩
set_option maxRecDepth 100000 in
set_option maxHeartbeats 4000000 in
theorem back_in (I : ContI) (n : Nd) (hn : SmallN n) (off : Int) (ls : List L) (N : Nat) (hN : ls.length = N) (hls : ∀ l ∈ ls, l.length < 9223372036854775808) (A : Option Addr) (c : Nat) (w : World) (ha : RdL w A c ls) (hf : fewN n = true) (h60 : N ≤ 60) (hm : mayC n off = true) :
    Calls Try.prog 3 #[nv n, .int .i64 off, .slice A N c] w fun e w' => e = .returned (.bool true) ∧ Stp w w' := by
  have h0 := Lib.hid (Stp.alloc (Stp.refl w) (.cells (ncells n) 23))
  have Hb := Lib.hid (Blk.new w 23 (ncells n))
  obtain ⟨q0, q1, q2, q3, q4, q5, q6, q7⟩ := nd_cells Hb.out
  have HI := Lib.hid I
  have HA := Lib.hid (awake_s I)
  have Hn := Lib.hid hn
  have HL := Lib.hid ha
  have HN := Lib.hid hN
  have k2 : decide ((60 : Int) < (N : Int)) = false := decide_eq_false (by omega)
  obtain ⟨P, hP⟩ : ∃ P, putC n off = P := ⟨_, rfl⟩
  obtain ⟨z, hz⟩ : ∃ z, P.length = z := ⟨_, rfl⟩
  obtain ⟨X, hX⟩ : ∃ X, P ++ ls = X := ⟨_, rfl⟩
  obtain ⟨T, hT⟩ : ∃ T, z + N = T := ⟨_, rfl⟩
  have hX9 : ∀ l ∈ X, l.length < 9223372036854775808 := fun l hl => by
    rw [← hX] at hl
    rcases List.mem_append.1 hl with h | h
    · have := BlockM.mayV_iff.1 (putC_may n off) l (by rw [hP]; exact h)
      omega
    · exact hls l h
  have HX9 := Lib.hid hX9
  have hXl : X.length = T := by rw [← hX, List.length_append, hz, hN, hT]
  have hg : getC X = (bare n, off, (n.data.length : Int), (z : Int), true) := by
    have h := get_of (l := X) hm (by rw [hP, ← hX, List.take_left])
    rw [hP, hz] at h
    exact h
  have hmm : manyC n = (z : Int) := by
    have h := putC_length hm
    rw [hP, hz] at h
    exact h.symm
  have hz3 : z ≤ 3 := by
    rw [manyC, if_pos (mayC_iff.1 hm).1] at hmm
    split at hmm <;> omega
  have hbm := putC_may n off
  rw [hP] at hbm
  have heq : ∀ w : World, (Op.equalIn 10000 23 (.agg #[.string ⟨n.path.toArray⟩, .string ⟨n.link.toArray⟩, .int .u8 (n.kind.toNat : Int), .int .i64 n.mode, .int .i64 n.uid, .int .i64 n.gid, .int .i64 n.time, .string ⟨#[]⟩]) (.agg #[.string ⟨n.path.toArray⟩, .string ⟨n.link.toArray⟩, .int .u8 (n.kind.toNat : Int), .int .i64 n.mode, .int .i64 n.uid, .int .i64 n.gid, .int .i64 n.time, .string ⟨#[]⟩])).run Try.prog w = .ok true w := fun w => by
    have h := Tree.eq_nodes (bare n) (bare n) w
    rw [decide_eq_true rfl] at h
    exact h
  have hng := Tree.noGuardN
  have F1 := Lib.hid hf
  have HP := Lib.hid hP
  have Hz := Lib.hid hz
  have Hz3 := Lib.hid hz3
  have HX := Lib.hid hX
  have HXl := Lib.hid hXl
  have HT6 := Lib.hid (show T < 9223372036854775808 by omega)
  have HN6 := Lib.hid h60
  have HG := Lib.hid hg
  have Hmm := Lib.hid hmm
  have Hm := Lib.hid hm
  have Hbm := Lib.hid hbm
  clear I hn ha hN hls hX9 hP hz hX hT hXl hg hmm hz3 hbm hf hm h60
  go_enter Try.func3, Try.ntmps3
  go_upto_region 9 with (first
    | (go_at_call 8; refine (HA.out _).mono ?_; rintro e w1 ⟨rfl, hs⟩; replace h0 := Lib.hid (Stp.trans h0.out hs); replace Hb := Lib.hid (Hb.out.keep hs Hb.out.lt); clear hs q0 q1 q2 q3 q4 q5 q6 q7; obtain ⟨q0, q1, q2, q3, q4, q5, q6, q7⟩ := nd_cells Hb.out)
    | (go_at_call 9; (with_reducible refine (Long.few_s n _).mono ?_); rintro e w2 ⟨rfl, hs⟩; rw [F1.out]; replace h0 := Lib.hid (Stp.trans h0.out hs); replace Hb := Lib.hid (Hb.out.keep hs Hb.out.lt); clear hs q0 q1 q2 q3 q4 q5 q6 q7; obtain ⟨q0, q1, q2, q3, q4, q5, q6, q7⟩ := nd_cells Hb.out)
    | (go_at_call 10; (with_reducible refine (HI.out.put n _ rfl Hn.out off P HP.out z Hz.out true Hm.out _).mono ?_); rintro e w4 ⟨A4, c4, rfl, hr, hs⟩; replace h0 := Lib.hid (Stp.trans h0.out hs); replace Hb := Lib.hid (Hb.out.keep hs Hb.out.lt); have HR4 := Lib.hid hr; have HR0 := Lib.hid (Base.Rows.nil w4 w4.heap.size 40); clear hr hs q0 q1 q2 q3 q4 q5 q6 q7)
    | (at_builtin; refine Base.wpList_append_rows (P := Try.prog) rfl (.const (.slice none 0 0)) (.tmp 50) 24 rfl 40 Try.underlying24 rows_info _ rfl HR0.out rfl HR4.out Hz.out (by have := Hz.out; have := Hz3.out; simp only [List.length_nil]; omega) (Nat.le_refl _) ?_; intro v5 w5 hR hg; have H5 := Lib.hid (HR0.out.stp (Stp.refl w4) (Nat.le_refl _) hg); rw [List.nil_append] at hR; have HR1 := Lib.hid hR; clear hR hg)
    | (at_builtin; refine Base.wpList_append_rows (P := Try.prog) rfl (.tmp 51) (.tmp 52) 24 rfl 40 Try.underlying24 rows_info _ rfl HR1.out rfl (HL.out.keep (Stp.trans h0.out H5.out)) HN.out (by have := Hz.out; have := Hz3.out; have := HN.out; have := HN6.out; omega) H5.out.size ?_; intro v6 w6 hR hg; have H6 := Lib.hid (HR1.out.stp H5.out (Nat.le_refl _) hg); rw [HX.out] at hR; obtain ⟨A9, c9, he, hL9⟩ := hR.rdL; rw [HXl.out] at he; have HL9 := Lib.hid hL9; subst he; replace h0 := Lib.hid (Stp.trans h0.out H6.out); replace Hb := Lib.hid (Hb.out.keep H6.out Hb.out.lt); replace HR4 := Lib.hid (HR4.out.keep H6.out); clear hR hg hL9)
    | (go_at_call 12; (with_reducible refine (HI.out.get X T HXl.out HT6.out HX9.out (bare n) off (n.data.length : Int) (z : Int) true HG.out A9 c9 _ HL9.out).mono ?_); rintro e w7 ⟨rfl, hs⟩; have Hlt := Lib.hid (Hb.out.keep hs Hb.out.lt).lt; replace hs := Stp.alloc hs (.cells (ncells (bare n)) 23); have hk := Blk.new w7 23 (ncells (bare n)); replace h0 := Lib.hid (Stp.trans h0.out hs); replace Hb := Lib.hid (Hb.out.keep hs Hb.out.lt); replace HR4 := Lib.hid (HR4.out.keep hs); clear hs))
  change Code.wp _ _ _ _ (w7.alloc (.cells (ncells (bare n)) 23))
  have hlt1 := Hb.out.lt
  have hlt2 := hk.lt
  have hlt0 := Hlt.out
  obtain ⟨gk, hgk⟩ : ∃ x, w7.heap.size = x := ⟨_, rfl⟩
  obtain ⟨W, hW⟩ : ∃ u, w7.alloc (.cells (ncells (bare n)) 23) = u := ⟨_, rfl⟩
  rw [hW] at h0 Hb HR4 hk hlt1 hlt2 ⊢
  rw [hgk] at hk hlt0 hlt2 ⊢
  clear hgk hW
  obtain ⟨r0, r1, r2, r3, r4, r5, r6, r7⟩ := nd_cells hk
  replace r0 : W.cell? ⟨gk, 0, none⟩ = some (.string ⟨n.path.toArray⟩) := r0
  replace r1 : W.cell? ⟨gk, 1, none⟩ = some (.string ⟨n.link.toArray⟩) := r1
  replace r2 : W.cell? ⟨gk, 2, none⟩ = some (.int .u8 (n.kind.toNat : Int)) := r2
  replace r3 : W.cell? ⟨gk, 3, none⟩ = some (.int .i64 n.mode) := r3
  replace r4 : W.cell? ⟨gk, 4, none⟩ = some (.int .i64 n.uid) := r4
  replace r5 : W.cell? ⟨gk, 5, none⟩ = some (.int .i64 n.gid) := r5
  replace r6 : W.cell? ⟨gk, 6, none⟩ = some (.int .i64 n.time) := r6
  replace r7 : W.cell? ⟨gk, 7, none⟩ = some (.string ⟨#[]⟩) := r7
  obtain ⟨q0, q1, q2, q3, q4, q5, q6, q7⟩ := nd_cells Hb.out
  clear hk
  go_wp2_with (first
    | (go_at_call 13; refine (HI.out.many n _ rfl Hn.out (z : Int) Hmm.out _).mono ?_; rintro e w8 ⟨rfl, hs⟩; replace HR4 := Lib.hid (HR4.out.keep (Stp.trans (Stp.alloc (Stp.refl W) _) hs)); replace h0 := Lib.hid (Stp.trans (Stp.alloc h0.out _) hs); clear hs q0 q1 q2 q3 q4 q5 q6 q7 r0 r1 r2 r3 r4 r5 r6 r7)
    | (go_at_call 14; refine (bmay_v P z Hz.out (by have := Hz3.out; omega) true Hbm.out A4 c4 _ HR4.out).mono ?_; rintro e w9 ⟨rfl, hs⟩; replace h0 := Lib.hid (Stp.trans h0.out hs); clear hs))
  go_ret
  exact ⟨rfl, h0.out⟩
theorem back_walk (I : ContI) (n : Nd) (hn : SmallN n) (off : Int) (ls : List L) (N : Nat) (hN : ls.length = N) (hls : ∀ l ∈ ls, l.length < 9223372036854775808) (A : Option Addr) (c : Nat) (w : World) (ha : RdL w A c ls) :
    Calls Try.prog 3 #[nv n, .int .i64 off, .slice A N c] w fun e w' => e = .returned (.bool true) ∧ Stp w w' := by
  by_cases h : fewN n = false ∨ 60 < N ∨ mayC n off = false
  · exact back_out I n hn off A N c w h
  · rw [not_or, not_or] at h
    exact back_in I n hn off ls N hN hls A c w ha (by simpa using h.1) (by omega) (by simpa using h.2.2)
end Go.Proofs.Ytagkdodjffhlmaa.Cont
