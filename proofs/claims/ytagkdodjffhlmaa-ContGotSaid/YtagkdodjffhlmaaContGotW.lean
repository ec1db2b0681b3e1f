/-
  The law ContGot, walked over the contracts: no statement is proved here.
-/
import Derived.Test.YtagkdodjffhlmaaContTellsW
import Derived.Test.YtagkdodjffhlmaaEntrySl
import Derived.Deep.Cut
namespace Go.Proofs.Ytagkdodjffhlmaa.Cont
open Go.RowKit Go.Proofs.Ytagkdodjffhlmaa.Str Go.Proofs.Ytagkdodjffhlmaa.Base Go.Proofs.Ytagkdodjffhlmaa.Node Go.Proofs.Ytagkdodjffhlmaa.Head Go.Proofs.Ytagkdodjffhlmaa.Long Go.Proofs.Ytagkdodjffhlmaa.ContM
open Go.Proofs.Ytagkdodjffhlmaa.Tree (oneB)
set_option linter.unusedVariables false

set_option maxRecDepth 100000 in
set_option maxHeartbeats 4000000 in
theorem got_out (I : ContI) (ls : List L) (N : Nat) (hN : ls.length = N) (hl : N < 9223372036854775808) (hls : ∀ l ∈ ls, l.length < 9223372036854775808) (A : Option Addr) (c : Nat) (w : World) (ha : RdL w A c ls) (hout : Block.fewV ls = false ∨ getC ls = none5) :
    Calls Try.prog 5 #[.slice A N c] w fun e w' => e = .returned (.bool true) ∧ Stp w w' := by
  have h0 := Lib.hid (Stp.refl w)
  have HI := Lib.hid I
  have HA := Lib.hid (awake_s I)
  have HL := Lib.hid ha
  have HN := Lib.hid hN
  have Hl := Lib.hid hl
  have Hls := Lib.hid hls
  obtain ⟨b2, hf2⟩ : ∃ b, Block.fewV ls = b := ⟨_, rfl⟩
  have F2 := Lib.hid hf2
  have key : b2 = false ∨ (b2 = true ∧ Hid (getC ls = (zeroN, 0, 0, 0, false))) := by
    rw [hf2] at hout
    cases b2
    · exact .inl rfl
    · exact .inr ⟨rfl, Lib.hid (hout.resolve_left (by simp))⟩
  have heq : ∀ w : World, (Op.equalIn 10000 23 (.agg #[.string ⟨#[]⟩, .string ⟨#[]⟩, .int .u8 0, .int .i64 0, .int .i64 0, .int .i64 0, .int .i64 0, .string ⟨#[]⟩]) (.agg #[.string ⟨#[]⟩, .string ⟨#[]⟩, .int .u8 0, .int .i64 0, .int .i64 0, .int .i64 0, .int .i64 0, .string ⟨#[]⟩])).run Try.prog w = .ok true w := fun w => by
    have h := Tree.eq_nodes zeroN zeroN w
    rw [decide_eq_true rfl] at h
    exact h
  have hng := Tree.noGuardN
  clear I ha hN hl hls hf2 hout
  rcases key with rfl | ⟨rfl, HG⟩
  all_goals
    go_enter Try.func5, Try.ntmps5
    go_wp2_with (first
      | (go_at_call 8; refine (HA.out _).mono ?_; rintro e w1 ⟨rfl, hs⟩; replace h0 := Lib.hid (Stp.trans h0.out hs); clear hs)
      | (go_at_call 16; (with_reducible refine (fewL_v ls N HN.out Hl.out Hls.out _ F2.out A c _ (HL.out.keep h0.out)).mono ?_); rintro e w3 ⟨rfl, hs⟩; replace h0 := Lib.hid (Stp.trans h0.out hs); clear hs)
      | (go_at_call 12; (with_reducible refine (HI.out.get ls N HN.out Hl.out Hls.out zeroN 0 0 0 false HG.out A c _ (HL.out.keep h0.out)).mono ?_); rintro e w6 ⟨rfl, hs⟩; replace h0 := Lib.hid (Stp.alloc (Stp.trans h0.out hs) (.cells (ncells zeroN) 23)); clear hs))
    go_ret
    exact ⟨rfl, h0.out⟩
set_option maxRecDepth 100000 in
set_option maxHeartbeats 4000000 in
theorem got_in (I : ContI) (ls : List L) (N : Nat) (hN : ls.length = N) (hl : N < 9223372036854775808) (hls : ∀ l ∈ ls, l.length < 9223372036854775808) (A : Option Addr) (c : Nat) (w : World) (ha : RdL w A c ls) (hf : Block.fewV ls = true)
    (n : Nd) (off : Int) (hm : mayC n off = true) (hz : n.data = List.replicate n.data.length 0) (hk : (putC n off).length ≤ N) (ht : ls.take (putC n off).length = putC n off) (hg : getC ls = (bare n, off, (n.data.length : Int), ((putC n off).length : Int), true)) :
    Calls Try.prog 5 #[.slice A N c] w fun e w' => e = .returned (.bool true) ∧ Stp w w' := by
  have h0 := Lib.hid (Stp.refl w)
  have HI := Lib.hid I
  have HA := Lib.hid (awake_s I)
  have HL := Lib.hid ha
  have HN := Lib.hid hN
  have Hl := Lib.hid hl
  have Hls := Lib.hid hls
  have F2 := Lib.hid hf
  obtain ⟨hfile, g1, g2, -⟩ := mayC_iff.1 hm
  obtain ⟨ho, hkd⟩ := isFile_iff.1 hfile
  have f := Entry.oneF ho
  have hd := f.data
  obtain ⟨D, hD⟩ : ∃ D, n.data.length = D := ⟨_, rfl⟩
  obtain ⟨P, hP⟩ : ∃ P, putC n off = P := ⟨_, rfl⟩
  obtain ⟨K, hK⟩ : ∃ K, P.length = K := ⟨_, rfl⟩
  rw [hP, hK] at hk ht hg
  rw [hD] at hz g2 hd hg
  have hK1 : 1 ≤ K := by
    have := putC_length hm
    rw [hP, hK, manyC, if_pos hfile] at this
    split at this <;> omega
  have hNc : N ≤ c := by
    obtain ⟨us, e1, e2, -⟩ := ha
    obtain ⟨A', cap', e3, e4, -⟩ := e2
    cases e3
    omega
  obtain ⟨l0, hl0⟩ : ∃ l, ls[0]? = some l := ⟨_, List.getElem?_eq_getElem (by omega)⟩
  obtain ⟨bb, oo, A1, c1, rfl, -, -⟩ := ha.at_ hl0
  have csl := fun w => Entry.slice_to bb oo N c K (by omega) w
  have k1 : decide ((K : Int) < 1) = false := decide_eq_false (by omega)
  have k2 : decide ((N : Int) < (K : Int)) = false := decide_eq_false (by omega)
  have k5 : K ≤ N := by omega
  have k3 : decide ((D : Int) < 1) = false := decide_eq_false (by omega)
  have k4 : decide (4000 < (D : Int)) = false := decide_eq_false (by omega)
  obtain ⟨t, hrep⟩ : ∃ t : L, List.replicate D 0 = t := ⟨_, rfl⟩
  have hn : SmallN n := by
    have hx := (textL_iff.1 (path_text hfile)).2.1
    have a1 := f.mode.2
    have a2 := f.uid.2
    have a3 := f.gid.2
    have a4 := f.time.2
    exact ⟨by omega, by rw [f.none hkd]; simp, by omega, by omega, by omega, by omega, by rw [hD]; omega⟩
  have hnt : ncells n = (ncells (bare n)).setIfInBounds 7 (.string ⟨t.toArray⟩) := by
    rw [← hrep, ← hz]
    rfl
  have Hn := Lib.hid hn
  have Hnt := Lib.hid hnt
  have Ht := Lib.hid hrep
  have Hd4 := Lib.hid hd
  have HG := Lib.hid hg
  have HP := Lib.hid hP
  have HK := Lib.hid hK
  have HK3 := Lib.hid (show K < 9223372036854775808 by omega)
  have Hm := Lib.hid hm
  have HTk := Lib.hid (show (ls.take K).length = K by rw [List.length_take]; omega)
  have HS := Lib.hid (show (P == ls.take K) = true by rw [ht]; simp)
  clear I ha hN hl hls hf hm hz hk ht hg hfile g1 g2 ho hkd f hd hD hP hK hK1 hNc hl0 hrep hn hnt
  go_enter Try.func5, Try.ntmps5
  go_upto_region 6 with (first
    | (go_at_call 8; refine (HA.out _).mono ?_; rintro e w1 ⟨rfl, hs⟩; replace h0 := Lib.hid (Stp.trans h0.out hs); clear hs)
    | (go_at_call 16; (with_reducible refine (fewL_v ls N HN.out Hl.out Hls.out _ F2.out _ c _ (HL.out.keep h0.out)).mono ?_); rintro e w3 ⟨rfl, hs⟩; replace h0 := Lib.hid (Stp.trans h0.out hs); clear hs)
    | (go_at_call 12; (with_reducible refine (HI.out.get ls N HN.out Hl.out Hls.out (bare n) off D K true HG.out _ c _ (HL.out.keep h0.out)).mono ?_); rintro e w6 ⟨rfl, hs⟩; have Hge := Lib.hid (Stp.trans h0.out hs).size; have Hb := Lib.hid (Blk.new w6 23 (ncells (bare n))); replace h0 := Lib.hid (Stp.alloc (Stp.trans h0.out hs) (.cells (ncells (bare n)) 23)); clear hs))
  change Code.wp _ _ _ _ (w6.alloc (.cells (ncells (bare n)) 23))
  obtain ⟨gn, hgn⟩ : ∃ x, w6.heap.size = x := ⟨_, rfl⟩
  obtain ⟨W, hW⟩ : ∃ z, w6.alloc (.cells (ncells (bare n)) 23) = z := ⟨_, rfl⟩
  have hge : w.heap.size ≤ gn := by rw [← hgn]; exact Hge.out
  rw [hW] at h0 Hb ⊢
  rw [hgn] at Hb ⊢
  clear hgn hW
  obtain ⟨⟨q0, q1, q2, q3, q4, q5, q6, q7⟩, y0, y1, y2, y3, y4, y5, y6, y7⟩ := nzy Hb.out
  replace q7 : W.cell? ⟨gn, 7, none⟩ = some (.string ⟨#[]⟩) := q7
  have hd4 := Hd4.out
  go_upto_region 11 with (at_make; refine wpList_make_blk _ rfl _ _ 40 rfl 5 (.int .u8 0) 1 Try.underlying40 Block.byte_info rfl .i64 .i64 (D : Int) D rfl rfl rfl (by omega) (by unfold maxLen; omega) ?_; intro w7 hb3 hs3 hg3; have hcv := nou_conv D (by omega) Ht.out hb3; have hst := made_stp hg3; replace h0 := Lib.hid (Stp.trans h0.out hst); replace Hb := Lib.hid (Hb.out.keep hst Hb.out.lt); clear q0 q1 q2 q3 q4 q5 q6 q7 y0 y1 y2 y3 y4 y5 y6 y7 hb3 hs3 hg3 hst; obtain ⟨⟨q0, q1, q2, q3, q4, q5, q6, q7⟩, y0, y1, y2, y3, y4, y5, y6, y7⟩ := nzy Hb.out)
  have p1 := Hb.out.put 7 (.string ⟨t.toArray⟩)
  rw [← Hnt.out] at p1
  have p2 := set_stp h0.out hge 7 (.string ⟨t.toArray⟩)
  clear q0 q1 q2 q3 q4 q5 q6 q7 y0 y1 y2 y3 y4 y5 y6 y7 hcv
  generalize w7.setCell ⟨gn, 7, none⟩ (.string ⟨t.toArray⟩) = W4 at p1 p2 ⊢
  replace Hb := Lib.hid p1
  replace h0 := Lib.hid p2
  clear p1 p2
  obtain ⟨q0, q1, q2, q3, q4, q5, q6, q7⟩ := nd_cells Hb.out
  go_wp2_with (first
    | (go_at_call 10; refine (HI.out.put n _ rfl Hn.out off P HP.out K HK.out true Hm.out _).mono ?_; rintro e w8 ⟨A4, c4, rfl, hr, hs⟩; replace h0 := Lib.hid (Stp.trans h0.out hs); have HR4 := Lib.hid hr; clear hr hs q0 q1 q2 q3 q4 q5 q6 q7)
    | (go_at_call 17; refine (rsame_v P (ls.take K) K K HK.out HTk.out A4 _ c4 c _ HR4.out (Entry.rdL_take (HL.out.keep h0.out) K) HK3.out HK3.out true HS.out).mono ?_; rintro e w9 ⟨rfl, hs⟩; replace h0 := Lib.hid (Stp.trans h0.out hs); clear hs))
  go_ret
  exact ⟨rfl, h0.out⟩
theorem got_walk (I : ContI) (ls : List L) (N : Nat) (hN : ls.length = N) (hl : N < 9223372036854775808) (hls : ∀ l ∈ ls, l.length < 9223372036854775808) (A : Option Addr) (c : Nat) (w : World) (ha : RdL w A c ls) :
    Calls Try.prog 5 #[.slice A N c] w fun e w' => e = .returned (.bool true) ∧ Stp w w' := by
  by_cases hf : Block.fewV ls = true
  · rcases get_yes ls with h | ⟨n, off, a, b, d, e, f⟩
    · exact got_out I ls N hN hl hls A c w ha (.inr h)
    · exact got_in I ls N hN hl hls A c w ha hf n off a b (by omega) e f
  · exact got_out I ls N hN hl hls A c w ha (.inl (by simpa using hf))
end Go.Proofs.Ytagkdodjffhlmaa.Cont
