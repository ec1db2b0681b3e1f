/-
  The walk of EntryHead: no statement is proved here.
-/
import Derived.Test.YtihigbaaajmjlaaEntryI
import Derived.Test.YtihigbaaajmjlaaHeadGet
import Derived.Test.YtihigbaaajmjlaaHeadEq
import Derived.Test.YtihigbaaajmjlaaEntrySl
import Derived.Deep.RegionWith
namespace Go.Proofs.Ytihigbaaajmjlaa.Entry
open Go.RowKit Go.Proofs.Ytihigbaaajmjlaa.Str Go.Proofs.Ytihigbaaajmjlaa.Base Go.Proofs.Ytihigbaaajmjlaa.Node Go.Proofs.Ytihigbaaajmjlaa.Head Go.Proofs.Ytihigbaaajmjlaa.Long
open Go.Proofs.Ytihigbaaajmjlaa.Tree (oneB)

set_option maxRecDepth 100000 in
set_option maxHeartbeats 2000000 in
theorem head_few (I : EntryI) (n : Nd) (hn : SmallN n) (w : World) (hno : fewN n = false) :
    Calls Try.prog 4 #[nv n] w fun e w' => e = .returned (.bool true) ∧ Stp w w' := by
  have h0 := Stp.alloc (Stp.refl w) (.cells (ncells n) 23)
  have Hb := Lib.hid (Blk.new w 23 (ncells n))
  obtain ⟨q0, q1, q2, q3, q4, q5, q6, q7⟩ := nd_cells Hb.out
  have HI := Lib.hid I
  have Hn := Lib.hid hn
  clear hn I
  have HF := Lib.hid hno
  clear hno
  go_enter Try.func4, Try.ntmps4
  go_wp2_with (first
    | (go_at_call 9; (with_reducible refine (awake_s HI.out _).mono ?_); rintro e w9 ⟨rfl, hs⟩; replace Hb := Lib.hid (Hb.out.keep hs Hb.out.lt); replace h0 := Stp.trans h0 hs; clear hs q0 q1 q2 q3 q4 q5 q6 q7; obtain ⟨q0, q1, q2, q3, q4, q5, q6, q7⟩ := nd_cells Hb.out)
    | (go_at_call 10; (with_reducible refine (few_s n _).mono ?_); rintro e w9 ⟨rfl, hs⟩; rw [HF.out]; replace Hb := Lib.hid (Hb.out.keep hs Hb.out.lt); replace h0 := Stp.trans h0 hs; clear hs q0 q1 q2 q3 q4 q5 q6 q7; obtain ⟨q0, q1, q2, q3, q4, q5, q6, q7⟩ := nd_cells Hb.out))
  all_goals go_ret
  all_goals exact ⟨rfl, h0⟩
set_option maxRecDepth 100000 in
set_option maxHeartbeats 4000000 in
theorem head_no (I : EntryI) (n : Nd) (hn : SmallN n) (w : World) (hF : fewN n = true) (hO : oneB n = false) :
    Calls Try.prog 4 #[nv n] w fun e w' => e = .returned (.bool true) ∧ Stp w w' := by
  have h0 := Stp.alloc (Stp.refl w) (.cells (ncells n) 23)
  have Hb := Lib.hid (Blk.new w 23 (ncells n))
  obtain ⟨q0, q1, q2, q3, q4, q5, q6, q7⟩ := nd_cells Hb.out
  have HI := Lib.hid I
  have Hn := Lib.hid hn
  clear hn I
  have HF := Lib.hid hF
  have HO := Lib.hid hO
  have HN := Lib.hid (show (putE n).length = 0 by rw [putE_no hO]; rfl)
  obtain ⟨H, hH⟩ : ∃ x, headV n = x := ⟨_, rfl⟩
  have HH := Lib.hid hH
  clear hF hO hH
  go_enter Try.func4, Try.ntmps4
  go_wp2_with (first
    | (go_at_call 9; (with_reducible refine (awake_s HI.out _).mono ?_); rintro e w9 ⟨rfl, hs⟩; replace Hb := Lib.hid (Hb.out.keep hs Hb.out.lt); (try (replace Hz := Lib.hid (Hz.out.keep hs Hz.out.lt))); (try (replace Hu := Lib.hid (Hu.out.keep hs))); replace h0 := Stp.trans h0 hs; clear hs q0 q1 q2 q3 q4 q5 q6 q7; obtain ⟨q0, q1, q2, q3, q4, q5, q6, q7⟩ := nd_cells Hb.out)
    | (go_at_call 10; (with_reducible refine (few_s n _).mono ?_); rintro e w9 ⟨rfl, hs⟩; rw [HF.out]; replace Hb := Lib.hid (Hb.out.keep hs Hb.out.lt); (try (replace Hz := Lib.hid (Hz.out.keep hs Hz.out.lt))); (try (replace Hu := Lib.hid (Hu.out.keep hs))); replace h0 := Stp.trans h0 hs; clear hs q0 q1 q2 q3 q4 q5 q6 q7; obtain ⟨q0, q1, q2, q3, q4, q5, q6, q7⟩ := nd_cells Hb.out)
    | (go_at_call 11; (with_reducible refine (HI.out.head n _ rfl Hn.out _).mono ?_); rintro e w9 ⟨rfl, hs⟩; rw [HO.out, HH.out]; have Hz := Lib.hid (Blk.new w9 27 (hcells H)); replace Hb := Lib.hid ((Hb.out.keep hs Hb.out.lt).alloc (.cells (hcells H) 27)); replace h0 := Stp.alloc (Stp.trans h0 hs) (.cells (hcells H) 27); clear hs q0 q1 q2 q3 q4 q5 q6 q7; obtain ⟨q0, q1, q2, q3, q4, q5, q6, q7⟩ := nd_cells Hb.out)
    | (go_at_call 13; (with_reducible refine (HI.out.put n _ rfl Hn.out _).mono ?_); rintro e w9 ⟨U, cU, rfl, hu, hs⟩; rw [HO.out, HN.out]; have Hu := Lib.hid hu; clear hu; replace Hb := Lib.hid (Hb.out.keep hs Hb.out.lt); (try (replace Hz := Lib.hid (Hz.out.keep hs Hz.out.lt))); replace h0 := Stp.trans h0 hs; clear hs q0 q1 q2 q3 q4 q5 q6 q7; obtain ⟨q0, q1, q2, q3, q4, q5, q6, q7⟩ := nd_cells Hb.out)
    | (go_at_call 20; (with_reducible refine (Tree.tone_s n Hn.out _).mono ?_); rintro e w9 ⟨rfl, hs⟩; rw [HO.out]; replace Hb := Lib.hid (Hb.out.keep hs Hb.out.lt); (try (replace Hz := Lib.hid (Hz.out.keep hs Hz.out.lt))); (try (replace Hu := Lib.hid (Hu.out.keep hs))); replace h0 := Stp.trans h0 hs; clear hs q0 q1 q2 q3 q4 q5 q6 q7; obtain ⟨q0, q1, q2, q3, q4, q5, q6, q7⟩ := nd_cells Hb.out)
    | (go_at_call 16; (with_reducible refine (HI.out.many n _ rfl Hn.out _).mono ?_); rintro e w9 ⟨rfl, hs⟩; rw [HN.out]; replace Hb := Lib.hid (Hb.out.keep hs Hb.out.lt); (try (replace Hz := Lib.hid (Hz.out.keep hs Hz.out.lt))); (try (replace Hu := Lib.hid (Hu.out.keep hs))); replace h0 := Stp.trans h0 hs; clear hs q0 q1 q2 q3 q4 q5 q6 q7; obtain ⟨q0, q1, q2, q3, q4, q5, q6, q7⟩ := nd_cells Hb.out))
  all_goals go_ret
  all_goals exact ⟨rfl, h0⟩
theorem hget_v (l : L) (m : Nat) (hm : l.length = m) (A : Option Addr) (c : Nat) (w : World) (ha : RdA w A c (bs l)) :
    Calls Try.prog 22 #[.slice A m c] w fun e w' => e = .returned (.tuple #[hv (getH l), .int .i64 (codeB l)]) ∧ Stp w w' := by
  subst hm
  exact hget_s l A c w ha
theorem bmay_v (ls : List L) (m : Nat) (hm : ls.length = m) (A : Option Addr) (c : Nat) (w : World) (ha : RdL w A c ls) (hl : m < 9223372036854775808) :
    Calls Try.prog 21 #[.slice A m c] w fun e w' => e = .returned (.bool (BlockM.mayV ls)) ∧ Stp w w' := by
  subst hm
  exact Block.may_s ls A c w ha hl
theorem text_v (ls : List L) (m : Nat) (hm : ls.length = m) (n : Int) (A : Option Addr) (c : Nat) (w : World) (ha : RdL w A c ls) (hl : ls.length ≤ 1000000) (hn : n < 9223372036854775808) (hn' : -9223372036854775808 ≤ n) :
    Calls Try.prog 23 #[.slice A m c, .int .i64 n] w fun e w' => e = .returned (.tuple #[.string ⟨(BlockM.textV ls n).toArray⟩, .bool (BlockM.textB ls n)]) ∧ Stp w w' := by
  subst hm
  exact Block.text_s ls n A c w ha hl hn hn'
theorem slice_from1 (b o N c a : Nat) (hk : a < N) (hN : N ≤ c) : ∃ A', (∀ w : World, (Instr.slice 30 (.slice (some ⟨b, o, none⟩) N c) (some (.int .i64 ((a : Int) + 1))) none none).run Try.prog w = .ok (.slice A' (N - (a + 1)) (c - (a + 1))) w) ∧
    ∀ (w : World) (ls : List L), ls.length = N → RdL w (some ⟨b, o, none⟩) c ls → RdL w A' (c - (a + 1)) (ls.drop (a + 1)) := slice_from b o N c (a + 1) hk hN
set_option maxRecDepth 100000 in
set_option maxHeartbeats 4000000 in
theorem head_in (I : EntryI) (n : Nd) (hn : SmallN n) (w : World) (hF : fewN n = true) (hO : oneB n = true) :
    Calls Try.prog 4 #[nv n] w fun e w' => e = .returned (.bool true) ∧ Stp w w' := by
  have h0 := Stp.alloc (Stp.refl w) (.cells (ncells n) 23)
  have Hb := Lib.hid (Blk.new w 23 (ncells n))
  obtain ⟨q0, q1, q2, q3, q4, q5, q6, q7⟩ := nd_cells Hb.out
  have HI := Lib.hid I
  have Hn := Lib.hid hn
  clear hn I
  have HF := Lib.hid hF
  have HO := Lib.hid hO
  obtain ⟨H, hH⟩ : ∃ x, headE n = x := ⟨_, rfl⟩
  obtain ⟨N, hN⟩ : ∃ x, (putE n).length = x := ⟨_, rfl⟩
  obtain ⟨D, hD⟩ : ∃ x, dataE n = x := ⟨_, rfl⟩
  obtain ⟨a, ha⟩ : ∃ x, (aheadV n).length = x := ⟨_, rfl⟩
  have hlen := putE_length hO
  have hat := putE_at hO
  have hdrop := putE_drop hO
  have hd := dataE_yes hO
  have hm8 : BlockM.manyN n.data.length ≤ 8 := BlockM.manyN_small (by have := (oneF hO).data; omega)
  have ha4 := ahead_length hO
  have fm := head_may hO
  have fs := head_small hO
  rw [hH] at hat fm fs
  rw [ha] at hat hdrop hlen ha4
  rw [hN] at hlen
  have hds := (oneF hO).data
  have ha5 : a ≤ 4 := by rw [ha4]; split <;> split <;> omega
  have hND : N = a + 1 + D := by omega
  have HN := Lib.hid hN
  have HD := Lib.hid (show (dataE n : Int) = (D : Int) by rw [hD])
  have HH := Lib.hid (show headV n = H by rw [headV_yes hO, hH])
  have Hat := Lib.hid hat
  have Hdrop := Lib.hid hdrop
  have HM := Lib.hid (putE_may n)
  have HL := Lib.hid (blk_length fm fs)
  have HC := Lib.hid (code_blk fm fs)
  have HG := Lib.hid (get_blk fm fs)
  have HS := Lib.hid fs
  have HMH := Lib.hid fm
  have HT1 := Lib.hid (show (BlockM.cutV n.data).length = N - (a + 1) by rw [BlockM.cutV_length]; omega)
  have HT2 := Lib.hid (show (BlockM.cutV n.data).length ≤ 1000000 by rw [BlockM.cutV_length]; omega)
  have HT3 := Lib.hid (BlockM.cutV_textV n.data)
  have HT4 := Lib.hid (BlockM.cutV_textB n.data)
  have w1 : IntKind.i64.wrap ((N : Int) - (D : Int)) = (N : Int) - (D : Int) := by rw [IntKind.wrap_i64]; omega
  have w2 : IntKind.i64.wrap ((N : Int) - (D : Int) - 1) = (a : Int) := by rw [IntKind.wrap_i64]; omega
  have w3 : IntKind.i64.wrap ((a : Int) + 1) = (a : Int) + 1 := by rw [IntKind.wrap_i64]; omega
  have g1 : decide ((a : Int) < 0) = false := decide_eq_false (by omega)
  have g2 : decide ((N : Int) ≤ (a : Int)) = false := decide_eq_false (by omega)
  have e1 : (H.mode == n.mode) = true := by rw [← hH]; exact beq_self_eq_true _
  have e2 : (H.uid == n.uid) = true := by rw [← hH]; exact beq_self_eq_true _
  have e3 : (H.gid == n.gid) = true := by rw [← hH]; exact beq_self_eq_true _
  have e4 : (H.time == n.time) = true := by rw [← hH]; exact beq_self_eq_true _
  have e5 : ((H.ty.toNat : Int) == (n.kind.toNat : Int)) = true := by rw [← hH]; exact beq_self_eq_true _
  have e6 : (H.size == (n.data.length : Int)) = true := by rw [← hH]; exact beq_self_eq_true _
  have heq := eq_heads H H
  rw [decide_eq_true rfl] at heq
  have Hlt := Lib.hid (show a < N by omega)
  have HNb := Lib.hid (show N ≤ 20 by omega)
  clear hF hO hH hN hD ha hlen hat hdrop hd hm8 ha4 fm fs hND
  go_enter Try.func4, Try.ntmps4
  go_wp2_with (first
    | (go_at_call 9; (with_reducible refine (awake_s HI.out _).mono ?_); rintro e w9 ⟨rfl, hs⟩; replace Hb := Lib.hid (Hb.out.keep hs Hb.out.lt); (try (replace Hz := Lib.hid (Hz.out.keep hs Hz.out.lt))); (try (replace Hu := Lib.hid (Hu.out.keep hs))); replace h0 := Stp.trans h0 hs; clear hs q0 q1 q2 q3 q4 q5 q6 q7; obtain ⟨q0, q1, q2, q3, q4, q5, q6, q7⟩ := nd_cells Hb.out)
    | (go_at_call 10; (with_reducible refine (few_s n _).mono ?_); rintro e w9 ⟨rfl, hs⟩; rw [HF.out]; replace Hb := Lib.hid (Hb.out.keep hs Hb.out.lt); (try (replace Hz := Lib.hid (Hz.out.keep hs Hz.out.lt))); (try (replace Hu := Lib.hid (Hu.out.keep hs))); replace h0 := Stp.trans h0 hs; clear hs q0 q1 q2 q3 q4 q5 q6 q7; obtain ⟨q0, q1, q2, q3, q4, q5, q6, q7⟩ := nd_cells Hb.out)
    | (go_at_call 11; (with_reducible refine (HI.out.head n _ rfl Hn.out _).mono ?_); rintro e w9 ⟨rfl, hs⟩; rw [HO.out, HH.out]; have Hz := Lib.hid (Blk.new w9 27 (hcells H)); replace Hb := Lib.hid ((Hb.out.keep hs Hb.out.lt).alloc (.cells (hcells H) 27)); replace h0 := Stp.alloc (Stp.trans h0 hs) (.cells (hcells H) 27); clear hs q0 q1 q2 q3 q4 q5 q6 q7; obtain ⟨q0, q1, q2, q3, q4, q5, q6, q7⟩ := nd_cells Hb.out)
    | (go_at_call 13; (with_reducible refine (HI.out.put n _ rfl Hn.out _).mono ?_); rintro e w9 ⟨U, cU, rfl, hu, hs⟩; rw [HO.out, HN.out]; have Hu := Lib.hid hu; clear hu; replace Hb := Lib.hid (Hb.out.keep hs Hb.out.lt); (try (replace Hz := Lib.hid (Hz.out.keep hs Hz.out.lt))); replace h0 := Stp.trans h0 hs; clear hs q0 q1 q2 q3 q4 q5 q6 q7; obtain ⟨q0, q1, q2, q3, q4, q5, q6, q7⟩ := nd_cells Hb.out)
    | (go_at_call 20; (with_reducible refine (Tree.tone_s n Hn.out _).mono ?_); rintro e w9 ⟨rfl, hs⟩; rw [HO.out]; replace Hb := Lib.hid (Hb.out.keep hs Hb.out.lt); (try (replace Hz := Lib.hid (Hz.out.keep hs Hz.out.lt))); (try (replace Hu := Lib.hid (Hu.out.keep hs))); replace h0 := Stp.trans h0 hs; clear hs q0 q1 q2 q3 q4 q5 q6 q7; obtain ⟨q0, q1, q2, q3, q4, q5, q6, q7⟩ := nd_cells Hb.out)
    | (go_at_call 18; (with_reducible refine (HI.out.data n _ rfl Hn.out _).mono ?_); rintro e w9 ⟨rfl, hs⟩; rw [HD.out]; replace Hb := Lib.hid (Hb.out.keep hs Hb.out.lt); (try (replace Hz := Lib.hid (Hz.out.keep hs Hz.out.lt))); (try (replace Hu := Lib.hid (Hu.out.keep hs))); replace h0 := Stp.trans h0 hs; clear hs q0 q1 q2 q3 q4 q5 q6 q7; obtain ⟨q0, q1, q2, q3, q4, q5, q6, q7⟩ := nd_cells Hb.out)
    | (go_at_call 21; (with_reducible refine (bmay_v (putE n) N HN.out U cU _ Hu.out (by have := HNb.out; omega)).mono ?_); rintro e w9 ⟨rfl, hs⟩; rw [HM.out]; replace Hb := Lib.hid (Hb.out.keep hs Hb.out.lt); (try (replace Hz := Lib.hid (Hz.out.keep hs Hz.out.lt))); (try (replace Hu := Lib.hid (Hu.out.keep hs))); replace h0 := Stp.trans h0 hs; clear hs q0 q1 q2 q3 q4 q5 q6 q7; obtain ⟨q0, q1, q2, q3, q4, q5, q6, q7⟩ := nd_cells Hb.out; obtain ⟨bu, ou, A1, c1, rfl, ca, ra⟩ := Hu.out.at_ Hat.out; rw [HL.out] at ca; have Hra := Lib.hid ra; have hcu := Hu.out.length_le; rw [HN.out] at hcu; obtain ⟨AS, hsl, hrd⟩ := slice_from1 bu ou N cU a Hlt.out hcu; have Hrd := Lib.hid hrd; clear ra hrd hcu)
    | (go_at_call 22; (with_reducible refine (hget_v (blk H) 512 HL.out A1 c1 _ Hra.out).mono ?_); rintro e w9 ⟨rfl, hs⟩; rw [HC.out, HG.out]; have Hy := Lib.hid (Blk.new w9 27 (hcells H)); replace Hz := Lib.hid ((Hz.out.keep hs Hz.out.lt).alloc (.cells (hcells H) 27)); replace Hb := Lib.hid ((Hb.out.keep hs Hb.out.lt).alloc (.cells (hcells H) 27)); replace Hu := Lib.hid (Hu.out.keep (Stp.alloc hs (.cells (hcells H) 27))); replace h0 := Stp.alloc (Stp.trans h0 hs) (.cells (hcells H) 27); clear hs ca q0 q1 q2 q3 q4 q5 q6 q7; obtain ⟨q0, q1, q2, q3, q4, q5, q6, q7⟩ := nd_cells Hb.out))
  all_goals first
    | (exfalso; omega)
    | (have hrs := Hrd.out _ _ HN.out Hu.out
       rw [Hdrop.out] at hrs
       have HRS := Lib.hid (show RdL (w9.alloc (.cells (hcells H) 27)).drew AS (cU - (a + 1)) (BlockM.cutV n.data) from hrs.keep (Stp.drewN (Stp.refl _) 1))
       replace Hb := Lib.hid (Blk.drew Hb.out)
       replace Hz := Lib.hid (Blk.drew Hz.out)
       replace Hy := Lib.hid (Blk.drew Hy.out)
       replace h0 : Stp w (w9.alloc (.cells (hcells H) 27)).drew := Stp.drewN h0 1
       clear hrs
       go_region_with (first
    | (go_at_call 23; (with_reducible refine (text_v (BlockM.cutV n.data) (N - (a + 1)) HT1.out (n.data.length : Int) AS (cU - (a + 1)) _ HRS.out HT2.out (by omega) (by omega)).mono ?_); rintro e w9 ⟨rfl, hs⟩; rw [HT3.out, HT4.out]; replace Hb := Lib.hid (Hb.out.keep hs Hb.out.lt); replace Hz := Lib.hid (Hz.out.keep hs Hz.out.lt); replace Hy := Lib.hid (Hy.out.keep hs Hy.out.lt); replace h0 := Stp.trans h0 hs; clear hs q0 q1 q2 q3 q4 q5 q6 q7; obtain ⟨q0, q1, q2, q3, q4, q5, q6, q7⟩ := nd_cells Hb.out; (try clear x0 x1 x2 x3 x4 x5 x6 x7 x8 x9 x10 y0 y1 y2 y3 y4 y5 y6 y7 y8 y9 y10); obtain ⟨x0, x1, x2, x3, x4, x5, x6, x7, x8, x9, x10⟩ := hd_cells Hz.out; obtain ⟨y0, y1, y2, y3, y4, y5, y6, y7, y8, y9, y10⟩ := hd_cells Hy.out)))
  all_goals go_wp2_with (first
    | (go_at_call 24; (with_reducible refine (may_any H HS.out _).mono ?_); rintro e w9 ⟨rfl, hs⟩; rw [HMH.out]; replace Hb := Lib.hid (Hb.out.keep hs Hb.out.lt); replace Hz := Lib.hid (Hz.out.keep hs Hz.out.lt); replace Hy := Lib.hid (Hy.out.keep hs Hy.out.lt); replace h0 := Stp.trans h0 hs; clear hs q0 q1 q2 q3 q4 q5 q6 q7; obtain ⟨q0, q1, q2, q3, q4, q5, q6, q7⟩ := nd_cells Hb.out; (try clear x0 x1 x2 x3 x4 x5 x6 x7 x8 x9 x10 y0 y1 y2 y3 y4 y5 y6 y7 y8 y9 y10); obtain ⟨x0, x1, x2, x3, x4, x5, x6, x7, x8, x9, x10⟩ := hd_cells Hz.out; obtain ⟨y0, y1, y2, y3, y4, y5, y6, y7, y8, y9, y10⟩ := hd_cells Hy.out))
  all_goals go_ret
  all_goals exact ⟨rfl, h0⟩
theorem head_s (I : EntryI) (n : Nd) (hn : SmallN n) (w : World) :
    Calls Try.prog 4 #[nv n] w fun e w' => e = .returned (.bool true) ∧ Below w.heap.size w w' := by
  cases hF : fewN n with
  | false => exact head_few I n hn w hF
  | true =>
    cases hO : oneB n with
    | false => exact head_no I n hn w hF hO
    | true => exact head_in I n hn w hF hO
end Go.Proofs.Ytihigbaaajmjlaa.Entry
