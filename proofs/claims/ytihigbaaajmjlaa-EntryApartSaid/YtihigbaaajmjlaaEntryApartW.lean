/-
  The walk of EntryApart: no statement is proved here.
-/
import Derived.Test.YtihigbaaajmjlaaEntryI
import Derived.Test.YtihigbaaajmjlaaTreeOne
namespace Go.Proofs.Ytihigbaaajmjlaa.Entry
open Go.RowKit Go.Proofs.Ytihigbaaajmjlaa.Str Go.Proofs.Ytihigbaaajmjlaa.Base Go.Proofs.Ytihigbaaajmjlaa.Node Go.Proofs.Ytihigbaaajmjlaa.Head Go.Proofs.Ytihigbaaajmjlaa.Long
open Go.Proofs.Ytihigbaaajmjlaa.Tree (oneB)

theorem put_few (n : Nd) : (putE n).length < 9223372036854775808 := by
  cases h : oneB n
  · rw [putE_no h]
    decide
  · rw [putE_length h, ahead_length h]
    have hd := (oneF h).data
    have : BlockM.manyN n.data.length ≤ 8 := BlockM.manyN_small (by omega)
    split <;> split <;> omega
set_option maxRecDepth 100000 in
set_option maxHeartbeats 4000000 in
theorem apart_s (I : EntryI) (n m : Nd) (hn : SmallN n) (hm : SmallN m) (w : World) :
    Calls Try.prog 5 #[nv n, nv m] w fun e w' => e = .returned (.bool true) ∧ Below w.heap.size w w' := by
  have h0 := Stp.alloc (Stp.alloc (Stp.refl w) (.cells (ncells n) 23)) (.cells (ncells m) 23)
  have Hb := Lib.hid ((Blk.new w 23 (ncells n)).alloc (.cells (ncells m) 23))
  have hc := Blk.new (w.alloc (.cells (ncells n) 23)) 23 (ncells m)
  rw [World.size_alloc] at hc
  have Hc := Lib.hid hc
  obtain ⟨q0, q1, q2, q3, q4, q5, q6, q7⟩ := nd_cells Hb.out
  obtain ⟨r0, r1, r2, r3, r4, r5, r6, r7⟩ := nd_cells Hc.out
  obtain ⟨F, hF⟩ : ∃ x, fewN n = x := ⟨_, rfl⟩
  obtain ⟨G, hG⟩ : ∃ x, fewN m = x := ⟨_, rfl⟩
  obtain ⟨O, hO⟩ : ∃ x, oneB n = x := ⟨_, rfl⟩
  obtain ⟨P, hP⟩ : ∃ x, oneB m = x := ⟨_, rfl⟩
  obtain ⟨S, hS⟩ : ∃ x, (putE n == putE m) = x := ⟨_, rfl⟩
  obtain ⟨E, hE⟩ : ∃ x, decide (n = m) = x := ⟨_, rfl⟩
  have heq := Tree.eq_nodes n m
  rw [hE] at heq
  have key : O = true → P = true → S = E := by
    intro h1 h2
    rw [← hS, ← hE, Bool.eq_iff_iff, beq_iff_eq, decide_eq_true_eq]
    exact ⟨fun h => putE_inj (hO.trans h1) (hP.trans h2) h, fun h => by rw [h]⟩
  have Key := Lib.hid key
  have HF := Lib.hid hF
  have HG := Lib.hid hG
  have HO := Lib.hid hO
  have HP := Lib.hid hP
  have HS := Lib.hid hS
  have Hn := Lib.hid hn
  have Hm := Lib.hid hm
  have HI := Lib.hid I
  clear hF hG hO hP hS hE hn hm key hc I
  go_enter Try.func5, Try.ntmps5
  go_wp2_with (first
    | (go_at_call 9; (with_reducible refine (awake_s HI.out _).mono ?_); rintro e w9 ⟨rfl, hs⟩; replace Hb := Lib.hid (Hb.out.keep hs Hb.out.lt); replace Hc := Lib.hid (Hc.out.keep hs Hc.out.lt); replace h0 := Stp.trans h0 hs; (try (replace Hu := Lib.hid (Hu.out.keep hs))); clear hs q0 q1 q2 q3 q4 q5 q6 q7 r0 r1 r2 r3 r4 r5 r6 r7; obtain ⟨q0, q1, q2, q3, q4, q5, q6, q7⟩ := nd_cells Hb.out; obtain ⟨r0, r1, r2, r3, r4, r5, r6, r7⟩ := nd_cells Hc.out)
    | (go_at_call 10; (with_reducible refine (few_s n _).mono ?_); rintro e w9 ⟨rfl, hs⟩; rw [HF.out]; replace Hb := Lib.hid (Hb.out.keep hs Hb.out.lt); replace Hc := Lib.hid (Hc.out.keep hs Hc.out.lt); replace h0 := Stp.trans h0 hs; (try (replace Hu := Lib.hid (Hu.out.keep hs))); clear hs q0 q1 q2 q3 q4 q5 q6 q7 r0 r1 r2 r3 r4 r5 r6 r7; obtain ⟨q0, q1, q2, q3, q4, q5, q6, q7⟩ := nd_cells Hb.out; obtain ⟨r0, r1, r2, r3, r4, r5, r6, r7⟩ := nd_cells Hc.out; rcases F)
    | (go_at_call 10; (with_reducible refine (few_s m _).mono ?_); rintro e w9 ⟨rfl, hs⟩; rw [HG.out]; replace Hb := Lib.hid (Hb.out.keep hs Hb.out.lt); replace Hc := Lib.hid (Hc.out.keep hs Hc.out.lt); replace h0 := Stp.trans h0 hs; (try (replace Hu := Lib.hid (Hu.out.keep hs))); clear hs q0 q1 q2 q3 q4 q5 q6 q7 r0 r1 r2 r3 r4 r5 r6 r7; obtain ⟨q0, q1, q2, q3, q4, q5, q6, q7⟩ := nd_cells Hb.out; obtain ⟨r0, r1, r2, r3, r4, r5, r6, r7⟩ := nd_cells Hc.out; rcases G)
    | (go_at_call 13; (with_reducible refine (HI.out.put n _ rfl Hn.out _).mono ?_); rintro e w9 ⟨U, cU, rfl, hu, hs⟩; rw [HO.out]; have Hu := Lib.hid hu; clear hu; replace Hb := Lib.hid (Hb.out.keep hs Hb.out.lt); replace Hc := Lib.hid (Hc.out.keep hs Hc.out.lt); replace h0 := Stp.trans h0 hs; clear hs q0 q1 q2 q3 q4 q5 q6 q7 r0 r1 r2 r3 r4 r5 r6 r7; obtain ⟨q0, q1, q2, q3, q4, q5, q6, q7⟩ := nd_cells Hb.out; obtain ⟨r0, r1, r2, r3, r4, r5, r6, r7⟩ := nd_cells Hc.out)
    | (go_at_call 13; (with_reducible refine (HI.out.put m _ rfl Hm.out _).mono ?_); rintro e w9 ⟨V, cV, rfl, hv, hs⟩; rw [HP.out]; have Hv := Lib.hid hv; clear hv; replace Hb := Lib.hid (Hb.out.keep hs Hb.out.lt); replace Hc := Lib.hid (Hc.out.keep hs Hc.out.lt); replace h0 := Stp.trans h0 hs; (try (replace Hu := Lib.hid (Hu.out.keep hs))); clear hs q0 q1 q2 q3 q4 q5 q6 q7 r0 r1 r2 r3 r4 r5 r6 r7; obtain ⟨q0, q1, q2, q3, q4, q5, q6, q7⟩ := nd_cells Hb.out; obtain ⟨r0, r1, r2, r3, r4, r5, r6, r7⟩ := nd_cells Hc.out)
    | (go_at_call 15; refine (Block.rsame_s (putE n) (putE m) U V cU cV _ Hu.out Hv.out (put_few n) (put_few m)).mono ?_; rintro e w9 ⟨rfl, hs⟩; rw [HS.out]; replace Hb := Lib.hid (Hb.out.keep hs Hb.out.lt); replace Hc := Lib.hid (Hc.out.keep hs Hc.out.lt); replace h0 := Stp.trans h0 hs; (try (replace Hu := Lib.hid (Hu.out.keep hs))); clear hs q0 q1 q2 q3 q4 q5 q6 q7 r0 r1 r2 r3 r4 r5 r6 r7; obtain ⟨q0, q1, q2, q3, q4, q5, q6, q7⟩ := nd_cells Hb.out; obtain ⟨r0, r1, r2, r3, r4, r5, r6, r7⟩ := nd_cells Hc.out))
  all_goals go_ret
  all_goals first
    | exact ⟨rfl, h0⟩
    | (refine ⟨congrArg (fun b => Ending.returned (.bool b)) ?_, h0⟩
       have k := Key.out
       clear Hb Hc h0 HI Hn Hm HO HP HS Key heq
       rcases O <;> rcases P <;> simp_all)
end Go.Proofs.Ytihigbaaajmjlaa.Entry
