/-
  The walk of EntryGrows: no statement is proved here.
-/
import Derived.Test.YtihigbaaajmjlaaEntryI
import Derived.Test.YtihigbaaajmjlaaHeadGet
import Derived.Test.YtihigbaaajmjlaaHeadEq
import Derived.Deep.RegionWith
namespace Go.Proofs.Ytihigbaaajmjlaa.Entry
open Go.RowKit Go.Proofs.Ytihigbaaajmjlaa.Str Go.Proofs.Ytihigbaaajmjlaa.Base Go.Proofs.Ytihigbaaajmjlaa.Node Go.Proofs.Ytihigbaaajmjlaa.Head Go.Proofs.Ytihigbaaajmjlaa.Long
open Go.Proofs.Ytihigbaaajmjlaa.Tree (oneB)

set_option maxRecDepth 100000 in
set_option maxHeartbeats 2000000 in
theorem grows_no (I : EntryI) (n : Nd) (hn : SmallN n) (more : L) (w : World) (F O b c : Bool) (hF : fewN n = F) (hO : oneB n = O) (gb : decide ((2000 : Int) < (more.length : Int)) = b) (gc : ((n.kind.toNat : Int) != 48) = c) (hno : F = false ∨ b = true ∨ c = true ∨ O = false) :
    Calls Try.prog 8 #[nv n, .string ⟨more.toArray⟩] w fun e w' => e = .returned (.bool true) ∧ Stp w w' := by
  have h0 := Stp.alloc (Stp.refl w) (.cells (ncells n) 23)
  have Hb := Lib.hid (Blk.new w 23 (ncells n))
  obtain ⟨q0, q1, q2, q3, q4, q5, q6, q7⟩ := nd_cells Hb.out
  have HI := Lib.hid I
  have Hn := Lib.hid hn
  clear hn I
  have HF := Lib.hid hF
  have HO := Lib.hid hO
  clear hF hO
  have nope : ¬ (false = true) := by decide
  have nope2 : ¬ (true = false) := by decide
  cases F
  · clear hno nope nope2
    go_enter Try.func8, Try.ntmps8
    go_wp2_with (first
    | (go_at_call 9; (with_reducible refine (awake_s HI.out _).mono ?_); rintro e w9 ⟨rfl, hs⟩; replace Hb := Lib.hid (Hb.out.keep hs Hb.out.lt); replace h0 := Stp.trans h0 hs; clear hs q0 q1 q2 q3 q4 q5 q6 q7; obtain ⟨q0, q1, q2, q3, q4, q5, q6, q7⟩ := nd_cells Hb.out)
    | (go_at_call 10; (with_reducible refine (few_s n _).mono ?_); rintro e w9 ⟨rfl, hs⟩; rw [HF.out]; replace Hb := Lib.hid (Hb.out.keep hs Hb.out.lt); replace h0 := Stp.trans h0 hs; clear hs q0 q1 q2 q3 q4 q5 q6 q7; obtain ⟨q0, q1, q2, q3, q4, q5, q6, q7⟩ := nd_cells Hb.out))
    all_goals go_ret
    all_goals exact ⟨rfl, h0⟩
  · cases b
    · cases c
      · obtain rfl : O = false := by rcases hno with h | h | h | h <;> first | exact h | exact absurd h nope | exact absurd h nope2
        clear hno nope nope2
        go_enter Try.func8, Try.ntmps8
        go_wp2_with (first
    | (go_at_call 9; (with_reducible refine (awake_s HI.out _).mono ?_); rintro e w9 ⟨rfl, hs⟩; replace Hb := Lib.hid (Hb.out.keep hs Hb.out.lt); replace h0 := Stp.trans h0 hs; clear hs q0 q1 q2 q3 q4 q5 q6 q7; obtain ⟨q0, q1, q2, q3, q4, q5, q6, q7⟩ := nd_cells Hb.out)
    | (go_at_call 10; (with_reducible refine (few_s n _).mono ?_); rintro e w9 ⟨rfl, hs⟩; rw [HF.out]; replace Hb := Lib.hid (Hb.out.keep hs Hb.out.lt); replace h0 := Stp.trans h0 hs; clear hs q0 q1 q2 q3 q4 q5 q6 q7; obtain ⟨q0, q1, q2, q3, q4, q5, q6, q7⟩ := nd_cells Hb.out)
    | (go_at_call 20; (with_reducible refine (Tree.tone_s n Hn.out _).mono ?_); rintro e w9 ⟨rfl, hs⟩; rw [HO.out]; replace Hb := Lib.hid (Hb.out.keep hs Hb.out.lt); replace h0 := Stp.trans h0 hs; clear hs q0 q1 q2 q3 q4 q5 q6 q7; obtain ⟨q0, q1, q2, q3, q4, q5, q6, q7⟩ := nd_cells Hb.out))
        all_goals go_ret
        all_goals exact ⟨rfl, h0⟩
      · clear hno nope nope2
        go_enter Try.func8, Try.ntmps8
        go_wp2_with (first
    | (go_at_call 9; (with_reducible refine (awake_s HI.out _).mono ?_); rintro e w9 ⟨rfl, hs⟩; replace Hb := Lib.hid (Hb.out.keep hs Hb.out.lt); replace h0 := Stp.trans h0 hs; clear hs q0 q1 q2 q3 q4 q5 q6 q7; obtain ⟨q0, q1, q2, q3, q4, q5, q6, q7⟩ := nd_cells Hb.out)
    | (go_at_call 10; (with_reducible refine (few_s n _).mono ?_); rintro e w9 ⟨rfl, hs⟩; rw [HF.out]; replace Hb := Lib.hid (Hb.out.keep hs Hb.out.lt); replace h0 := Stp.trans h0 hs; clear hs q0 q1 q2 q3 q4 q5 q6 q7; obtain ⟨q0, q1, q2, q3, q4, q5, q6, q7⟩ := nd_cells Hb.out))
        all_goals go_ret
        all_goals exact ⟨rfl, h0⟩
    · clear hno nope nope2
      go_enter Try.func8, Try.ntmps8
      go_wp2_with (first
    | (go_at_call 9; (with_reducible refine (awake_s HI.out _).mono ?_); rintro e w9 ⟨rfl, hs⟩; replace Hb := Lib.hid (Hb.out.keep hs Hb.out.lt); replace h0 := Stp.trans h0 hs; clear hs q0 q1 q2 q3 q4 q5 q6 q7; obtain ⟨q0, q1, q2, q3, q4, q5, q6, q7⟩ := nd_cells Hb.out)
    | (go_at_call 10; (with_reducible refine (few_s n _).mono ?_); rintro e w9 ⟨rfl, hs⟩; rw [HF.out]; replace Hb := Lib.hid (Hb.out.keep hs Hb.out.lt); replace h0 := Stp.trans h0 hs; clear hs q0 q1 q2 q3 q4 q5 q6 q7; obtain ⟨q0, q1, q2, q3, q4, q5, q6, q7⟩ := nd_cells Hb.out))
      all_goals go_ret
      all_goals exact ⟨rfl, h0⟩
/-- A node with other bytes. -/
abbrev moreN (n : Nd) (d : L) : Nd := ⟨n.path, n.link, n.kind, n.mode, n.uid, n.gid, n.time, d⟩
theorem more_one {n : Nd} (d : L) (hk : n.kind = 48) (ho : oneB n = true) : oneB (moreN n d) = decide (d.length ≤ 4000) := by
  unfold Tree.oneB Tree.numsB Tree.kindB at ho ⊢
  unfold moreN
  simp only [hk, if_true] at ho ⊢
  simp only [Bool.and_eq_true] at ho
  obtain ⟨h1, h2, h3, h4⟩ := ho
  simp only [h1, h2, h3, Bool.true_and, Bool.and_true]
theorem more_small {n : Nd} {d : L} (hn : SmallN n) (h : d.length ≤ 9223372036854775807) : SmallN (moreN n d) := ⟨hn.path, hn.link, hn.mode, hn.uid, hn.gid, hn.time, h⟩
theorem more_head (n : Nd) (d : L) : headE (moreN n d) = { headE n with size := (d.length : Int) } := rfl
theorem more_ahead (n : Nd) (d : L) : aheadV (moreN n d) = aheadV n := rfl
set_option maxRecDepth 100000 in
set_option maxHeartbeats 4000000 in
theorem grows_big (I : EntryI) (n : Nd) (hn : SmallN n) (more : L) (w : World) (hF : fewN n = true) (hO : oneB n = true) (hk : n.kind = 48) (hm : more.length ≤ 2000) (hbig : 4000 < (n.data ++ more).length) :
    Calls Try.prog 8 #[nv n, .string ⟨more.toArray⟩] w fun e w' => e = .returned (.bool true) ∧ Stp w w' := by
  have h0 := Stp.alloc (Stp.refl w) (.cells (ncells n) 23)
  have Hb := Lib.hid (Blk.new w 23 (ncells n))
  obtain ⟨q0, q1, q2, q3, q4, q5, q6, q7⟩ := nd_cells Hb.out
  have HI := Lib.hid I
  have Hn := Lib.hid hn
  clear hn I
  have HF := Lib.hid hF
  have HO := Lib.hid hO
  have hd := (oneF hO).data
  obtain ⟨dm, hdm⟩ : ∃ x, n.data ++ more = x := ⟨_, rfl⟩
  have hdl : dm.length = n.data.length + more.length := by rw [← hdm, List.length_append]
  have HP := Lib.hid (more_one dm hk hO)
  have HSm := Lib.hid (more_small (d := dm) Hn.out (by omega))
  have gb : decide ((2000 : Int) < (more.length : Int)) = false := decide_eq_false (by omega)
  have gc : ((n.kind.toNat : Int) != 48) = false := by rw [hk]; rfl
  have add := Str.add_ll n.data more (by omega)
  rw [hdm] at add hbig
  have gbig : decide ((4000 : Int) < (dm.length : Int)) = true := decide_eq_true (by omega)
  rw [decide_eq_false (by omega)] at HP
  clear hF hO hk hd hdm hdl
  go_enter Try.func8, Try.ntmps8
  go_wp2_with (first
    | (go_at_call 9; (with_reducible refine (awake_s HI.out _).mono ?_); rintro e w9 ⟨rfl, hs⟩; replace Hb := Lib.hid (Hb.out.keep hs Hb.out.lt); replace h0 := Stp.trans h0 hs; clear hs q0 q1 q2 q3 q4 q5 q6 q7; obtain ⟨q0, q1, q2, q3, q4, q5, q6, q7⟩ := nd_cells Hb.out)
    | (go_at_call 10; (with_reducible refine (few_s n _).mono ?_); rintro e w9 ⟨rfl, hs⟩; rw [HF.out]; replace Hb := Lib.hid (Hb.out.keep hs Hb.out.lt); replace h0 := Stp.trans h0 hs; clear hs q0 q1 q2 q3 q4 q5 q6 q7; obtain ⟨q0, q1, q2, q3, q4, q5, q6, q7⟩ := nd_cells Hb.out)
    | (go_at_call 20; (with_reducible refine (Tree.tone_s n Hn.out _).mono ?_); rintro e w9 ⟨rfl, hs⟩; rw [HO.out]; replace Hb := Lib.hid (Hb.out.keep hs Hb.out.lt); replace h0 := Stp.trans h0 hs; clear hs q0 q1 q2 q3 q4 q5 q6 q7; obtain ⟨q0, q1, q2, q3, q4, q5, q6, q7⟩ := nd_cells Hb.out; obtain ⟨p0, p1, p2, p3, p4, p5, p6, p7⟩ := nd_cells (Hb.out.alloc (.cells (ncells n) 23)); have Hm := Lib.hid (Blk.new w9 23 (ncells (moreN n dm))); replace Hb := Lib.hid (Hb.out.alloc (.cells (ncells (moreN n dm)) 23)); replace h0 := Stp.alloc h0 (.cells (ncells (moreN n dm)) 23); obtain ⟨s0, s1, s2, s3, s4, s5, s6, s7⟩ := nd_cells Hb.out; obtain ⟨r0, r1, r2, r3, r4, r5, r6, r7⟩ := nd_cells Hm.out)
    | (go_at_call 20; (with_reducible refine (Tree.tone_s (moreN n dm) HSm.out _).mono ?_); rintro e w9 ⟨rfl, hs⟩; rw [HP.out]; replace Hb := Lib.hid (Hb.out.keep hs Hb.out.lt); replace Hm := Lib.hid (Hm.out.keep hs Hm.out.lt); replace h0 := Stp.trans h0 hs; clear hs q0 q1 q2 q3 q4 q5 q6 q7 r0 r1 r2 r3 r4 r5 r6 r7; (try clear p0 p1 p2 p3 p4 p5 p6 p7 s0 s1 s2 s3 s4 s5 s6 s7); obtain ⟨q0, q1, q2, q3, q4, q5, q6, q7⟩ := nd_cells Hb.out; obtain ⟨r0, r1, r2, r3, r4, r5, r6, r7⟩ := nd_cells Hm.out))
  all_goals go_ret
  all_goals exact ⟨rfl, h0⟩
set_option maxRecDepth 100000 in
set_option maxHeartbeats 8000000 in
theorem grows_in (I : EntryI) (n : Nd) (hn : SmallN n) (more : L) (w : World) (hF : fewN n = true) (hO : oneB n = true) (hk : n.kind = 48) (hm : more.length ≤ 2000) (hbig : ¬ 4000 < (n.data ++ more).length) :
    Calls Try.prog 8 #[nv n, .string ⟨more.toArray⟩] w fun e w' => e = .returned (.bool true) ∧ Stp w w' := by
  have h0 := Stp.alloc (Stp.refl w) (.cells (ncells n) 23)
  have Hb := Lib.hid (Blk.new w 23 (ncells n))
  obtain ⟨q0, q1, q2, q3, q4, q5, q6, q7⟩ := nd_cells Hb.out
  have HI := Lib.hid I
  have Hn := Lib.hid hn
  clear hn I
  have HF := Lib.hid hF
  have HO := Lib.hid hO
  have hd := (oneF hO).data
  obtain ⟨dm, hdm⟩ : ∃ x, n.data ++ more = x := ⟨_, rfl⟩
  have hdl : dm.length = n.data.length + more.length := by rw [← hdm, List.length_append]
  have HP := Lib.hid (more_one dm hk hO)
  have HSm := Lib.hid (more_small (d := dm) Hn.out (by omega))
  have gb : decide ((2000 : Int) < (more.length : Int)) = false := decide_eq_false (by omega)
  have gc : ((n.kind.toNat : Int) != 48) = false := by rw [hk]; rfl
  have add := Str.add_ll n.data more (by omega)
  rw [hdm] at add hbig
  have gbig : decide ((4000 : Int) < (dm.length : Int)) = false := decide_eq_false (by omega)
  rw [decide_eq_true (by omega)] at HP
  obtain ⟨H, hH⟩ : ∃ x, headE n = x := ⟨_, rfl⟩
  obtain ⟨G, hG⟩ : ∃ x, headE (moreN n dm) = x := ⟨_, rfl⟩
  have hHG : ({ H with size := G.size } : Hd) = G := by rw [← hH, ← hG]; rfl
  have HH := Lib.hid (show headV n = H by rw [headV_yes hO, hH])
  have HGd := Lib.hid (show headV (moreN n dm) = G by rw [headV_yes HP.out, hG])
  have gsz : (G.size == (dm.length : Int)) = true := by rw [← hG]; exact beq_self_eq_true _
  have hq := eq_heads { H with size := G.size } G
  rw [decide_eq_true hHG] at hq
  have heq : ∀ w : World, (Op.equalIn 10000 27 (.agg #[.string ⟨H.name.toArray⟩, .string ⟨H.pre.toArray⟩, .string ⟨H.link.toArray⟩, .int .i64 H.mode, .int .i64 H.uid, .int .i64 H.gid, .int .i64 G.size, .int .i64 H.time, .int .u8 (H.ty.toNat : Int), .int .i64 H.off, .int .i64 H.real]) (hv G)).run Try.prog w = .ok true w := hq
  obtain ⟨M1, hM1⟩ : ∃ x : Int, ((putE n).length : Int) = x := ⟨_, rfl⟩
  obtain ⟨M2, hM2⟩ : ∃ x : Int, ((putE (moreN n dm)).length : Int) = x := ⟨_, rfl⟩
  have hl1 := putE_length hO
  have hl2 := putE_length HP.out
  rw [more_ahead] at hl2
  obtain ⟨k1, hk1⟩ : ∃ x : Int, ((BlockM.manyN n.data.length : Nat) : Int) = x := ⟨_, rfl⟩
  obtain ⟨k2, hk2⟩ : ∃ x : Int, ((BlockM.manyN dm.length : Nat) : Int) = x := ⟨_, rfl⟩
  have hk1b : 0 ≤ k1 ∧ k1 ≤ 8 := by
    have : BlockM.manyN n.data.length ≤ 8 := BlockM.manyN_small (by omega)
    omega
  have hk2b : 0 ≤ k2 ∧ k2 ≤ 8 := by
    have : BlockM.manyN dm.length ≤ 8 := BlockM.manyN_small (by omega)
    omega
  have hdiff : M2 - M1 = k2 - k1 := by
    have e2 : BlockM.manyN (moreN n dm).data.length = BlockM.manyN dm.length := rfl
    rw [e2] at hl2
    omega
  have HN1 := Lib.hid hM1
  have HN2 := Lib.hid hM2
  have a1 : IntKind.i64.wrap ((n.data.length : Int) + 511) = (n.data.length : Int) + 511 := by rw [IntKind.wrap_i64]; omega
  have a2 : IntKind.i64.wrap ((dm.length : Int) + 511) = (dm.length : Int) + 511 := by rw [IntKind.wrap_i64]; omega
  have d1 : Int.tdiv ((n.data.length : Int) + 511) 512 = k1 := by rw [← hk1]; unfold BlockM.manyN; rw [Int.tdiv_eq_ediv_of_nonneg (by omega)]; omega
  have d2 : Int.tdiv ((dm.length : Int) + 511) 512 = k2 := by rw [← hk2]; unfold BlockM.manyN; rw [Int.tdiv_eq_ediv_of_nonneg (by omega)]; omega
  have e1 : IntKind.i64.wrap k1 = k1 := by rw [IntKind.wrap_i64]; omega
  have e2 : IntKind.i64.wrap k2 = k2 := by rw [IntKind.wrap_i64]; omega
  have e3 : IntKind.i64.wrap (k2 - k1) = k2 - k1 := by rw [IntKind.wrap_i64]; omega
  have e4 : IntKind.i64.wrap (M2 - M1) = k2 - k1 := by rw [IntKind.wrap_i64, hdiff]; omega
  clear hF hO hk hd hdm hdl hH hG hHG hq hl1 hl2 hk1 hk2 hdiff hM1 hM2 hbig
  go_enter Try.func8, Try.ntmps8
  go_wp2_with (first
    | (go_at_call 9; (with_reducible refine (awake_s HI.out _).mono ?_); rintro e w9 ⟨rfl, hs⟩; replace Hb := Lib.hid (Hb.out.keep hs Hb.out.lt); replace h0 := Stp.trans h0 hs; clear hs q0 q1 q2 q3 q4 q5 q6 q7; obtain ⟨q0, q1, q2, q3, q4, q5, q6, q7⟩ := nd_cells Hb.out)
    | (go_at_call 10; (with_reducible refine (few_s n _).mono ?_); rintro e w9 ⟨rfl, hs⟩; rw [HF.out]; replace Hb := Lib.hid (Hb.out.keep hs Hb.out.lt); replace h0 := Stp.trans h0 hs; clear hs q0 q1 q2 q3 q4 q5 q6 q7; obtain ⟨q0, q1, q2, q3, q4, q5, q6, q7⟩ := nd_cells Hb.out)
    | (go_at_call 20; (with_reducible refine (Tree.tone_s n Hn.out _).mono ?_); rintro e wm ⟨rfl, hs⟩; rw [HO.out]; replace Hb := Lib.hid (Hb.out.keep hs Hb.out.lt); replace h0 := Stp.trans h0 hs; clear hs q0 q1 q2 q3 q4 q5 q6 q7; obtain ⟨q0, q1, q2, q3, q4, q5, q6, q7⟩ := nd_cells Hb.out; obtain ⟨p0, p1, p2, p3, p4, p5, p6, p7⟩ := nd_cells (Hb.out.alloc (.cells (ncells n) 23)); have Hm := Lib.hid (Blk.new wm 23 (ncells (moreN n dm))); replace Hb := Lib.hid (Hb.out.alloc (.cells (ncells (moreN n dm)) 23)); replace h0 := Stp.alloc h0 (.cells (ncells (moreN n dm)) 23); obtain ⟨s0, s1, s2, s3, s4, s5, s6, s7⟩ := nd_cells Hb.out; obtain ⟨r0, r1, r2, r3, r4, r5, r6, r7⟩ := nd_cells Hm.out)
    | (go_at_call 11; (with_reducible refine (HI.out.head n _ rfl Hn.out _).mono ?_); rintro e wa ⟨rfl, hs⟩; rw [HO.out, HH.out]; have hblt := (Hb.out.keep hs Hb.out.lt).lt; have hmlt := (Hm.out.keep hs Hm.out.lt).lt; have Hz := Lib.hid (Blk.new wa 27 (hcells H)); replace Hb := Lib.hid ((Hb.out.keep hs Hb.out.lt).alloc (.cells (hcells H) 27)); replace Hm := Lib.hid ((Hm.out.keep hs Hm.out.lt).alloc (.cells (hcells H) 27)); replace h0 := Stp.alloc (Stp.trans h0 hs) (.cells (hcells H) 27); clear hs q0 q1 q2 q3 q4 q5 q6 q7 r0 r1 r2 r3 r4 r5 r6 r7 p0 p1 p2 p3 p4 p5 p6 p7 s0 s1 s2 s3 s4 s5 s6 s7; obtain ⟨q0, q1, q2, q3, q4, q5, q6, q7⟩ := nd_cells Hb.out; obtain ⟨r0, r1, r2, r3, r4, r5, r6, r7⟩ := nd_cells Hm.out)
    | (go_at_call 11; (with_reducible refine (HI.out.head (moreN n dm) _ rfl HSm.out _).mono ?_); rintro e wb ⟨rfl, hs⟩; rw [HP.out, HGd.out]; have hzlt := (Hz.out.keep hs Hz.out.lt).lt; have Hz0 := Lib.hid (Hz.out.keep hs Hz.out.lt); have Hb0 := Lib.hid (Hb.out.keep hs Hb.out.lt); have Hm0 := Lib.hid (Hm.out.keep hs Hm.out.lt); have H00 := Lib.hid (Stp.trans h0 hs); have Hy := Lib.hid (Blk.new wb 27 (hcells G)); replace Hz := Lib.hid ((Hz.out.keep hs Hz.out.lt).alloc (.cells (hcells G) 27)); replace Hb := Lib.hid ((Hb.out.keep hs Hb.out.lt).alloc (.cells (hcells G) 27)); replace Hm := Lib.hid ((Hm.out.keep hs Hm.out.lt).alloc (.cells (hcells G) 27)); replace h0 := Stp.alloc (Stp.trans h0 hs) (.cells (hcells G) 27); have hfree := Hz.out.free 6; clear hs q0 q1 q2 q3 q4 q5 q6 q7 r0 r1 r2 r3 r4 r5 r6 r7; obtain ⟨q0, q1, q2, q3, q4, q5, q6, q7⟩ := nd_cells Hb.out; obtain ⟨r0, r1, r2, r3, r4, r5, r6, r7⟩ := nd_cells Hm.out; obtain ⟨x0, x1, x2, x3, x4, x5, x6, x7, x8, x9, x10⟩ := hd_cells Hz.out; obtain ⟨y0, y1, y2, y3, y4, y5, y6, y7, y8, y9, y10⟩ := hd_cells Hy.out))
  have hsz0 : (wb.setCell ⟨wa.heap.size, 6, none⟩ (.int .i64 G.size)).heap.size = wb.heap.size := by simp [World.setCell]
  have hz2 : Blk ((wb.setCell ⟨wa.heap.size, 6, none⟩ (.int .i64 G.size)).alloc (.cells #[.string ⟨G.name.toArray⟩, .string ⟨G.pre.toArray⟩, .string ⟨G.link.toArray⟩, .int .i64 G.mode, .int .i64 G.uid, .int .i64 G.gid, .int .i64 G.size, .int .i64 G.time, .int .u8 (G.ty.toNat : Int), .int .i64 G.off, .int .i64 G.real] 27)) wa.heap.size 27 (hcells { H with size := G.size }) := (Hz0.out.put 6 _).alloc _
  have hy2 : Blk ((wb.setCell ⟨wa.heap.size, 6, none⟩ (.int .i64 G.size)).alloc (.cells #[.string ⟨G.name.toArray⟩, .string ⟨G.pre.toArray⟩, .string ⟨G.link.toArray⟩, .int .i64 G.mode, .int .i64 G.uid, .int .i64 G.gid, .int .i64 G.size, .int .i64 G.time, .int .u8 (G.ty.toNat : Int), .int .i64 G.off, .int .i64 G.real] 27)) wb.heap.size 27 (hcells G) := by
    have h := Blk.new (wb.setCell ⟨wa.heap.size, 6, none⟩ (.int .i64 G.size)) 27 (hcells G)
    rw [hsz0] at h
    exact h
  have hb2 : Blk ((wb.setCell ⟨wa.heap.size, 6, none⟩ (.int .i64 G.size)).alloc (.cells #[.string ⟨G.name.toArray⟩, .string ⟨G.pre.toArray⟩, .string ⟨G.link.toArray⟩, .int .i64 G.mode, .int .i64 G.uid, .int .i64 G.gid, .int .i64 G.size, .int .i64 G.time, .int .u8 (G.ty.toNat : Int), .int .i64 G.off, .int .i64 G.real] 27)) w.heap.size 23 (ncells n) := (Hb0.out.far (show w.heap.size ≠ wa.heap.size by omega) _).alloc _
  have hm2 : Blk ((wb.setCell ⟨wa.heap.size, 6, none⟩ (.int .i64 G.size)).alloc (.cells #[.string ⟨G.name.toArray⟩, .string ⟨G.pre.toArray⟩, .string ⟨G.link.toArray⟩, .int .i64 G.mode, .int .i64 G.uid, .int .i64 G.gid, .int .i64 G.size, .int .i64 G.time, .int .u8 (G.ty.toNat : Int), .int .i64 G.off, .int .i64 G.real] 27)) wm.heap.size 23 (ncells (moreN n dm)) := (Hm0.out.far (show wm.heap.size ≠ wa.heap.size by omega) _).alloc _
  have hst : Stp w ((wb.setCell ⟨wa.heap.size, 6, none⟩ (.int .i64 G.size)).alloc (.cells #[.string ⟨G.name.toArray⟩, .string ⟨G.pre.toArray⟩, .string ⟨G.link.toArray⟩, .int .i64 G.mode, .int .i64 G.uid, .int .i64 G.gid, .int .i64 G.size, .int .i64 G.time, .int .u8 (G.ty.toNat : Int), .int .i64 G.off, .int .i64 G.real] 27)) := Stp.alloc (Below.setCell H00.out (p := ⟨wa.heap.size, 6, none⟩) (by show w.heap.size ≤ wa.heap.size; omega) _) _
  clear hsz0 Hz0 Hb0 Hm0 H00 hfree
  change Code.wp _ _ _ _ ((wb.setCell ⟨wa.heap.size, 6, none⟩ (.int .i64 G.size)).alloc (.cells #[.string ⟨G.name.toArray⟩, .string ⟨G.pre.toArray⟩, .string ⟨G.link.toArray⟩, .int .i64 G.mode, .int .i64 G.uid, .int .i64 G.gid, .int .i64 G.size, .int .i64 G.time, .int .u8 (G.ty.toNat : Int), .int .i64 G.off, .int .i64 G.real] 27))
  generalize (wb.setCell ⟨wa.heap.size, 6, none⟩ (.int .i64 G.size)).alloc (.cells #[.string ⟨G.name.toArray⟩, .string ⟨G.pre.toArray⟩, .string ⟨G.link.toArray⟩, .int .i64 G.mode, .int .i64 G.uid, .int .i64 G.gid, .int .i64 G.size, .int .i64 G.time, .int .u8 (G.ty.toNat : Int), .int .i64 G.off, .int .i64 G.real] 27) = W at hz2 hy2 hb2 hm2 hst ⊢
  generalize wa.heap.size = bz at *
  generalize wb.heap.size = by_ at *
  generalize wm.heap.size = bm at *
  have hst2 := Lib.hid hst
  generalize w.heap.size = bn at *
  have key : ∀ W' : World, Stp W W' → (W'.cell? ⟨bn, 0, none⟩ = some (.string ⟨n.path.toArray⟩) ∧ W'.cell? ⟨bn, 1, none⟩ = some (.string ⟨n.link.toArray⟩) ∧ W'.cell? ⟨bn, 2, none⟩ = some (.int .u8 (n.kind.toNat : Int)) ∧ W'.cell? ⟨bn, 3, none⟩ = some (.int .i64 n.mode) ∧ W'.cell? ⟨bn, 4, none⟩ = some (.int .i64 n.uid) ∧ W'.cell? ⟨bn, 5, none⟩ = some (.int .i64 n.gid) ∧ W'.cell? ⟨bn, 6, none⟩ = some (.int .i64 n.time) ∧ W'.cell? ⟨bn, 7, none⟩ = some (.string ⟨n.data.toArray⟩)) ∧ (W'.cell? ⟨bm, 0, none⟩ = some (.string ⟨n.path.toArray⟩) ∧ W'.cell? ⟨bm, 1, none⟩ = some (.string ⟨n.link.toArray⟩) ∧ W'.cell? ⟨bm, 2, none⟩ = some (.int .u8 (n.kind.toNat : Int)) ∧ W'.cell? ⟨bm, 3, none⟩ = some (.int .i64 n.mode) ∧ W'.cell? ⟨bm, 4, none⟩ = some (.int .i64 n.uid) ∧ W'.cell? ⟨bm, 5, none⟩ = some (.int .i64 n.gid) ∧ W'.cell? ⟨bm, 6, none⟩ = some (.int .i64 n.time) ∧ W'.cell? ⟨bm, 7, none⟩ = some (.string ⟨dm.toArray⟩)) ∧ (W'.cell? ⟨bz, 0, none⟩ = some (.string ⟨H.name.toArray⟩) ∧ W'.cell? ⟨bz, 1, none⟩ = some (.string ⟨H.pre.toArray⟩) ∧ W'.cell? ⟨bz, 2, none⟩ = some (.string ⟨H.link.toArray⟩) ∧ W'.cell? ⟨bz, 3, none⟩ = some (.int .i64 H.mode) ∧ W'.cell? ⟨bz, 4, none⟩ = some (.int .i64 H.uid) ∧ W'.cell? ⟨bz, 5, none⟩ = some (.int .i64 H.gid) ∧ W'.cell? ⟨bz, 6, none⟩ = some (.int .i64 G.size) ∧ W'.cell? ⟨bz, 7, none⟩ = some (.int .i64 H.time) ∧ W'.cell? ⟨bz, 8, none⟩ = some (.int .u8 (H.ty.toNat : Int)) ∧ W'.cell? ⟨bz, 9, none⟩ = some (.int .i64 H.off) ∧ W'.cell? ⟨bz, 10, none⟩ = some (.int .i64 H.real)) ∧ (W'.cell? ⟨by_, 0, none⟩ = some (.string ⟨G.name.toArray⟩) ∧ W'.cell? ⟨by_, 1, none⟩ = some (.string ⟨G.pre.toArray⟩) ∧ W'.cell? ⟨by_, 2, none⟩ = some (.string ⟨G.link.toArray⟩) ∧ W'.cell? ⟨by_, 3, none⟩ = some (.int .i64 G.mode) ∧ W'.cell? ⟨by_, 4, none⟩ = some (.int .i64 G.uid) ∧ W'.cell? ⟨by_, 5, none⟩ = some (.int .i64 G.gid) ∧ W'.cell? ⟨by_, 6, none⟩ = some (.int .i64 G.size) ∧ W'.cell? ⟨by_, 7, none⟩ = some (.int .i64 G.time) ∧ W'.cell? ⟨by_, 8, none⟩ = some (.int .u8 (G.ty.toNat : Int)) ∧ W'.cell? ⟨by_, 9, none⟩ = some (.int .i64 G.off) ∧ W'.cell? ⟨by_, 10, none⟩ = some (.int .i64 G.real)) := fun W' hs => ⟨nd_cells (hb2.keep hs hb2.lt), nd_cells (hm2.keep hs hm2.lt), hd_cells (hz2.keep hs hz2.lt), hd_cells (hy2.keep hs hy2.lt)⟩
  have Key := Lib.hid key
  clear key hz2 hy2 hb2 hm2 hst h0 Hz Hy Hm Hb q0 q1 q2 q3 q4 q5 q6 q7 r0 r1 r2 r3 r4 r5 r6 r7 x0 x1 x2 x3 x4 x5 x6 x7 x8 x9 x10 y0 y1 y2 y3 y4 y5 y6 y7 y8 y9 y10
  go_region_held3 (fun w' => (w'.cell? ⟨bn, 0, none⟩ = some (.string ⟨n.path.toArray⟩) ∧ w'.cell? ⟨bn, 1, none⟩ = some (.string ⟨n.link.toArray⟩) ∧ w'.cell? ⟨bn, 2, none⟩ = some (.int .u8 (n.kind.toNat : Int)) ∧ w'.cell? ⟨bn, 3, none⟩ = some (.int .i64 n.mode) ∧ w'.cell? ⟨bn, 4, none⟩ = some (.int .i64 n.uid) ∧ w'.cell? ⟨bn, 5, none⟩ = some (.int .i64 n.gid) ∧ w'.cell? ⟨bn, 6, none⟩ = some (.int .i64 n.time) ∧ w'.cell? ⟨bn, 7, none⟩ = some (.string ⟨n.data.toArray⟩)) ∧ (w'.cell? ⟨bm, 0, none⟩ = some (.string ⟨n.path.toArray⟩) ∧ w'.cell? ⟨bm, 1, none⟩ = some (.string ⟨n.link.toArray⟩) ∧ w'.cell? ⟨bm, 2, none⟩ = some (.int .u8 (n.kind.toNat : Int)) ∧ w'.cell? ⟨bm, 3, none⟩ = some (.int .i64 n.mode) ∧ w'.cell? ⟨bm, 4, none⟩ = some (.int .i64 n.uid) ∧ w'.cell? ⟨bm, 5, none⟩ = some (.int .i64 n.gid) ∧ w'.cell? ⟨bm, 6, none⟩ = some (.int .i64 n.time) ∧ w'.cell? ⟨bm, 7, none⟩ = some (.string ⟨dm.toArray⟩)) ∧ (w'.cell? ⟨bz, 0, none⟩ = some (.string ⟨H.name.toArray⟩) ∧ w'.cell? ⟨bz, 1, none⟩ = some (.string ⟨H.pre.toArray⟩) ∧ w'.cell? ⟨bz, 2, none⟩ = some (.string ⟨H.link.toArray⟩) ∧ w'.cell? ⟨bz, 3, none⟩ = some (.int .i64 H.mode) ∧ w'.cell? ⟨bz, 4, none⟩ = some (.int .i64 H.uid) ∧ w'.cell? ⟨bz, 5, none⟩ = some (.int .i64 H.gid) ∧ w'.cell? ⟨bz, 6, none⟩ = some (.int .i64 G.size) ∧ w'.cell? ⟨bz, 7, none⟩ = some (.int .i64 H.time) ∧ w'.cell? ⟨bz, 8, none⟩ = some (.int .u8 (H.ty.toNat : Int)) ∧ w'.cell? ⟨bz, 9, none⟩ = some (.int .i64 H.off) ∧ w'.cell? ⟨bz, 10, none⟩ = some (.int .i64 H.real)) ∧ (w'.cell? ⟨by_, 0, none⟩ = some (.string ⟨G.name.toArray⟩) ∧ w'.cell? ⟨by_, 1, none⟩ = some (.string ⟨G.pre.toArray⟩) ∧ w'.cell? ⟨by_, 2, none⟩ = some (.string ⟨G.link.toArray⟩) ∧ w'.cell? ⟨by_, 3, none⟩ = some (.int .i64 G.mode) ∧ w'.cell? ⟨by_, 4, none⟩ = some (.int .i64 G.uid) ∧ w'.cell? ⟨by_, 5, none⟩ = some (.int .i64 G.gid) ∧ w'.cell? ⟨by_, 6, none⟩ = some (.int .i64 G.size) ∧ w'.cell? ⟨by_, 7, none⟩ = some (.int .i64 G.time) ∧ w'.cell? ⟨by_, 8, none⟩ = some (.int .u8 (G.ty.toNat : Int)) ∧ w'.cell? ⟨by_, 9, none⟩ = some (.int .i64 G.off) ∧ w'.cell? ⟨by_, 10, none⟩ = some (.int .i64 G.real)))
    (first | exact Key.out _ (Stp.drewN (Stp.refl _) 1) | exact Key.out _ H3.out | exact Key.out _ H4.out)
    (first
    | (go_at_call 16; (with_reducible refine (HI.out.many (moreN n dm) _ rfl HSm.out _).mono ?_); rintro e w3 ⟨rfl, hs⟩; rw [HN2.out]; have H3 := Lib.hid (Stp.trans (Stp.drewN (Stp.refl W) 1) hs); clear hs)
    | (go_at_call 16; (with_reducible refine (HI.out.many n _ rfl Hn.out _).mono ?_); rintro e w4 ⟨rfl, hs⟩; rw [HN1.out]; have H4 := Lib.hid (Stp.trans H3.out hs); clear hs))
  all_goals go_wp2_with fail
  all_goals go_ret
  all_goals exact ⟨rfl, Stp.trans hst2.out H4.out⟩
theorem grows_s (I : EntryI) (n : Nd) (hn : SmallN n) (q : ByteArray) (hq : q.size ≤ maxLen) (w : World) :
    Calls Try.prog 8 #[nv n, .string q] w fun e w' => e = .returned (.bool true) ∧ Below w.heap.size w w' := by
  obtain ⟨more, rfl, -⟩ := Str.str_form q hq
  by_cases hno : fewN n = false ∨ decide ((2000 : Int) < (more.length : Int)) = true ∨ ((n.kind.toNat : Int) != 48) = true ∨ oneB n = false
  · exact grows_no I n hn more w _ _ _ _ rfl rfl rfl rfl hno
  · simp only [not_or, Bool.not_eq_false, Bool.not_eq_true, decide_eq_false_iff_not] at hno
    obtain ⟨hF, hb, hc, hO⟩ := hno
    have hk : n.kind = 48 := by
      refine UInt8.toNat_inj.1 ?_
      simp at hc
      show n.kind.toNat = 48
      omega
    by_cases hbig : 4000 < (n.data ++ more).length
    · exact grows_big I n hn more w hF hO hk (by omega) hbig
    · exact grows_in I n hn more w hF hO hk (by omega) hbig
end Go.Proofs.Ytihigbaaajmjlaa.Entry
